import PyProof.Rows.All
import Wide.All
import OpenK.AllK
import Wide.FinOn
import Lean
import PyProof.EqAt
import PyProof.EqKinds
import PyProof.TupleCall
import PySem.Challenge.RW_ringhouse_k26_stair_hidden
set_option Elab.async false
set_option linter.all false
open PySem.W (methodObj Frag keepIn cellsFrom_some fnOf codeIn nsIn mg_of mg_none_of)
open List (mem_cons_self mem_cons_of_mem mem_append_left set_comm mem_append_right append_nil of_mem_zip replicate length length_take getElem?_append_right getElem?_replicate getElem?_append_left getElem?_map mem_of_getElem? length_append length_map length_replicate size_toArray length_drop length_set reverse_cons replicate_succ flatten_cons foldl map_nil map_cons length_cons getElem?_set getD_eq_getElem?_getD getElem?_eq_getElem lookup_cons forIn_cons forIn_nil mem_cons not_mem_nil nodup_cons nodup_nil map_append set_set map_set ext_getElem? map_map take_succ take_of_length_le length_nil getElem_mem length_range range_succ getElem?_eq_none map_congr_left map_take getElem?_drop map_drop Nodup)
open Nat (lt_of_lt_of_le lt_irrefl ne_of_lt le_trans le_of_lt ne_of_gt le_refl add_comm mul_comm zero_le zero_lt_succ min_eq_left mul_le_mul pow_add min_self sub_self pow_le_pow_right not_lt_zero add_assoc)
open Int (mul_one toNat_natCast emod_nonneg emod_lt_of_pos le_of_dvd emod_add_mul_ediv mul_neg mul_nonneg natAbs_mul natAbs_ediv_le_natAbs mul_zero toNat pow_nonneg)
open Bool (and_eq_true false_xor beq_eq_decide_eq true_xor false_eq_true)
open PySem.Heap (lt_size SameBut get?_push_of_some get?_push_size size_push ExtBut)
open Option (getD_none bind_some map_some)
open Array (length_toList toList)
set_option maxRecDepth 100000
namespace L2
open PySem PySem.Spec PyProof.Rows
abbrev Key:=Sum Int Str
def a84:Key->Value->Bool
 | .inl k,v=>Value.isInt k v
 | .inr x,v=>Value.isStrOf x v
def keyH (w:World):Key->Int
 | .inl k=>hashInt k
 | .inr x=>hashStr w x
theorem cK: ∀{k:Key} {v:Value},a84 k v=true->(∃i t,k=Sum.inl i/\v=Value.int i t)\/(∃x t,k=Sum.inr x/\v=Value.str x t)
 | .inl i,v,h=>by
  obtain⟨t,e⟩:=Value.isInt_shape (k:=i) (v:=v) h;exact .inl ⟨i,t,rfl,e⟩
 | .inr x,v,h=>by
  obtain⟨t,e⟩:=Value.isStrOf_shape (x:=x) (v:=v) h;exact .inr ⟨x,t,rfl,e⟩
theorem key_ll (a b:Int):decide ((Sum.inl a:Key)=Sum.inl b)=(a==b):=by
 by_cases e:a=b
 ·subst e;simp
 ·have h: ¬(Sum.inl a:Key)=Sum.inl b:=λq=>e (Sum.inl.inj q)
  rw[decide_eq_false h];exact(beq_eq_false_iff_ne.mpr e).symm
theorem key_rr (a b:Str):decide ((Sum.inr a:Key)=Sum.inr b)=decide (a=b):=by
 by_cases e:a=b
 ·subst e;simp
 ·have h: ¬(Sum.inr a:Key)=Sum.inr b:=λq=>e (Sum.inr.inj q)
  rw[decide_eq_false h,decide_eq_false e]
theorem key_lr (a:Int)(b:Str):decide ((Sum.inl a:Key)=Sum.inr b)=false:=decide_eq_false (λq=>nomatch q)
theorem key_rl (a:Str)(b:Int):decide ((Sum.inr a:Key)=Sum.inl b)=false:=decide_eq_false (λq=>nomatch q)
def vO (prog:Program)(w:World):PySem.KeyKind prog w Key where
 is:=a84
 hash:=keyH w
 inj:=λv a b ha hb=>by
  rcases cK ha with⟨i,t,rfl,rfl⟩| ⟨x,t,rfl,rfl⟩
  ·rcases cK hb with⟨j,u,rfl,e⟩| ⟨y,u,rfl,e⟩
   ·injection e with e1 _;rw[e1]
   ·exact nomatch e
  ·rcases cK hb with⟨j,u,rfl,e⟩| ⟨y,u,rfl,e⟩
   ·exact nomatch e
   ·injection e with e1 _;rw[e1]
 byValue:=λk v h=>by
  rcases cK h with⟨i,t,rfl,rfl⟩| ⟨x,t,rfl,rfl⟩<;>rfl
 pyHash:=λhv h=>by
  rcases cK hv with⟨i,t,rfl,rfl⟩| ⟨x,t,rfl,rfl⟩
  ·exact wpAny_pyHash_int h
  ·exact wpAny_pyHash_str h
 eqBool:=λhu hv h=>by
  rcases cK hu with⟨i,t,rfl,rfl⟩| ⟨x,t,rfl,rfl⟩
  ·rcases cK hv with⟨j,u,rfl,rfl⟩| ⟨y,u,rfl,rfl⟩
   ·rw[key_ll]at h;exact wpAny_eqBool_int h
   ·rw[key_lr]at h;exact SeqAt.EqAt.int_str i t y u _ _ _ _ h
  ·rcases cK hv with⟨j,u,rfl,rfl⟩| ⟨y,u,rfl,rfl⟩
   ·rw[key_rl]at h;exact SeqAt.EqAt.str_int x t j u _ _ _ _ h
   ·rw[key_rr]at h;exact wpAny_eqBool_str h
 «strs» :=λk x t v h=>by
  rcases cK h with⟨i,u,rfl,e⟩| ⟨y,u,rfl,e⟩
  ·exact nomatch e
  ·injection e with e1 _
   subst e1;cases v<;>rfl
end L2
namespace L2
open PySem PySem.Spec PyProof.Rows
inductive V where
 | non|bl (b:Bool)|int (i:Int)|str (x:Str)|byt (b:Array UInt8)|flt (b:UInt64)|ref (a:Addr)|ty (n:String)
 deriving DecidableEq
def RelV:V->Value->Prop
 | .non,u=>u=Value.none
 | .bl b,u=>u=Value.bool b
 | .int i,u=> ∃t,u=Value.int i t
 | .str x,u=> ∃t,u=Value.str x t
 | .byt b,u=> ∃t,u=Value.bytes b t
 | .flt b,u=> ∃t,u=Value.float b t
 | .ref a,u=>u=Value.ref a
 | .ty n,u=>u=Value.type n
abbrev bC:List V->List Value->Prop:=Paired RelV
theorem bC.length {xs:List V}{us:List Value}(r:bC xs us):xs.length=us.length:=Paired.length r
theorem bC.get: ∀{xs:List V} {us:List Value} {i:Nat} {x:V},bC xs us->xs[i]? =some x-> ∃u,us[i]? =some u/\RelV x u
 | _,_,_,_,.nil,e=>by simp at e
 | _,_,0,_,.cons r _,e=>by simp at e;subst e;exact⟨_,rfl,r⟩
 | _,_,i+1,x,.cons _ t,e=>by
  obtain⟨u,h1,h2⟩:=bC.get (i:=i) (x:=x) t (by simpa using e)
  exact⟨u,by simpa using h1,h2⟩
theorem bC.set {x:V}{u:Value}(r:RelV x u): ∀{xs:List V} {us:List Value} (i:Nat),bC xs us->bC (xs.set i x) (us.set i u)
 | _,_,_,.nil=> .nil
 | _,_,0,.cons _ t=> .cons r t
 | _,_,i+1,.cons q t=> .cons q (bC.set r i t)
theorem bC.append: ∀{xs ys:List V} {us ws:List Value},bC xs us->bC ys ws->bC (xs++ys) (us++ws)
 | _,_,_,_,.nil,s=>s
 | _,_,_,_,.cons r t,s=> .cons r (bC.append t s)
theorem bC.take: ∀{xs:List V} {us:List Value} (n:Nat),bC xs us->bC (xs.take n) (us.take n)
 | _,_,0,_=> .nil
 | _,_,_+1,.nil=> .nil
 | _,_,n+1,.cons r t=> .cons r (bC.take n t)
theorem bC.drop: ∀{xs:List V} {us:List Value} (n:Nat),bC xs us->bC (xs.drop n) (us.drop n)
 | _,_,0,r=>r
 | _,_,_+1,.nil=> .nil
 | _,_,n+1,.cons _ t=>bC.drop n t
def RelO:Option V->Option Value->Prop
 | some v,some u=>RelV v u
 | none,none=>True
 | _,_=>False
def KV {κ:Type}:List (κ×V)->List (κ×Value)->Prop:=Paired fun(p:κ×V) (q:κ×Value)=>p.1=q.1/\RelV p.2 q.2
def kV:Key->V
 | .inl i=> .int i
 | .inr x=> .str x
inductive HO where
 | lst (xs:List V)
 | tup (xs:List V)
 | dK (kvs:List (Key×V))|dT (kvs:List (List Key×V))
 | set (S:Int->Bool) (n:Nat)
 | ins (C dx:Addr) (fs:List (Str×V))
 | own (x:Addr)
 | xd (fs:List (Str×V))
 | met (f x:Addr)
 | rng (lo hi:Int)
 | frz (o:Obj) (u:HO)
 | tbl (ps:Array Value)
 | ext (φ:Heap->Prop)
abbrev Hp:=Addr->Option HO
def upd (H:Hp)(a:Addr)(o:HO):Hp:=λb=>if b=a then some o else H b
theorem fM {H:Hp}{a:Addr}{o:HO}:upd H a o a=some o:=by unfold upd;rw[if_pos rfl]
theorem bF {H:Hp}{a b:Addr}{o:HO}(h:b≠a):upd H a o b=H b:=by unfold upd;rw[if_neg h]
theorem cD {H:Hp}{a b:Addr}{o:HO}(h:H a=some o)(h':H b=none):a≠b:=by
 intro e;subst e;rw[h]at h';cases h'
section
variable (P:Program)(w:World)
def gF (H:Hp)(h:Heap)(a:Addr):HO->Prop
 | .lst xs=>xs.length<=sizeLine/\ ∃(its:List Value) (n:Nat),bC xs its/\h.get? a=some {cls:= .type "list",data:= .seq its.toArray n}
 | .tup xs=>xs.length<=sizeLine/\ ∃its:List Value,bC xs its/\IsTup h a its.toArray
 | .dK kvs=>kvs.length<=sizeLine/\(a==sysModules)=false/\ ∃vs,KV kvs vs/\h.DictOf (vO P w) a vs
 | .dT kvs=>kvs.length<=sizeLine/\(a==sysModules)=false/\ ∃xs:List (List Key×Addr×Value),
   Paired (fun(p:List Key×V) (q:List Key×Addr×Value)=>p.1=q.1/\H q.2.1=some (.tup (p.1.map kV))/\RelV p.2 q.2.2) kvs xs/\
   ∃o es ep,h.get? a=some o/\o.ExactDict/\o.data= .dict es ep/\es.toList=xs.map (entryOfKey (tupleKind (vO P w)))/\(xs.map (·.1)).Nodup
 | .set S n=>h.SetOf (intKind P w) a S n
 | .ins C dx fs=>H dx=some (.own a)/\fs.length<=1000/\dx≠a/\h.get? a=some (PySem.W.instObj C dx)/\
   ∃mA,h.Ns1 dx mA/\(∀f,RelO (fs.lookup f) (mA f))/\PySem.Within mA (fs.map (·.1))
 | .own _=> ∃o,h.get? a=some o
 | .xd fs=> ∃mA,h.Ns1 a mA/\ ∀f,RelO (fs.lookup f) (mA f)
 | .rng lo hi=> ∃t u v,h.get? a=some {cls:= .type "range",data:= .fields #[.int lo t,.int hi u,.int 1 v]}
 | .frz o u=>h.get? a=some o/\gF H h a u
 | .tbl ps=>h.get? a=some {cls:= .none,data:= .fields ps}
 | .met f x=>h.get? a=some (methodObj (.ref f) (.ref x))
 | .ext φ=>φ h/\(∃o,h.get? a=some o)/\ ∀h1 h2:Heap,φ h1->(∀o,h1.get? a=some o->h2.get? a=some o)->φ h2
def HOk (H:Hp)(h:Heap):Prop:= ∀a o,H a=some o->gF P w H h a o
end
section
variable {P:Program}{w:World}{H H':Hp}{h h':Heap}{a:Addr}{o:HO}
theorem gF.lt (x:gF P w H h a o):a<h.objs.size:=by
 cases o with
 | lst xs=>obtain⟨_,_,_,_,e⟩:=x;exact lt_size e
 | tup xs=>obtain⟨_,_,_,p⟩:=x;exact p.lt
 | dK kvs=>obtain⟨_,_,_,_,o,_,_,e,_⟩:=x;exact lt_size e
 | dT kvs=>obtain⟨_,_,_,_,o,_,_,e,_⟩:=x;exact lt_size e
 | set S n=>obtain⟨o,_,_,_,e,_⟩:=x;exact lt_size e
 | ins C dx fs=>obtain⟨_,_,_,e,_⟩:=x;exact lt_size e
 | own y=>obtain⟨_,e⟩:=x;exact lt_size e
 | xd fs=>obtain⟨_,⟨_,_,_,e,_⟩,_⟩:=x;exact lt_size e
 | rng lo hi=>obtain⟨_,_,_,e⟩:=x;exact lt_size e
 | frz ob u=>obtain⟨e,_⟩:=x;exact lt_size e
 | tbl ps=>exact lt_size (show h.get? a=some _ from x)
 | met f y=>exact lt_size (show h.get? a=some _ from x)
 | ext φ=>obtain⟨_,⟨_,e⟩,_⟩:=x;exact lt_size e
theorem Paired.mapP {α β:Type}{F G:α->β->Prop}: ∀{l₁:List α} {l₂:List β},Paired F l₁ l₂->(∀a b,F a b->G a b)->Paired G l₁ l₂
 | _,_,.nil,_=> .nil
 | _,_,.cons r t,f=> .cons (f _ _ r) (Paired.mapP t f)
theorem gF.stay (x:gF P w H h a o)(k: ∀b u,(b=a\/H b=some (.own a))->h.get? b=some u->h'.get? b=some u)
  (ho: ∀b,H b=some (.own a)->H' b=some (.own a)) (ht: ∀b xs,H b=some (.tup xs)->H' b=some (.tup xs)):gF P w H' h' a o:=by
 induction o with
 | lst xs=>obtain⟨z,its,n,r,e⟩:=x;exact⟨z,its,n,r,k _ _ (.inl rfl) e⟩
 | tup xs=>obtain⟨z,its,r,ob,e,c⟩:=x;exact⟨z,its,r,ob,k _ _ (.inl rfl) e,c⟩
 | dK kvs=>obtain⟨z,y,vs,r,ob,es,ep,e,c⟩:=x;exact⟨z,y,vs,r,ob,es,ep,k _ _ (.inl rfl) e,c⟩
 | dT kvs=>
  obtain⟨z,y,xs,r,ob,es,ep,e,c⟩:=x;exact⟨z,y,xs,Paired.mapP r λp q z=>⟨z.1,ht _ _ z.2.1,z.2.2⟩,ob,es,ep,k _ _ (.inl rfl) e,c⟩
 | set S n=>obtain⟨ob,es,ep,t,e,c⟩:=x;exact⟨ob,es,ep,t,k _ _ (.inl rfl) e,c⟩
 | ins C dx fs=>
  obtain⟨d,z,ne,e,mA,⟨od,es,ep,e2,c⟩,r⟩:=x;exact⟨ho _ d,z,ne,k _ _ (.inl rfl) e,mA,⟨od,es,ep,k _ _ (.inr d) e2,c⟩,r⟩
 | own y=>obtain⟨ob,e⟩:=x;exact⟨ob,k _ _ (.inl rfl) e⟩
 | xd fs=>obtain⟨mA,⟨od,es,ep,e,c⟩,r⟩:=x;exact⟨mA,⟨od,es,ep,k _ _ (.inl rfl) e,c⟩,r⟩
 | rng lo hi=>obtain⟨t,u,v,e⟩:=x;exact⟨t,u,v,k _ _ (.inl rfl) e⟩
 | frz ob u ih=>obtain⟨e,q⟩:=x;exact⟨k _ _ (.inl rfl) e,ih q⟩
 | tbl ps=>
  have e:h.get? a=some {cls:= .none,data:= .fields ps}:=x;show h'.get? a=some {cls:= .none,data:= .fields ps};exact k a _ (.inl rfl) e
 | met f y=>
  have e:h.get? a=some (methodObj (.ref f) (.ref y)):=x;show h'.get? a=some (methodObj (.ref f) (.ref y));exact k a _ (.inl rfl) e
 | ext φ=>obtain⟨p,⟨o,e⟩,st⟩:=x;exact⟨st _ _ p λo q=>k _ _ (.inl rfl) q,⟨o,k _ _ (.inl rfl) e⟩,st⟩
theorem HOk.lt (x:HOk P w H h)(e:H a=some o):a<h.objs.size:=(x a o e).lt
theorem HOk.fresh (x:HOk P w H h)(e:h.objs.size<=a):H a=none:=by
 cases q:H a with
 | none=>rfl
 | some u=>exact absurd (lt_of_lt_of_le (x.lt q) e) (lt_irrefl _)
theorem HOk.kept (x:HOk P w H h)(k: ∀b u,h.get? b=some u->h'.get? b=some u):HOk P w H h':=λa o e=>
 (x a o e).stay (λb u _ q=>k b u q) (λ_ q=>q) λ_ _ q=>q
theorem HOk.laid (x:HOk P w H h)(k: ∀b u,h.get? b=some u->h'.get? b=some u)(hp:h.objs.size<=a)(new:gF P w (upd H a o) h' a o):HOk P w (upd H a o) h':=λb u e=>by
 have hn:=x.fresh hp
 by_cases hb:b=a
 ·subst hb;rw[fM]at e;cases e;exact new
 ·rw[bF hb]at e;exact(x b u e).stay (λc v _ q=>k c v q) (λc q=>by rw[bF (cD q hn)];exact q) λc xs q=>by rw[bF (cD q hn)];exact q
end
def Rd (H:Hp)(a:Addr)(u:HO):Prop:=H a=some u\/ ∃o,H a=some (.frz o u)
theorem Rd.of {H:Hp}{a:Addr}{u:HO}(h:H a=some u):Rd H a u:= .inl h
theorem Rd.ok {P:Program}{w:World}{H:Hp}{h:Heap}{a:Addr}{u:HO}(r:Rd H a u)(x:HOk P w H h):gF P w H h a u:=by
 rcases r with r| ⟨o,r⟩
 ·exact x a u r
 ·obtain⟨_,q⟩:=x a _ r;exact q
def Mut:Option HO->Prop
 | some (.lst _)=>True
 | some (.dK _)=>True
 | some (.dT _)=>True
 | some (.set _ _)=>True
 | some (.ins _ _ _)=>True
 | some (.ext _)=>True
 | _=>False
section
variable {P:Program}{w:World}{H:Hp}{h h':Heap}{x e:Addr}{o':HO}
theorem HOk.write (ok:HOk P w H h)(mu:Mut (H x))(he:e=x\/H e=some (.own x))(k: ∀b u,b≠e->h.get? b=some u->h'.get? b=some u)(heo: ∃u,h'.get? e=some u)
  (new:gF P w (upd H x o') h' x o'):HOk P w (upd H x o') h':=λb u q=>by
 have nown: ∀c y,H c=some (.own y)->c≠x:=λc y r z=>by subst z;rw[r]at mu;exact mu
 have ntup: ∀c xs,H c=some (.tup xs)->c≠x:=λc xs r z=>by subst z;rw[r]at mu;exact mu
 by_cases hb:b=x
 ·subst hb;rw[fM]at q;cases q;exact new
 ·rw[bF hb]at q
  by_cases hbe:b=e
  ·have q':H b=some (.own x):=by
    rcases he with z|z
    ·exact absurd (hbe.trans z) hb
    ·rw[hbe];exact z
   rw[q]at q';cases q';obtain⟨v,hv⟩:=heo;exact⟨v,by rw[hbe];exact hv⟩
  ·refine(ok b u q).stay (λc v hc r=>k c v ?_ r) (λc r=>by rw[bF (nown c b r)];exact r) λc xs r=>by rw[bF (ntup c xs r)];exact r
   rcases hc with rfl|hc
   ·exact hbe
   ·rintro rfl;rcases he with z|z
    ·exact nown c b hc z
    ·rw[hc]at z;cases z;exact hb rfl
end
structure Un (fs ex:List Addr)(H H':Hp)(h h':Heap):Prop where
 keep: ∀b o,h.get? b=some o->H b=none->b ∉ fs->b ∉ ex->h'.get? b=some o
 slot: ∀b o,h.get? b=some o->H b=none->b∈fs->b ∉ ex-> ∃sl,h'.get? b=some {o with slots:=sl}
 free: ∀b o,h.get? b=some o->H b=none->b ∉ ex->H' b=none
 there: ∀b o,h.get? b=some o->b ∉ ex-> ∃o',h'.get? b=some o'
 tups: ∀b xs,H b=some (.tup xs)->H' b=some (.tup xs)
 frzs: ∀b o u,H b=some (.frz o u)->H' b=some (.frz o u)
 tbls: ∀b ps,H b=some (.tbl ps)-> ∃more,H' b=some (.tbl (ps++more))
section
variable {fs fs' ex ex':List Addr}{H H1 H2:Hp}{h h1 h2 h':Heap}{a x e:Addr}{o:HO}
theorem Un.any (u:Un fs ex H H1 h h1){b:Addr}{ob:Obj}(q:h.get? b=some ob)(n:H b=none)(hx:b ∉ ex): ∃sl,h1.get? b=some {ob with slots:=sl}:=by
 by_cases hb:b∈fs
 ·exact u.slot b ob q n hb hx
 ·exact⟨ob.slots,u.keep b ob q n hb hx⟩
theorem Un.trans (a:Un fs ex H H1 h h1)(b:Un fs ex H1 H2 h1 h2):Un fs ex H H2 h h2 where
 keep:=λc ob q n hc hx=>b.keep c ob (a.keep c ob q n hc hx) (a.free c ob q n hx) hc hx
 slot:=λc ob q n hc hx=>by
  obtain⟨sl,e1⟩:=a.slot c ob q n hc hx;obtain⟨sl',e2⟩:=b.slot c _ e1 (a.free c ob q n hx) hc hx;exact⟨sl',e2⟩
 free:=λc ob q n hx=>by
  obtain⟨o',e1⟩:=a.there c ob q hx;exact b.free c o' e1 (a.free c ob q n hx) hx
 there:=λc ob q hx=>by
  obtain⟨o',e1⟩:=a.there c ob q hx;exact b.there c o' e1 hx
 tups:=λc xs q=>b.tups c xs (a.tups c xs q)
 frzs:=λc ob xs q=>b.frzs c ob xs (a.frzs c ob xs q)
 tbls:=λc ps q=>by
  obtain⟨m1,e1⟩:=a.tbls c ps q;obtain⟨m2,e2⟩:=b.tbls c _ e1;exact⟨m1++m2,by rw[e2,Array.append_assoc]⟩
theorem Un.kept (k: ∀b u,h.get? b=some u->h'.get? b=some u):Un fs ex H H h h':=
 ⟨λb ob q _ _ _=>k b ob q,λb ob q _ _ _=>⟨ob.slots,k b ob q⟩,λ_ _ _ n _=>n,λb ob q _=>⟨ob,k b ob q⟩,λ_ _ q=>q,λ_ _ _ q=>q,λ_ ps q=>⟨#[],by rw[q];simp⟩⟩
theorem Un.refl:Un fs ex H H h h:=Un.kept λ_ _ q=>q
theorem Un.laid (k: ∀b u,h.get? b=some u->h'.get? b=some u)(hp:h.objs.size<=a)(hn:H a=none):Un fs ex H (upd H a o) h h' where
 keep:=λb u q _ _ _=>k b u q
 slot:=λb u q _ _ _=>⟨u.slots,k b u q⟩
 free:=λb u q n _=>by rw[bF (ne_of_lt (lt_of_lt_of_le (lt_size q) hp))];exact n
 there:=λb u q _=>⟨u,k b u q⟩
 tups:=λb xs q=>by rw[bF (cD q hn)];exact q
 frzs:=λb u xs q=>by rw[bF (cD q hn)];exact q
 tbls:=λb ps q=>⟨#[],by rw[bF (cD q hn),q];simp⟩
theorem Un.write (mu:Mut (H x))(he:e=x\/H e=some (.own x))(k: ∀b u,b≠e->h.get? b=some u->h'.get? b=some u)(heo: ∃u,h'.get? e=some u):Un fs ex H (upd H x o) h h':=by
 have hx: ∀b,H b=none->b≠x:=λb n z=>by subst z;rw[n]at mu;exact mu
 have hb: ∀b,H b=none->b≠e:=λb n z=>by
  subst z;rcases he with r|r
  ·exact hx b n r
  ·rw[n]at r;cases r
 have hm: ∀b u,H b=some u-> ¬Mut (some u)->b≠x:=λb u q nm z=>by subst z;rw[q]at mu;exact nm mu
 refine⟨λb u q n _ _=>k b u (hb b n) q,λb u q n _ _=>⟨u.slots,k b u (hb b n) q⟩,λb u q n _=>by rw[bF (hx b n)];exact n,λb u q _=> ?_,
  λb xs q=>by rw[bF (hm b _ q λz=>z)];exact q,λb u xs q=>by rw[bF (hm b _ q λz=>z)];exact q,λb ps q=>⟨#[],by rw[bF (hm b _ q λz=>z),q];simp⟩⟩
 by_cases hbe:b=e
 ·subst hbe;exact heo
 ·exact⟨u,k b u hbe q⟩
theorem Un.mono (u:Un fs ex H H1 h h1)(hs: ∀b∈fs,b∈fs')(hx: ∀b∈ex,b∈ex'):Un fs' ex' H H1 h h1:=
 ⟨λb ob q n hb he=>u.keep b ob q n (λz=>hb (hs b z)) λz=>he (hx b z),λ_ _ q n _ he=>u.any q n λz=>he (hx _ z),λb ob q n he=>u.free b ob q n λz=>he (hx b z),λb ob q he=>u.there b ob q λz=>he (hx b z),u.tups,u.frzs,u.tbls⟩
end
def trk (h:Heap)(H:Hp):List Addr:=(List.range h.objs.size).filter λa=>(H a).isSome
def rN (h:Heap)(H:Hp):Heap:=PySem.W.hideAll h (trk h H)
theorem wT (h:Heap)(H:Hp):(rN h H).objs.size=h.objs.size:=PySem.W.hideAll_size _ _
theorem xY {h:Heap}{H:Hp}{b:Addr}{o:Obj}(e:h.get? b=some o)(n:H b=none):(rN h H).get? b=some o:=
 PySem.W.hideAll_get _ e λhm=>by
  have q:(H b).isSome=true:=(List.mem_filter.mp hm).2;rw[n]at q;simp at q
theorem a31 {h:Heap}{H:Hp}{b:Addr}{o:Obj}(e:(rN h H).get? b=some o):h.get? b=some o/\H b=none:=by
 have e':h.get? b=some o:=PySem.W.of_hideAll (trk h H) e;refine⟨e',?_⟩;cases q:H b with
 | none=>rfl
 | some x=>
  have hm:b∈trk h H:=List.mem_filter.mpr ⟨List.mem_range.mpr (lt_size e'),by simp[q]⟩
  have z:(rN h H).get? b=none:=PySem.W.hideAll_none (trk h H) hm;rw[z]at e;cases e
def a32 (g h:Heap)(L:Addr):List (Addr×Obj):=(List.range h.objs.size).filterMap λa=>if a=L\/(g.get? a).isSome=true then none else(h.get? a).map λo=>(a,o)
def mV (g h:Heap)(L d:Addr):List (Addr×Obj):=(a32 g h L).filter λp=>decide (p.1≠d)
end L2
namespace L2
open PySem PySem.Spec PyProof.Rows
structure Mod (K:Frag)(mg:Str->Option Value)(base:Heap):Prop where
 kin:K.In base
 glob:base.Ns mainGlobals mg
 blt: ∃mb,base.Ns builtinsNs mb/\ ∀x:Str,x≠"__name__"->mb x=bootBuiltins x
 nolimit:base.NoLimit
structure Cx where
 prog:Program
 w:World
 K:Frag
 mg:Str->Option Value
 base:Heap
 A:Around
 N:List Str
 s₀:Shared
 H₀:Hp
 env:Env
 outer:List Env
 stack:List Env
 ex:List Addr
 fn:Str->Bool
 calm:Bool
 pn:List (Addr×Obj)
 xe:Value->Shared->Prop
def frs (l:List Env):List Addr:=l.filterMap (·.frame)
abbrev Cx.fs (X:Cx):List Addr:=frs X.outer
def Vis (sc:Scope)(x:Str):Prop:=sc.names.lookup x=some .local\/sc.names.lookup x=some .cell\/sc.names.lookup x=some .free
def Loc (sc:Scope)(x:Str):Prop:=sc.names.lookup x=some .local\/sc.names.lookup x=some .cell
def Look (env:Env)(h:Heap)(m:Str->Option Value)(x:Str)(u:Value):Prop:=
 (env.kindOf x=some .local/\m x=some u)\/((env.kindOf x=some .cell\/env.kindOf x=some .free)/\ ∃c,env.cells.lookup x=some c/\h.IsCell c (some u))
structure Cx.Ok (X:Cx):Prop where
 mod:Mod X.K X.mg X.base
 kind:X.env.scope.kind= .function
 glob:X.env.globals=mainGlobals
 blt:X.env.builtins=builtinsNs
 above:X.s₀.heap.objs.size<=X.env.locals
 inj: ∀x y c,X.env.cells.lookup x=some c->X.env.cells.lookup y=some c->x=y
 has: ∀x,(X.env.kindOf x=some .cell\/X.env.kindOf x=some .free)-> ∃c,X.env.cells.lookup x=some c
 cab: ∀x c,X.fn x=true->X.env.cells.lookup x=some c->X.s₀.heap.objs.size<=c
 hd:X.calm=true->X.A.handled=none
 frames:X.A.frames=some X.stack
 stk:X.stack=X.outer\/(X.stack=X.env::X.outer/\X.env.frame=some X.env.locals)
 exf: ∀b∈X.ex,b≠X.env.locals/\ ∀x c,X.env.cells.lookup x=some c->c≠b
 bs: ∀b o,X.base.get? b=some o->X.s₀.heap.get? b=some o/\X.H₀ b=none
 bsz:X.base.objs.size<=X.s₀.heap.objs.size
 noex: ∀b o,X.base.get? b=some o->b ∉ X.ex
 exfs: ∀b∈X.ex,b ∉ X.fs
 funs:X.s₀.heap.FunFrames X.base X.outer
 frf: ∀b∈X.fs,X.H₀ b=none
structure Inv (X:Cx)(pins:List (Addr×Obj))(σ:List (Option V))(H:Hp)(s:Shared):Prop where
 ok:X.Ok
 os:s.os=X.s₀.os
 bare:AllBare s.gens
 base:Un X.fs X.ex X.H₀ H X.s₀.heap s.heap
 loc: ∃m,s.heap.Ns X.env.locals m/\ ∀(i:Nat) (x:Str) (v:V),X.N[i]? =some x->σ[i]? =some (some v)->Vis X.env.scope x-> ∃u,RelV v u/\Look X.env s.heap m x u
 cell: ∀x c,X.env.cells.lookup x=some c-> ∃v,s.heap.IsCell c v
 free:H X.env.locals=none
 freeC: ∀x c,X.env.cells.lookup x=some c->H c=none
 pin: ∀p∈X.pn++pins,s.heap.get? p.1=some p.2/\H p.1=none/\p.1≠X.env.locals/\p.1 ∉ X.fs/\ ∀v,p.2.data≠ .cell v
 hok:HOk X.prog X.w H s.heap
 len:σ.length=X.N.length
section
variable {X:Cx}{pins:List (Addr×Obj)}{σ:List (Option V)}{H H':Hp}{s:Shared}{h':Heap}
theorem Cx.Ok.nofr (ok:X.Ok){b:Addr}{o:Obj}(e:X.base.get? b=some o):b ∉ X.fs:=λhb=>by
 have:=(ok.funs.mem hb).1;rw[e]at this;cases this
theorem Inv.bs (I:Inv X pins σ H s): ∀b o,X.base.get? b=some o->s.heap.get? b=some o/\H b=none:=λb o e=>
 ⟨I.base.keep b o (I.ok.bs b o e).1 (I.ok.bs b o e).2 (I.ok.nofr e) (I.ok.noex b o e),I.base.free b o (I.ok.bs b o e).1 (I.ok.bs b o e).2 (I.ok.noex b o e)⟩
theorem Inv.bk (I:Inv X pins σ H s): ∀b o,X.base.get? b=some o->s.heap.get? b=some o:=λb o e=>(I.bs b o e).1
theorem Inv.mod (I:Inv X pins σ H s):Mod X.K X.mg X.base:=I.ok.mod
theorem Inv.kIn (I:Inv X pins σ H s):X.K.In s.heap:=I.ok.mod.kin.keeps I.bk
theorem Inv.nolimit (I:Inv X pins σ H s):s.heap.NoLimit:=I.ok.mod.nolimit.keeps I.bk
theorem Inv.fr (I:Inv X pins σ H s): ∃m,Fr X.base X.env.locals s.heap m:=
 let ⟨m,hn,_⟩:=I.loc
 ⟨m,hn,I.bk,le_trans I.ok.bsz I.ok.above⟩
theorem Inv.lt (I:Inv X pins σ H s):X.env.locals<s.heap.objs.size:=let ⟨_,hn,_⟩:=I.loc;hn.lt
theorem Inv.sz (I:Inv X pins σ H s):X.s₀.heap.objs.size<=s.heap.objs.size:=le_trans I.ok.above (le_of_lt I.lt)
theorem Inv.nofs (I:Inv X pins σ H s){a:Addr}(h:s.heap.objs.size<=a):a ∉ X.fs:=λhb=>by
 obtain⟨_,o,ho,_⟩:=I.ok.funs.mem hb;exact absurd (lt_of_lt_of_le (lt_size ho) (le_trans I.sz h)) (lt_irrefl _)
theorem Inv.cne (I:Inv X pins σ H s): ∀x c,X.env.cells.lookup x=some c->c≠X.env.locals:=λx c e z=>by
 obtain⟨v,o,ho,hd⟩:=I.cell x c e;obtain⟨m,⟨o',es,ep,ho',hd',_⟩,_⟩:=I.loc;rw[z,ho']at ho;cases ho;rw[hd']at hd;cases hd
theorem Inv.funs (I:Inv X pins σ H s):s.heap.FunFrames X.base X.outer:=by
 have all: ∀(l:List Env),(∀b∈frs l,b∈X.fs)->X.s₀.heap.FunFrames X.base l->s.heap.FunFrames X.base l:=by
  intro l
  induction l with
  | nil=>intro _ _;trivial
  | cons env r ih=>
   intro hs hl;obtain⟨hk,⟨L,o,hf,hn,ho,hd⟩,hr⟩:=hl;have hL:L∈X.fs:=hs L (by unfold frs;rw[List.filterMap_cons,hf];exact mem_cons_self)
   obtain⟨sl,e⟩:=I.base.slot L o ho (I.ok.frf L hL) hL λz=>I.ok.exfs L z hL
   exact⟨hk,⟨L,_,hf,hn,e,hd⟩,ih (λb hb=>hs b (by unfold frs;rw[List.filterMap_cons,hf];exact mem_cons_of_mem _ hb)) hr⟩
 exact all X.outer (λ_ hb=>hb) I.ok.funs
theorem Inv.stack (I:Inv X pins σ H s):s.heap.FunFrames X.base X.stack:=by
 rcases I.ok.stk with e| ⟨e,hf⟩
 ·rw[e];exact I.funs
 ·rw[e];obtain⟨m,hn,_⟩:=I.loc;refine .cons (by rw[I.ok.kind];decide) hf hn ?_ I.funs
  exact Heap.get?_none_of_le (le_trans I.ok.bsz I.ok.above)
theorem Inv.stkSub (I:Inv X pins σ H s): ∀b∈frs X.stack,b∈X.env.locals::X.fs:=λb hb=>by
 rcases I.ok.stk with e| ⟨e,hf⟩
 ·rw[e]at hb;exact mem_cons_of_mem _ hb
 ·rw[e]at hb;unfold frs at hb;rw[List.filterMap_cons,hf]at hb;exact hb
theorem Inv.stkFree (I:Inv X pins σ H s): ∀b∈frs X.stack,H b=none:=λb hb=>by
 rcases List.mem_cons.mp (I.stkSub b hb)with e|hb
 ·rw[e];exact I.free
 ·obtain⟨_,o,ho,_⟩:=I.ok.funs.mem hb;exact I.base.free b o ho (I.ok.frf b hb) λz=>I.ok.exfs b z hb
theorem Inv.step {g':Array GenState}{t':Nat}{d':Drawn}{ch:List Addr}(I:Inv X pins σ H s)
  (hch: ∀b∈ch,(b∈X.ex\/X.s₀.heap.objs.size<=b)/\b≠X.env.locals/\(∀x c,X.env.cells.lookup x=some c->c≠b)/\ ∀p∈X.pn++pins,p.1≠b)
  (keep: ∀b o,b≠X.env.locals->b ∉ X.fs->b ∉ ch->s.heap.get? b=some o->H b=none->h'.get? b=some o)
  (slot: ∀b o,b≠X.env.locals->b∈X.fs->b ∉ ch->s.heap.get? b=some o->H b=none-> ∃sl,h'.get? b=some {o with slots:=sl}) (free: ∀b o,b ∉ ch->s.heap.get? b=some o->H b=none->H' b=none)
  (there: ∀b o,b ∉ ch->s.heap.get? b=some o-> ∃o',h'.get? b=some o')
  (tups: ∀b xs,H b=some (.tup xs)->H' b=some (.tup xs)) (frzs: ∀b o u,H b=some (.frz o u)->H' b=some (.frz o u)) (tbls: ∀b ps,H b=some (.tbl ps)-> ∃more,H' b=some (.tbl (ps++more)))
  (ns: ∀m,s.heap.Ns X.env.locals m->h'.Ns X.env.locals m) (hok:HOk X.prog X.w H' h') (hg:AllBare g') :
  Inv X pins σ H' {s with heap:=h',gens:=g',drawn:=d',toks:=t'}:=by
 have neL: ∀b o,X.s₀.heap.get? b=some o->b≠X.env.locals:=λb o e=>ne_of_lt (lt_of_lt_of_le (lt_size e) I.ok.above)
 have neC: ∀b o,X.s₀.heap.get? b=some o->b ∉ X.ex->b ∉ ch:=λb o e hx hb=>by
  rcases(hch b hb).1 with z|z
  ·exact hx z
  ·exact absurd (lt_of_lt_of_le (lt_size e) z) (lt_irrefl _)
 have cellK: ∀x c,X.env.cells.lookup x=some c-> ∀v,s.heap.IsCell c v->h'.IsCell c v:=λx c e v ⟨o,ho,hd⟩=>by
  have nch:c ∉ ch:=λz=>(hch c z).2.2.1 x c e rfl
  by_cases hc:c∈X.fs
  ·obtain⟨sl,q⟩:=slot c o (I.cne x c e) hc nch ho (I.freeC x c e);exact⟨_,q,hd⟩
  ·exact⟨o,keep c o (I.cne x c e) hc nch ho (I.freeC x c e),hd⟩
 refine⟨I.ok,I.os,hg,⟨λb o e n hb hx=> ?_,λb o e n hb hx=> ?_,λb o e n hx=> ?_,λb o e hx=> ?_,λb xs e=>tups b xs (I.base.tups b xs e),λb o xs e=>frzs b o xs (I.base.frzs b o xs e),λb ps e=> ?_⟩,?_,λx c e=> ?_,?_,λx c e=> ?_,λp hp=> ?_,hok,I.len⟩
 ·exact keep b o (neL b o e) hb (neC b o e hx) (I.base.keep b o e n hb hx) (I.base.free b o e n hx)
 ·obtain⟨sl,e1⟩:=I.base.slot b o e n hb hx;obtain⟨sl',e2⟩:=slot b _ (neL b o e) hb (neC b o e hx) e1 (I.base.free b o e n hx);exact⟨sl',e2⟩
 ·obtain⟨o',e1⟩:=I.base.there b o e hx;exact free b o' (neC b o e hx) e1 (I.base.free b o e n hx)
 ·obtain⟨o',e1⟩:=I.base.there b o e hx;exact there b o' (neC b o e hx) e1
 ·obtain⟨m1,e1⟩:=I.base.tbls b ps e;obtain⟨m2,e2⟩:=tbls b _ e1;exact⟨m1++m2,by rw[e2,Array.append_assoc]⟩
 ·obtain⟨m,hn,hl⟩:=I.loc;refine⟨m,ns m hn,λi x v e1 e2 e3=> ?_⟩
  obtain⟨u,r,l⟩:=hl i x v e1 e2 e3;refine⟨u,r,?_⟩;rcases l with l| ⟨k,c,e,z⟩
  ·exact .inl l
  ·exact .inr ⟨k,c,e,cellK x c e _ z⟩
 ·obtain⟨v,z⟩:=I.cell x c e;exact⟨v,cellK x c e v z⟩
 ·obtain⟨m,⟨o,_,_,ho,_⟩,_⟩:=I.loc;exact free _ o (λz=>(hch _ z).2.1 rfl) ho I.free
 ·obtain⟨v,o,ho,hd⟩:=I.cell x c e;exact free c o (λz=>(hch c z).2.2.1 x c e rfl) ho (I.freeC x c e)
 ·obtain⟨e,n,ne,nf,d⟩:=I.pin p hp;have nch:p.1 ∉ ch:=λz=>(hch p.1 z).2.2.2 p hp rfl
  exact⟨keep p.1 p.2 ne nf nch e n,free p.1 p.2 nch e n,ne,nf,d⟩
theorem Inv.un {t':Nat}(I:Inv X pins σ H s)(u:Un X.fs [] H H' s.heap h')(hok:HOk X.prog X.w H' h'):Inv X pins σ H' {s with heap:=h',toks:=t'}:=by
 obtain⟨m,⟨o,es,ep,ho,r⟩,_⟩:=id I.loc;obtain⟨sl,hL⟩:=u.any ho I.free (by simp)
 exact I.step (g':=s.gens) (d':=s.drawn) (ch:=[]) (λ_ z=>nomatch z) (λb o _ hb _ e n=>u.keep b o e n hb (by simp)) (λb o _ hb _ e n=>u.slot b o e n hb (by simp)) (λb o _ e n=>u.free b o e n (by simp)) (λb o _ e=>u.there b o e (by simp)) u.tups u.frzs u.tbls (λm' hm=>by
  obtain⟨o',es',ep',ho',r'⟩:=hm;rw[ho]at ho';cases ho';exact⟨_,es',ep',hL,r'⟩) hok I.bare
theorem Inv.call {g':Array GenState}{t':Nat}{d':Drawn}{ch:List Addr}(I:Inv X pins σ H s)(u:Un (frs X.stack) ch H H' s.heap h')(hok:HOk X.prog X.w H' h')(hg:AllBare g')
  (hch: ∀b∈ch,(b∈X.ex\/X.s₀.heap.objs.size<=b)/\b≠X.env.locals/\(∀x c,X.env.cells.lookup x=some c->c≠b)/\ ∀p∈X.pn++pins,p.1≠b) :
  Inv X pins σ H' {s with heap:=h',gens:=g',drawn:=d',toks:=t'}:=by
 obtain⟨m,⟨o,es,ep,ho,r⟩,_⟩:=id I.loc;obtain⟨sl,hL⟩:=u.any ho I.free λz=>(hch _ z).2.1 rfl
 exact I.step (ch:=ch) hch (λb o hL hb hc e n=>u.keep b o e n (λz=>(List.mem_cons.mp (I.stkSub b z)).elim hL hb) hc) (λb o _ _ hc e n=>u.any e n hc) (λb o hc e n=>u.free b o e n hc) (λb o hc e=>u.there b o e hc) u.tups u.frzs u.tbls (λm' hm=>by
  obtain⟨o',es',ep',ho',r'⟩:=hm;rw[ho]at ho';cases ho';exact⟨_,es',ep',hL,r'⟩) hok hg
theorem Inv.turned {t':Nat}{it:Addr}(I:Inv X pins σ H s)(k: ∀b o,b≠it->s.heap.get? b=some o->h'.get? b=some o)(hn:H it=none)(hL:it≠X.env.locals)
  (h1:it∈X.ex\/X.s₀.heap.objs.size<=it) (h2: ∀x c,X.env.cells.lookup x=some c->c≠it) (h3: ∀p∈X.pn++pins,p.1≠it):Inv X pins σ H {s with heap:=h',toks:=t'}:=by
 have nit: ∀b u,H b=some u->b≠it:=λb u e z=>by rw[z,hn]at e;cases e
 refine I.step (g':=s.gens) (d':=s.drawn) (ch:=[it]) (λb hb=> ?_) (λb o _ _ hc e _=>k b o (λz=>hc (by simp[z])) e) (λb o _ _ hc e _=>⟨o.slots,k b o (λz=>hc (by simp[z])) e⟩) (λ_ _ _ _ n=>n)
  (λb o hc e=>⟨o,k b o (λz=>hc (by simp[z])) e⟩) (λ_ _ e=>e) (λ_ _ _ e=>e) (λb ps e=>⟨#[],by rw[e];simp⟩) (λm hm=> ?_) (λb u e=> ?_) I.bare
 ·have e:b=it:=by simpa using hb
  subst e;exact⟨h1,hL,h2,h3⟩
 ·obtain⟨o,es,ep,ho,r⟩:=hm;exact⟨o,es,ep,k _ o (Ne.symm hL) ho,r⟩
 ·refine(I.hok b u e).stay (λc v hc q=>k c v ?_ q) (λ_ q=>q) λ_ _ q=>q
  rcases hc with z|z
  ·rw[z];exact nit b u e
  ·exact nit c _ z
theorem Inv.tok (I:Inv X pins σ H s)(t:Nat):Inv X pins σ H {s with toks:=t}:=I.un (h':=s.heap) (t':=t) Un.refl I.hok
theorem Inv.kept {t':Nat}(I:Inv X pins σ H s)(k: ∀b u,s.heap.get? b=some u->h'.get? b=some u):Inv X pins σ H {s with heap:=h',toks:=t'}:=I.un (Un.kept k) (I.hok.kept k)
theorem Inv.laid {a:Addr}{o:HO}{t':Nat}(I:Inv X pins σ H s)(k: ∀b u,s.heap.get? b=some u->h'.get? b=some u)(hp:s.heap.objs.size<=a)(new:gF X.prog X.w (upd H a o) h' a o) :
  Inv X pins σ (upd H a o) {s with heap:=h',toks:=t'}:=I.un (Un.laid k hp (I.hok.fresh hp)) (I.hok.laid k hp new)
theorem Inv.write {x e:Addr}{o:HO}{t':Nat}(I:Inv X pins σ H s)(mu:Mut (H x))(he:e=x\/H e=some (.own x))(k: ∀b u,b≠e->s.heap.get? b=some u->h'.get? b=some u)(heo: ∃u,h'.get? e=some u)
  (new:gF X.prog X.w (upd H x o) h' x o):Inv X pins σ (upd H x o) {s with heap:=h',toks:=t'}:=I.un (Un.write mu he k heo) (I.hok.write mu he k heo new)
theorem Inv.pins_of {pins':List (Addr×Obj)}(I:Inv X pins σ H s)(h: ∀p∈pins',s.heap.get? p.1=some p.2/\H p.1=none/\p.1≠X.env.locals/\p.1 ∉ X.fs/\ ∀v,p.2.data≠ .cell v):Inv X pins' σ H s:=
 ⟨I.ok,I.os,I.bare,I.base,I.loc,I.cell,I.free,I.freeC,λp hp=>(List.mem_append.mp hp).elim (λz=>I.pin p (mem_append_left _ z)) (h p),I.hok,I.len⟩
theorem sU {N:List Str}(hN:N.Nodup){i j:Nat}{x:Str}(a:N[i]? =some x)(b:N[j]? =some x):i=j:=by
 obtain⟨h1,e1⟩:=List.getElem?_eq_some_iff.mp a;obtain⟨h2,e2⟩:=List.getElem?_eq_some_iff.mp b;exact(List.getElem_inj hN).mp (e1.trans e2.symm)
theorem wU {M:Model}{A:Around}{E:Value->Shared->Prop}{i:Nat}{x:Str}{v:V}{u:Value}{Q:Unit->Shared->Prop}(I:Inv X pins σ H s)(hN:X.N.Nodup)(hi:X.N[i]? =some x)(hx:Loc X.env.scope x)(r:RelV v u)
  (h: ∀s',Inv X pins (σ.set i (some v)) H s'->(∃a,SameBut a s.heap s'.heap/\(a=X.env.locals\/X.env.cells.lookup x=some a))->Q () s') (hf:X.fn x=true\/X.env.scope.names.lookup x=some .local:=by first|exact .inl rfl|exact .inr rfl|assumption):wpAny M A (storeName X.env x u) Q E s:=by
 obtain⟨m,hn,hl⟩:=id I.loc;have hcls:(X.env.scope.kind== .class||(X.env.scope.kind== .module&&X.env.locals != X.env.globals))=false:=by rw[I.ok.kind];rfl
 have hiσ:i<σ.length:=by rw[I.len];exact(List.getElem?_eq_some_iff.mp hi).1
 have cne:=I.cne;have tracked: ∀{a:Addr} {h':Heap},(∃o,s.heap.get? a=some o/\H a=none)->SameBut a s.heap h'->HOk X.prog X.w H h':=λ{a h'} ha hs b ob e=>by
  obtain⟨_,_,hfree⟩:=ha;refine(I.hok b ob e).stay (λc w' hc q=>(hs.2 c ?_).trans q) (λ_ q=>q) λ_ _ q=>q
  rintro rfl;rcases hc with rfl|hc
  ·rw[hfree]at e;cases e
  ·rw[hfree]at hc;cases hc
 rcases hx with hk|hk
 ·refine wpAny_storeName_local hk hn (λh' hn' hs=> ?_) hcls
  obtain⟨oL,_,_,hoL,_⟩:=id hn;refine h _ ⟨I.ok,I.os,I.bare,⟨λb o e n hb hx=> ?_,λb o e n hb hx=> ?_,I.base.free,λb o e hx=> ?_,I.base.tups,I.base.frzs,I.base.tbls⟩,⟨_,hn',λj y v' e1 e2 e3=> ?_⟩,λy c e=> ?_,I.free,I.freeC,λp hp=> ?_,tracked ⟨oL,hoL,I.free⟩ hs,by simpa using I.len⟩ ⟨_,hs,.inl rfl⟩
  ·exact(hs.2 b (ne_of_lt (lt_of_lt_of_le (lt_size e) I.ok.above))).trans (I.base.keep b o e n hb hx)
  ·obtain⟨sl,e1⟩:=I.base.slot b o e n hb hx;exact⟨sl,(hs.2 b (ne_of_lt (lt_of_lt_of_le (lt_size e) I.ok.above))).trans e1⟩
  ·obtain⟨o',e1⟩:=I.base.there b o e hx;exact⟨o',(hs.2 b (ne_of_lt (lt_of_lt_of_le (lt_size e) I.ok.above))).trans e1⟩
  ·by_cases hj:j=i
   ·subst hj;rw[hi]at e1;cases e1;rw[List.getElem?_set_self hiσ]at e2;cases e2;exact⟨u,r,.inl ⟨hk,by simp⟩⟩
   ·rw[List.getElem?_set_ne (Ne.symm hj)]at e2;obtain⟨u',r',q⟩:=hl j y v' e1 e2 e3;refine⟨u',r',?_⟩;rcases q with⟨k,e⟩| ⟨k,c,e,z⟩
    ·refine .inl ⟨k,?_⟩
     have:y≠x:=λe=>hj (sU hN e1 (e▸hi))
     simp[this,e]
    ·exact .inr ⟨k,c,e,z.sameBut hs (cne y c e)⟩
  ·obtain⟨w',z⟩:=I.cell y c e;exact⟨w',z.sameBut hs (cne y c e)⟩
  ·obtain⟨e,n,ne,nf,d⟩:=I.pin p hp;exact⟨(hs.2 p.1 ne).trans e,n,ne,nf,d⟩
 ·have hfn:X.fn x=true:=by
   rcases hf with z|z
   ·exact z
   ·rw[z]at hk;cases hk
  obtain⟨c,hc⟩:=I.ok.has x (.inl hk);obtain⟨w',z⟩:=I.cell x c hc;refine wpAny_storeName_cell I.ok.kind hk hc z (λh' hc' hs=> ?_)
  obtain⟨oc,hoc,hocd⟩:=id z;refine h {s with heap:=h'} ⟨I.ok,I.os,I.bare,⟨λb o e n hb hx=> ?_,λb o e n hb hx=> ?_,I.base.free,λb o e hx=> ?_,I.base.tups,I.base.frzs,I.base.tbls⟩,⟨m,hn.sameBut hs (Ne.symm (cne x c hc)),λj y v' e1 e2 e3=> ?_⟩,λy c' e=> ?_,I.free,I.freeC,λp hp=> ?_,tracked ⟨oc,hoc,I.freeC x c hc⟩ hs,by simpa using I.len⟩ ⟨c,hs,.inr hc⟩
  ·exact(hs.2 b (ne_of_lt (lt_of_lt_of_le (lt_size e) (I.ok.cab x c hfn hc)))).trans (I.base.keep b o e n hb hx)
  ·obtain⟨sl,e1⟩:=I.base.slot b o e n hb hx;exact⟨sl,(hs.2 b (ne_of_lt (lt_of_lt_of_le (lt_size e) (I.ok.cab x c hfn hc)))).trans e1⟩
  ·obtain⟨o',e1⟩:=I.base.there b o e hx;exact⟨o',(hs.2 b (ne_of_lt (lt_of_lt_of_le (lt_size e) (I.ok.cab x c hfn hc)))).trans e1⟩
  ·by_cases hj:j=i
   ·subst hj;rw[hi]at e1;cases e1;rw[List.getElem?_set_self hiσ]at e2;cases e2;exact⟨u,r,.inr ⟨.inl hk,c,hc,hc'⟩⟩
   ·rw[List.getElem?_set_ne (Ne.symm hj)]at e2;obtain⟨u',r',q⟩:=hl j y v' e1 e2 e3;refine⟨u',r',?_⟩;rcases q with q| ⟨k,c',e,z'⟩
    ·exact .inl q
    ·refine .inr ⟨k,c',e,z'.sameBut hs ?_⟩
     rintro rfl;exact hj (sU hN e1 (I.ok.inj _ _ _ e hc▸hi))
  ·by_cases hcc:c'=c
   ·subst hcc;exact⟨_,hc'⟩
   ·obtain⟨w2,z2⟩:=I.cell y c' e;exact⟨w2,z2.sameBut hs hcc⟩
  ·obtain⟨e,n,ne,nf,d⟩:=I.pin p hp;refine⟨(hs.2 p.1 ?_).trans e,n,ne,nf,d⟩;intro q;rw[q,hoc]at e;have q':oc=p.2:=Option.some.inj e;exact d w' (by rw[<-q'];exact hocd)
theorem lX {M:Model}{A:Around}{E:Value->Shared->Prop}{i:Nat}{x:Str}{v:V}{u:Value}{Q:Unit->Shared->Prop}(I:Inv X pins σ H s)(hN:X.N.Nodup)(hi:X.N[i]? =some x)(hx:Loc X.env.scope x)(r:RelV v u)
  (h: ∀s',Inv X pins (σ.set i (some v)) H s'->Q () s') (hf:X.fn x=true\/X.env.scope.names.lookup x=some .local:=by first|exact .inl rfl|exact .inr rfl|assumption):wpAny M A (storeName X.env x u) Q E s:=
 wU I hN hi hx r (λs' I' _=>h s' I') hf
end
abbrev XK:=Value->Option Addr->Hp->Prop
abbrev St:=List (Option V)
abbrev VK:=V->Hp->Prop
abbrev TE:=St->Hp->VK->Prop
abbrev TT:=St->Hp->(Bool->Hp->Prop)->Prop
abbrev TA:=St->Hp->(List V->Hp->Prop)->Prop
structure uD where
 nx:St->Hp->Prop
 rt:VK
 bk:St->Hp->Prop:=λ_ _=>False
 ct:St->Hp->Prop:=λ_ _=>False
abbrev TS:=uD->St->Hp->Prop
def EP (X:Cx)(pins:List (Addr×Obj))(σ:St)(Q:VK)(u:Value)(s':Shared):Prop:= ∃v H',Inv X pins σ H' s'/\RelV v u/\Q v H'
def TP (X:Cx)(pins:List (Addr×Obj))(σ:St)(Q:Bool->Hp->Prop)(b:Bool)(s':Shared):Prop:= ∃H',Inv X pins σ H' s'/\Q b H'
def AP (X:Cx)(pins:List (Addr×Obj))(σ:St)(Q:List V->Hp->Prop)(us:List Value)(s':Shared):Prop:= ∃vs H',Inv X pins σ H' s'/\bC vs us/\Q vs H'
def SP (X:Cx)(pins:List (Addr×Obj))(D:uD)(f:Flow)(s':Shared):Prop:=
 match f with
 | .next=> ∃σ' H',Inv X pins σ' H' s'/\D.nx σ' H'
 | .brk=> ∃σ' H',Inv X pins σ' H' s'/\D.bk σ' H'
 | .cont=> ∃σ' H',Inv X pins σ' H' s'/\D.ct σ' H'
 | .ret u=> ∃v σ' H',Inv X pins σ' H' s'/\RelV v u/\D.rt v H'
def PE (X:Cx)(e:Expr)(t:TE):Prop:=
 ∀(pins:List (Addr×Obj)) (s:Shared) (σ:St) (H:Hp) (Q:VK),Inv X pins σ H s->t σ H Q->wpAny (model X.prog X.w) X.A (eval e X.env) (EP X pins σ Q) X.xe s
def PT (X:Cx)(e:Expr)(t:TT):Prop:=
 ∀(pins:List (Addr×Obj)) (s:Shared) (σ:St) (H:Hp) (Q:Bool->Hp->Prop),Inv X pins σ H s->t σ H Q->wpAny (model X.prog X.w) X.A (isTrue e X.env (eval e X.env)) (TP X pins σ Q) X.xe s
def PW (X:Cx)(e:Expr)(t:TT):Prop:=
 ∀(whole:Sem Value) (pins:List (Addr×Obj)) (s:Shared) (σ:St) (H:Hp) (Q:Bool->Hp->Prop),Inv X pins σ H s->t σ H Q->wpAny (model X.prog X.w) X.A (isTrue e X.env whole) (TP X pins σ Q) X.xe s
theorem PW.pt {X:Cx}{e:Expr}{t:TT}(h:PW X e t):PT X e t:=h _
def PA (X:Cx)(es:List Expr)(t:TA):Prop:=
 ∀(pos:Pos) (pins:List (Addr×Obj)) (s:Shared) (σ:St) (H:Hp) (Q:List V->Hp->Prop),Inv X pins σ H s->t σ H Q->wpAny (model X.prog X.w) X.A (spliced (backTo pos (starEach es X.env))) (AP X pins σ Q) X.xe s
def PS (X:Cx)(st:Stmt)(t:TS):Prop:=
 ∀(pins:List (Addr×Obj)) (s:Shared) (σ:St) (H:Hp) (D:uD),Inv X pins σ H s->t D σ H->wpAny (model X.prog X.w) X.A (exec st X.env) (SP X pins D) X.xe s
def PSs (X:Cx)(st:List Stmt)(t:TS):Prop:=
 ∀(pins:List (Addr×Obj)) (s:Shared) (σ:St) (H:Hp) (D:uD),Inv X pins σ H s->t D σ H->wpAny (model X.prog X.w) X.A (execs st X.env) (SP X pins D) X.xe s
theorem thn {α:Type}{t:Sem α}{Q Q':α->Shared->Prop}{M:Model}{A:Around}{E:Value->Shared->Prop}{s:Shared}(h:wpAny M A t Q E s)(hQ: ∀a s,Q a s->Q' a s):wpAny M A t Q' E s:=wpAny_mono h hQ λ_ _ x=>x
end L2
namespace L2
open PySem PySem.Spec PyProof.Rows
section
variable {X:Cx}
def pZ (i:Nat):TE:=λσ H Q=> ∃v,σ[i]? =some (some v)/\Q v H
def tC (v:V):TE:=λ_ H Q=>Q v H
theorem pe_var {i:Nat}{x:Str}{pos:Pos}(hN:X.N[i]? =some x)(hv:Vis X.env.scope x)(hd:(x==("__debug__":Str))=false:=by decide)(hcd:(x==("__classdict__":Str))=false:=by decide):PE X (.Name x pos) (pZ i):=by
 intro pins s σ H Q I h;obtain⟨v,e,h⟩:=h;obtain⟨m,hn,hl⟩:=I.loc;obtain⟨u,r,l⟩:=hl i x v hN e hv;have fin:EP X pins σ Q u s:=⟨v,H,I,r,h⟩;rcases l with⟨hk,hm⟩| ⟨hk,c,hc,hcell⟩
 ·exact wpAny_Name (wpAny_loadName_local I.ok.kind hk hn hm fin) hd
 ·rcases hk with hk|hk
  ·exact wpAny_Name (wpAny_loadName_cell I.ok.kind hk hc hcell fin) hd
  ·exact wpAny_Name (wpAny_loadName_free I.ok.kind hk hc hcell fin hcd) hd
theorem pe_int {i j pos}:PE X (.Constant (.int i) j pos) (tC (.int i)):=λ_ _ _ H _ I h=>wpAny_Constant_int ⟨.int i,H,I.tok _,⟨_,rfl⟩,h⟩
theorem pe_bl {b j pos}:PE X (.Constant (.bool b) j pos) (tC (.bl b)):=λ_ _ _ H _ I h=>Constant_bool ⟨.bl b,H,I,rfl,h⟩
def Gl (X:Cx)(x:Str):Prop:=X.env.kindOf x=some .globalImplicit
theorem a33 {E:Value->Shared->Prop}{pins:List (Addr×Obj)}{s:Shared}{σ:St}{H:Hp}{x:Str}{u:Value}{pos:Pos}{Q:Value->Shared->Prop}(I:Inv X pins σ H s)(hg:Gl X x)(hm:X.mg x=some u)(h:Q u s)
  (hd:(x==("__debug__":Str))=false:=by decide):wpAny (model X.prog X.w) X.A (eval (.Name x pos) X.env) Q E s:=
 Calls.Name_function_global I.ok.kind hg (Calls.loadGlobal_global (by rw[I.ok.glob];exact I.mod.glob.keeps I.bk) hm h) hd
theorem j7 {E:Value->Shared->Prop}{pins:List (Addr×Obj)}{s:Shared}{σ:St}{H:Hp}{x:Str}{u:Value}{pos:Pos}{Q:Value->Shared->Prop}(I:Inv X pins σ H s)(hg:Gl X x)(hm:X.mg x=none)(hv:bootBuiltins x=some u)(h:Q u s)
  (hn:x≠"__name__":=by decide) (hd:(x==("__debug__":Str))=false:=by decide):wpAny (model X.prog X.w) X.A (eval (.Name x pos) X.env) Q E s:=by
 obtain⟨mb,h1,h2⟩:=I.mod.blt;exact Calls.Name_function_global I.ok.kind hg (Calls.loadGlobal_builtin (by rw[I.ok.glob];exact I.mod.glob.keeps I.bk) hm (by rw[I.ok.blt];exact h1.keeps I.bk) ((h2 x hn).trans hv) h) hd
theorem a34 {x:Str}{v:V}{u:Value}{pos:Pos}(hg:Gl X x)(hm:X.mg x=none)(hv:bootBuiltins x=some u)(r:RelV v u)(hn:x≠"__name__":=by decide)(hd:(x==("__debug__":Str))=false:=by decide):PE X (.Name x pos) (tC v):=
 λ_ _ _ H _ I h=>j7 I hg hm hv ⟨v,H,I,r,h⟩ hn hd
variable {a b:Expr}{ta tb:TE}{pos:Pos}
def tB (t:TE):TT:=λσ H Q=>t σ H λx H1=> ∃c,x= .bl c/\Q c H1
theorem pt_val {e:Expr}{t:TE}(h:PE X e t)(he: ∀whole,isTrue e X.env whole=(do let v<-whole;standAt e.pos;holding [v] (truthy v)):=by intro _;rfl):PT X e (tB t):=by
 intro pins s σ H Q I hw;refine isTrue_plain (thn (h pins s σ H _ I hw) λv s1 ⟨x,H1,I1,r1,q1⟩=> ?_) (he _)
 obtain⟨d,rfl,q⟩:=q1;cases r1;exact wpAny_truthy_bool ⟨H1,I1,q⟩
variable {tA tB':TT}{mV:List Expr}
def tOr (t u:TT):TT:=λσ H Q=>t σ H λc H1=>if c=true then Q true H1 else u σ H1 Q
def tNot (t:TT):TT:=λσ H Q=>t σ H λc H1=>Q (!c) H1
theorem pw_or1 (ha:PT X a tA):PW X (.BoolOp .Or [a] pos) tA:=by
 intro wh pins s σ H Q I h;refine isTrue_or (thn (ha pins s σ H Q I h) λc s1 e=> ?_)
 cases c with
 | false=>exact isTrue_or_nil e
 | true=>exact e
theorem pw_or (ha:PT X a tA)(hb:PW X (.BoolOp .Or (b::mV) pos) tB'):PW X (.BoolOp .Or (a::b::mV) pos) (tOr tA tB'):=by
 intro wh pins s σ H Q I h;refine isTrue_or (thn (ha pins s σ H _ I h) λc s1 ⟨H1,I1,q1⟩=> ?_)
 cases c with
 | true=>exact⟨H1,I1,q1⟩
 | false=>exact hb wh pins s1 σ H1 Q I1 q1
theorem pt_not (ha:PT X a tA):PT X (.UnaryOp .Not a pos) (tNot tA):=by
 intro pins s σ H Q I h;exact isTrue_not (ha pins s σ H (λc H1=>Q (!c) H1) I h)
def tAndV (ta tb:TE):TE:=λσ H Q=>ta σ H λx H1=> ∃c,x= .bl c/\if c=true then tb σ H1 Q else Q (.bl false) H1
def tNotV (ta:TE):TE:=λσ H Q=>ta σ H λx H1=> ∃c,x= .bl c/\Q (.bl (!c)) H1
theorem pe_one {op}{t:TE}(h:PE X a t):PE X (.BoolOp op [a] pos) t:=λpins s σ H Q I hw=>BoolOp_one (h pins s σ H Q I hw)
theorem pe_and (ha:PE X a ta)(hb:PE X (.BoolOp .And (b::mV) pos) tb):PE X (.BoolOp .And (a::b::mV) pos) (tAndV ta tb):=by
 intro pins s σ H Q I h;refine BoolOp_and (thn (ha pins s σ H _ I h) λv s1 ⟨x,H1,I1,r1,q1⟩=> ?_)
 obtain⟨c,rfl,q1⟩:=q1;cases r1;refine wpAny_truthy_bool ?_;cases c with
 | true=>exact hb pins s1 σ H1 Q I1 q1
 | false=>exact⟨.bl false,H1,I1,rfl,q1⟩
theorem pe_not (ha:PE X a ta):PE X (.UnaryOp .Not a pos) (tNotV ta):=by
 intro pins s σ H Q I h;refine UnaryOp_ (thn (ha pins s σ H _ I h) λv s1 ⟨x,H1,I1,r1,q1⟩=> ?_)
 obtain⟨c,rfl,q1⟩:=q1;cases r1;exact not_of (wpAny_truthy_bool ⟨.bl (!c),H1,I1,rfl,q1⟩)
end
end L2
namespace L2
open PySem PySem.Spec PyProof.Rows
def SqL (K:Frag)(H:Hp)(a:Addr)(xs:List V):Prop:=
 Rd H a (.lst xs)\/
  ∃(o:Obj) (its:Array Value) (n:Nat),K.lookup a=some o/\o.cls= .type "list"/\o.dict=none/\o.data= .seq its n/\its.size<=sizeLine/\bC xs its.toList
def SqT (K:Frag)(H:Hp)(a:Addr)(xs:List V):Prop:=
 Rd H a (.tup xs)\/
  ∃(o:Obj) (its:Array Value) (n:Nat),K.lookup a=some o/\o.cls= .type "tuple"/\o.data= .seq its n/\its.size<=sizeLine/\bC xs its.toList
def absV:Value->Option V
 | .none=>some .non
 | .bool b=>some (.bl b)
 | .int i _=>some (.int i)
 | .str x _=>some (.str x)
 | .bytes b _=>some (.byt b)
 | .float b _=>some (.flt b)
 | .ref a=>some (.ref a)
 | .type n=>some (.ty n)
 | _=>none
theorem RelV.abs {x:V}{u:Value}(r:RelV x u):absV u=some x:=by
 cases x with
 | non=>cases r;rfl
 | bl _=>cases r;rfl
 | int _=>obtain⟨t,rfl⟩:=r;rfl
 | str _=>obtain⟨t,rfl⟩:=r;rfl
 | byt _=>obtain⟨t,rfl⟩:=r;rfl
 | flt _=>obtain⟨t,rfl⟩:=r;rfl
 | ref _=>cases r;rfl
 | ty _=>cases r;rfl
theorem RelV.inj {x y:V}{u:Value}(r:RelV x u)(q:RelV y u):x=y:=Option.some.inj (r.abs.symm.trans q.abs)
theorem bC.inj: ∀{xs ys:List V} {us:List Value},bC xs us->bC ys us->xs=ys
 | _,_,_,.nil,.nil=>rfl
 | _,_,_,.cons r t,.cons r' t'=>by rw[r.inj r',bC.inj t t']
section
variable {X:Cx}{pins:List (Addr×Obj)}{σ:St}{H:Hp}{s:Shared}{a:Addr}{xs ys:List V}
theorem SqL.of {K:Frag}(h:H a=some (.lst xs)):SqL K H a xs:= .inl (.inl h)
theorem SqT.of {K:Frag}(h:H a=some (.tup xs)):SqT K H a xs:= .inl (.inl h)
theorem Inv.list (I:Inv X pins σ H s)(h:SqL X.K H a xs): ∃its:List Value,bC xs its/\PlainL s.heap a its.toArray/\xs.length<=sizeLine:=by
 rcases h with h| ⟨o,its,n,hk,hc,hd,hs,hz,r⟩
 ·obtain⟨z,its,n,r,e⟩:=h.ok I.hok;exact⟨its,r,⟨_,n,e,rfl,rfl,rfl⟩,z⟩
 ·refine⟨its.toList,r,⟨o,n,I.kIn a o hk,hc,hd,by simpa using hs⟩,?_⟩
  have e:=r.length;simp only[length_toList]at e
  lia
theorem Inv.tuple (I:Inv X pins σ H s)(h:SqT X.K H a xs): ∃its:List Value,bC xs its/\IsTup s.heap a its.toArray/\xs.length<=sizeLine:=by
 rcases h with h| ⟨o,its,n,hk,hc,hs,hz,r⟩
 ·obtain⟨z,its,r,p⟩:=h.ok I.hok;exact⟨its,r,p,z⟩
 ·refine⟨its.toList,r,⟨o,I.kIn a o hk,hc,n,by simpa using hs⟩,?_⟩
  have e:=r.length;simp only[length_toList]at e
  lia
theorem Inv.list_inj (I:Inv X pins σ H s)(h:SqL X.K H a xs)(h':SqL X.K H a ys):xs=ys:=by
 obtain⟨its,r,⟨o,n,e,_,_,d⟩,_⟩:=I.list h;obtain⟨its',r',⟨o',n',e',_,_,d'⟩,_⟩:=I.list h';rw[e]at e';cases e';rw[d]at d'
 injection d' with d1 _
 have:its=its':=by simpa using congrArg toList d1
 subst this;exact r.inj r'
theorem Inv.tuple_inj (I:Inv X pins σ H s)(h:SqT X.K H a xs)(h':SqT X.K H a ys):xs=ys:=by
 obtain⟨its,r,⟨o,e,_,n,d⟩,_⟩:=I.tuple h;obtain⟨its',r',⟨o',e',_,n',d'⟩,_⟩:=I.tuple h';rw[e]at e';cases e';rw[d]at d'
 injection d' with d1 _
 have:its=its':=by simpa using congrArg toList d1
 subst this;exact r.inj r'
end
abbrev Cx.wish (X:Cx)(E:Value->Shared->Prop):Cx:={X with xe:=E}
abbrev Cx.nox (X:Cx):Cx:=X.wish λ_ _=>False
theorem Cx.Ok.wish {X:Cx}(ok:X.Ok)(E:Value->Shared->Prop):(X.wish E).Ok:=
 ⟨ok.mod,ok.kind,ok.glob,ok.blt,ok.above,ok.inj,ok.has,ok.cab,ok.hd,ok.frames,ok.stk,ok.exf,ok.bs,ok.bsz,ok.noex,ok.exfs,ok.funs,ok.frf⟩
theorem Cx.Ok.unwish {X:Cx}{E:Value->Shared->Prop}(ok:(X.wish E).Ok):X.Ok:=
 ⟨ok.mod,ok.kind,ok.glob,ok.blt,ok.above,ok.inj,ok.has,ok.cab,ok.hd,ok.frames,ok.stk,ok.exf,ok.bs,ok.bsz,ok.noex,ok.exfs,ok.funs,ok.frf⟩
section
variable {X:Cx}{pins:List (Addr×Obj)}{σ:St}{H:Hp}{s:Shared}{E:Value->Shared->Prop}
theorem Inv.wish (I:Inv X pins σ H s)(E:Value->Shared->Prop):Inv (X.wish E) pins σ H s:=⟨I.ok.wish E,I.os,I.bare,I.base,I.loc,I.cell,I.free,I.freeC,I.pin,I.hok,I.len⟩
theorem Inv.unwish (I:Inv (X.wish E) pins σ H s):Inv X pins σ H s:=⟨I.ok.unwish,I.os,I.bare,I.base,I.loc,I.cell,I.free,I.freeC,I.pin,I.hok,I.len⟩
theorem SP.unwish {D:uD}{f:Flow}{s':Shared}(h:SP (X.wish E) pins D f s'):SP X pins D f s':=by
 cases f with
 | next=>obtain⟨σ',H',I,q⟩:=h;exact⟨σ',H',I.unwish,q⟩
 | brk=>obtain⟨σ',H',I,q⟩:=h;exact⟨σ',H',I.unwish,q⟩
 | cont=>obtain⟨σ',H',I,q⟩:=h;exact⟨σ',H',I.unwish,q⟩
 | ret u=>obtain⟨v,σ',H',I,r,q⟩:=h;exact⟨v,σ',H',I.unwish,r,q⟩
theorem PE.nox {e:Expr}{t:TE}(h:PE X.nox e t):PE X e t:=λpins s σ H Q I hw=>
 wpAny_mono (h pins s σ H Q (I.wish _) hw) (λ_ _ ⟨v,H',I',r,q⟩=>⟨v,H',I'.unwish,r,q⟩) λ_ _ z=>False.elim z
theorem PT.nox {e:Expr}{t:TT}(h:PT X.nox e t):PT X e t:=λpins s σ H Q I hw=>
 wpAny_mono (h pins s σ H Q (I.wish _) hw) (λ_ _ ⟨H',I',q⟩=>⟨H',I'.unwish,q⟩) λ_ _ z=>False.elim z
theorem PSs.nox {st:List Stmt}{t:TS}(h:PSs X.nox st t):PSs X st t:=λpins s σ H D I hw=>
 wpAny_mono (h pins s σ H D (I.wish _) hw) (λ_ _ q=>q.unwish) λ_ _ z=>False.elim z
end
section
variable {X:Cx}{st:Stmt}{mV:List Stmt}{t u:TS}{e:Expr}{te:TE}{pos:Pos}
def tNext:TS:=λD σ H=>D.nx σ H
def tSeq (t u:TS):TS:=λD σ H=>t {D with nx:=u D} σ H
theorem vP:PSs X [] tNext:=λ_ _ σ H _ I h=>wpAny_execs_nil ⟨σ,H,I,h⟩
theorem lY (h1:PS X st t)(h2:PSs X mV u):PSs X (st::mV) (tSeq t u):=by
 intro pins s σ H D I h;refine wpAny_execs_cons (thn (h1 pins s σ H {D with nx:=u D} I h) λf s1 q=> ?_)
 cases f with
 | next=>
  obtain⟨σ',H',I',q⟩:=q;exact h2 pins s1 σ' H' D I' q
 | ret v=>exact q
 | brk=>exact q
 | cont=>exact q
theorem vQ (h1:PS X st t):PSs X [st] t:=by
 intro pins s σ H D I h;refine wpAny_execs_cons (thn (h1 pins s σ H D I h) λf s1 q=> ?_)
 cases f with
 | next=>exact wpAny_execs_nil q
 | ret v=>exact q
 | brk=>exact q
 | cont=>exact q
theorem Inv.quiet {pins:List (Addr×Obj)}{σ:St}{H:Hp}{s:Shared}(I:Inv X pins σ H s):interactive X.env=false:=by simp[interactive,I.ok.kind]
def tDrop (te:TE):TS:=λD σ H=>te σ H λ_ H1=>D.nx σ H1
theorem vR (he:PE X e te)(hs:swapsWith e none pos.line X.env=pure false:=by rfl):PS X (.Expr e pos) (tDrop te):=by
 intro pins s σ H D I h;exact wpAny_Expr_any (thn (he pins s σ H _ I h) λv s1 ⟨x,H1,I1,r1,q1⟩=>⟨σ,H1,I1,q1⟩) I.quiet hs
def tRet (te:TE):TS:=λD σ H=>te σ H D.rt
theorem xZ (he:PE X e te):PS X (.Return (some e) pos) (tRet te):=by
 intro pins s σ H D I h;exact wpAny_Return_some (thn (he pins s σ H _ I h) λv s1 ⟨x,H1,I1,r1,q1⟩=>⟨x,σ,H1,I1,r1,q1⟩)
def tIfS (c:TT)(t u:TS):TS:=λD σ H=>c σ H λb H1=>if b=true then t D σ H1 else u D σ H1
theorem a85 {c:Expr}{a b:List Stmt}{tc:TT}(hc:PT X c tc)(ha:PSs X a t)(hb:PSs X b u):PS X (.If c a b pos) (tIfS tc t u):=by
 intro pins s σ H D I h;refine wpAny_If (thn (hc pins s σ H _ I h) λd s1 ⟨H1,I1,q1⟩=> ?_)
 cases d with
 | true=>exact ha pins s1 σ H1 D I1 q1
 | false=>exact hb pins s1 σ H1 D I1 q1
end
abbrev TG:=V->St->Hp->(St->Hp->Prop)->Prop
abbrev TGs:=List V->St->Hp->(St->Hp->Prop)->Prop
def PG (X:Cx)(target:Expr)(t:TG):Prop:=
 ∀(pins:List (Addr×Obj)) (s:Shared) (σ:St) (H:Hp) (v:V) (u:Value) (Q:St->Hp->Prop),Inv X pins σ H s->RelV v u->t v σ H Q->
  wpAny (model X.prog X.w) X.A (assign target X.env u) (λ_ s'=> ∃σ' H',Inv X pins σ' H' s'/\Q σ' H') X.xe s
def PGs (X:Cx)(ts:List Expr)(t:TGs):Prop:=
 ∀(pins:List (Addr×Obj)) (s:Shared) (σ:St) (H:Hp) (vs:List V) (us:List Value) (Q:St->Hp->Prop),Inv X pins σ H s->bC vs us->t vs σ H Q->
  wpAny (model X.prog X.w) X.A (assignInOrder ((assignEach ts X.env).map (·.2)) us) (λ_ s'=> ∃σ' H',Inv X pins σ' H' s'/\Q σ' H') X.xe s
abbrev TSet:=V->V->V->Hp->(Hp->Prop)->Prop
def PSet (X:Cx)(t:TSet):Prop:=
 ∀(pins:List (Addr×Obj)) (s:Shared) (σ:St) (H:Hp) (o i v:V) (ov iv u:Value) (Q:Hp->Prop),Inv X pins σ H s->RelV o ov->RelV i iv->RelV v u->t o i v H Q->
  wpAny (model X.prog X.w) X.A (setItem ov iv u) (λ_ s'=> ∃H',Inv X pins σ H' s'/\Q H') X.xe s
section
variable {X:Cx}{pos:Pos}
def kX (i:Nat):TG:=λv σ H Q=>Q (σ.set i (some v)) H
theorem aN {i:Nat}{x:Str}(hN:X.N.Nodup)(hi:X.N[i]? =some x)(hx:Loc X.env.scope x)(hf:X.fn x=true\/X.env.scope.names.lookup x=some .local:=by first|exact .inl rfl|exact .inr rfl|assumption):PG X (.Name x pos) (kX i):=by
 intro pins s σ H v u Q I r h;exact wpAny_assign_Name (lX I hN hi hx r (λs' I'=>⟨_,H,I',h⟩) hf)
def gNil:TGs:=λvs σ H Q=>vs=[]/\Q σ H
def gCons (t:TG)(u:TGs):TGs:=λvs σ H Q=> ∃v r,vs=v::r/\t v σ H λσ' H'=>u r σ' H' Q
theorem a35:PGs X [] gNil:=by
 intro pins s σ H vs us Q I r h;obtain⟨e,h⟩:=h;subst e;cases r;exact assignInOrder_nil ⟨σ,H,I,h⟩
theorem y2 {e:Expr}{es:List Expr}{t:TG}{u:TGs}(h1:PG X e t)(h2:PGs X es u)
  (hs:(assignEach (e::es) X.env).map (·.2)=assign e X.env::(assignEach es X.env).map (·.2):=by rfl):PGs X (e::es) (gCons t u):=by
 intro pins s σ H vs us Q I r h;obtain⟨v,vr,e1,h⟩:=h;subst e1;cases r with
 | cons r rr=>
  rw[hs];refine assignInOrder_cons (thn (h1 pins s σ H _ _ _ I r h) λ_ s1 ⟨σ1,H1,I1,q1⟩=> ?_)
  exact h2 pins s1 σ1 H1 _ _ Q I1 rr q1
def gTup (K:Frag)(n:Nat)(t:TGs):TG:=λv σ H Q=> ∃a xs,v= .ref a/\SqT K H a xs/\xs.length=n/\t xs σ H Q
theorem pg_tup {es:List Expr}{k:Nat}{t:TGs}{n:Nat}(hc:X.calm=true)(h:PGs X es t)
  (hn:(assignEach es X.env).length=n:=by rfl) (hst:(assignEach es X.env).findIdx? (·.1)=none:=by rfl):PG X (.Tuple es k pos) (gTup X.K n t):=by
 intro pins s σ H v u Q I r hw;obtain⟨a,xs,e1,hq,hl,hw⟩:=hw;subst e1;cases r;obtain⟨its,rv,ht,hz⟩:=I.tuple hq;refine assign_Tuple_tuple (I.ok.hd hc) ht (by simp[hn,<-hl,rv.length]) hst λh' hx=> ?_
 have I1:Inv X pins σ H {s with heap:=h'}:=I.kept (t':=s.toks) λb o e=>hx b o (ne_of_lt (lt_size e)) e
 exact h pins _ σ H xs _ Q I1 (by simpa using rv) hw
def gSub (to ti:TE)(t:TSet):TG:=λv σ H Q=>to σ H λo H1=>ti σ H1 λi H2=>t o i v H2 λH3=>Q σ H3
theorem uE {o i:Expr}{to ti:TE}{t:TSet}(ho:PE X o to)(hi:PE X i ti)(hs:PSet X t)
  (ha: ∀v,assign (.Subscript o i pos) X.env v=(do
   let ov<-holding [v] (eval o X.env)
   let iv<-holding [v,ov] (eval i X.env)
   standAt pos
   holding [v,ov,iv] (setItem ov iv v)
   release [v,ov,iv] []):=by intro _;rfl):PG X (.Subscript o i pos) (gSub to ti t):=by
 intro pins s σ H v u Q I r h;rw[ha];refine wpAny_bind (wpAny_holding (thn (ho pins s σ H _ I h) λov s1 ⟨x,H1,I1,r1,q1⟩=> ?_))
 refine wpAny_bind (wpAny_holding (thn (hi pins s1 σ H1 _ I1 q1) λiv s2 ⟨y,H2,I2,r2,q2⟩=> ?_))
 refine wpAny_bind (wpAny_standAt (wpAny_bind (wpAny_holding (thn (hs pins s2 σ H2 x y v ov iv u _ I2 r1 r2 r q2) λ_ s3 ⟨H3,I3,q3⟩=> ?_))))
 exact wpAny_release ⟨σ,H3,I3,q3⟩
def tAsg (te:TE)(g:TG):TS:=λD σ H=>te σ H λx H1=>g x σ H1 D.nx
theorem rO {tg e:Expr}{te:TE}{g:TG}(he:PE X e te)(hg:PG X tg g)(hs:swapsWithSole [tg] e pos.line X.env=pure false:=by rfl)(hw:swappedStores [tg] e X.env=pure none:=by rfl)
  (h1:(assignEach [tg] X.env).map (·.2)=[assign tg X.env]:=by rfl):PS X (.Assign [tg] e pos) (tAsg te g):=by
 intro pins s σ H D I h;refine wpAny_Assign_stores (thn (he pins s σ H _ I h) λv s1 ⟨x,H1,I1,r1,q1⟩=> ?_) hs hw
 rw[h1];exact thn (hg pins s1 σ H1 x v _ I1 r1 q1) λ_ s2 q=>q
theorem y3 {i:Nat}{x:Str}{e:Expr}{te:TE}{pos':Pos}(hN:X.N.Nodup)(hi:X.N[i]? =some x)(hx:Loc X.env.scope x)(he:PE X e te)(hs:swapsWith e (some (.Name x pos')) pos.line X.env=pure false:=by rfl)(hf:X.fn x=true\/X.env.scope.names.lookup x=some .local:=by first|exact .inl rfl|exact .inr rfl|assumption) :
  PS X (.Assign [.Name x pos'] e pos) (tAsg te (kX i)):=by
 intro pins s σ H D I h;refine wpAny_Assign_Name (thn (he pins s σ H _ I h) λv s1 ⟨y,H1,I1,r1,q1⟩=> ?_) hs
 exact lX I1 hN hi hx r1 (λs2 I2=>⟨_,H1,I2,q1⟩) hf
def tPar (i j:Nat)(ta:TA):TS:=λD σ H=>ta σ H λvs H1=> ∃v w,vs=[v,w]/\D.nx ((σ.set i (some v)).set j (some w)) H1
theorem ps_par {i j:Nat}{x y:Str}{a b:Expr}{ta:TA}{px py pt:Pos}{kt k2 pt2}(hc:X.calm=true)(hN:X.N.Nodup)(hi:X.N[i]? =some x)(hj:X.N[j]? =some y)(hij:i≠j)
  (hx:X.env.scope.names.lookup x=some .local) (hy:X.env.scope.names.lookup y=some .local) (ha:PA X [a,b] ta)
  (hw:swappedStores [.Tuple [.Name x px,.Name y py] kt pt] (.Tuple [a,b] k2 pt2) X.env=pure (some [x,y]))
  (hs:swapsWithSole [.Tuple [.Name x px,.Name y py] kt pt] (.Tuple [a,b] k2 pt2) pos.line X.env=pure false:=by rfl) :
  PS X (.Assign [.Tuple [.Name x px,.Name y py] kt pt] (.Tuple [a,b] k2 pt2) pos) (tPar i j ta):=by
 intro pins s σ H D I h;rw[exec_Assign_arm];refine wpAny_bind (wpAny_standAt ?_);rw[hs];refine wpAny_bind (wpAny_pure ?_);rw[if_neg (by decide)]
 refine wpAny_bind (Tuple_ (thn (ha _ pins s σ H _ I h) λus s1 ⟨vs,H1,I1,r1,q1⟩=> ?_))
 obtain⟨v,w,e1,q1⟩:=q1;subst e1;obtain⟨u1,u2,rfl,rv,rw'⟩: ∃u1 u2,us=[u1,u2]/\RelV v u1/\RelV w u2:=by
  cases r1 with
  | cons p q=>
   cases q with
   | cons p' q'=>
    cases q';exact⟨_,_,rfl,p,p'⟩
 refine wpAny_newObj_type ?_ (by show 2<=sizeLine;decide)
 have I2:Inv X pins σ H1 {s1 with heap:=s1.heap.push {cls:= .type "tuple",data:= .seq [u1,u2].toArray}}:=I1.kept (t':=s1.toks) λb o e=>get?_push_of_some _ e
 rw[hw];refine wpAny_bind (wpAny_pure ?_);show wpAny (model X.prog X.w) X.A (do rule "assign.swapped-stores";let items<-unpackItems (.ref s1.heap.objs.size) 2 none;assignInOrder [λv=>bindName X.env y v,λv=>bindName X.env x v] items.reverse;pure Flow.next) _ _ _
 refine wpAny_bind (wpAny_rule (wpAny_bind (unpackItems_tuple (items:= #[u1,u2]) (I.ok.hd hc) (IsTup.new s1.heap _) λh' hx'=> ?_)))
 have I3:=I2.kept (h':=h') (t':=s1.toks) λb o e=>hx' b o (ne_of_lt (lt_size e)) e
 show wpAny _ _ (assignInOrder [λv=>bindName X.env y v,λv=>bindName X.env x v] [u2,u1] >>= λ_=>pure Flow.next) _ _ _
 refine wpAny_bind (assignInOrder_cons (wpAny_bindName (lX I3 hN hj (.inl hy) rw' (λs2 I4=> ?_) (.inr hy))))
 refine assignInOrder_cons (wpAny_bindName (lX I4 hN hi (.inl hx) rv (λs3 I5=>assignInOrder_nil (wpAny_pure ?_)) (.inr hx)))
 rw[set_comm _ _ (Ne.symm hij)]at I5;exact⟨_,H1,I5,q1⟩
end
section
variable {X:Cx}{pos:Pos}
def tWhile (c:TT)(tb:TS):TS:=λD σ H=> ∃W:Nat->St->Hp->Prop,(∃m,W m σ H)/\ ∀m σ H,W m σ H->
 c σ H λb H1=>if b=true then ∃N:St->Hp->Prop,(∀σ' H',N σ' H'-> ∃m',m'<m/\W m' σ' H')/\tb {D with nx:=N,ct:=N,bk:=D.nx} σ H1 else D.nx σ H1
theorem yA {c:Expr}{body:List Stmt}{tc:TT}{tb:TS}(hp:PassesOwn (model X.prog X.w) X.A X.env X.xe)(hc:PT X c tc)(hb:PSs X body tb):PS X (.While c body [] pos) (tWhile tc tb):=by
 intro pins s σ H D I h;obtain⟨W,⟨m0,w0⟩,turn⟩:=h;refine wpAny_While (codeAny_whileLoop (λn s'=> ∃σ' H',Inv X pins σ' H' s'/\W n σ' H') ?_ m0 ⟨σ,H,I,w0⟩)
 rintro n s1 ⟨σ1,H1,I1,w1⟩;refine wpAny_passesOwn hp (thn (hc pins s1 σ1 H1 _ I1 (turn n σ1 H1 w1)) λb s2 ⟨H2,I2,q2⟩=> ?_)
 cases b with
 | true=>
  obtain⟨N,hN,q2⟩:=q2;rw[if_pos rfl];refine wpAny_passesOwn hp (thn (hb pins s2 σ1 H2 _ I2 q2) λf s3 q3=> ?_)
  cases f with
  | next=>
   obtain⟨σ3,H3,I3,n3⟩:=q3;obtain⟨m',hm,w3⟩:=hN σ3 H3 n3;exact⟨m',hm,σ3,H3,I3,w3⟩
  | cont=>
   obtain⟨σ3,H3,I3,n3⟩:=q3;obtain⟨m',hm,w3⟩:=hN σ3 H3 n3;exact⟨m',hm,σ3,H3,I3,w3⟩
  | brk=>exact q3
  | ret v=>exact q3
 | false=>
  rw[if_neg Bool.false_ne_true];exact wpAny_execs_nil ⟨σ1,H2,I2,q2⟩
end
structure It where
 go:Nat->Hp->Prop
 yld:Nat->Hp->V->Hp->Prop
 stop:Nat->Hp->Prop
def mW (X:Cx)(pins:List (Addr×Obj))(H:Hp)(b:Addr):Prop:=
 H b=none/\b≠X.env.locals/\b ∉ X.fs/\(b∈X.ex\/X.s₀.heap.objs.size<=b)/\(∀x c,X.env.cells.lookup x=some c->c≠b)/\ ∀p∈X.pn++pins,p.1≠b
theorem Inv.fpOk {X:Cx}{pins:List (Addr×Obj)}{σ:St}{H H':Hp}{s:Shared}{b:Addr}(I:Inv X pins σ H s)(hb:s.heap.objs.size<=b)(hn:H' b=none):mW X pins H' b:=by
 refine⟨hn,ne_of_gt (lt_of_lt_of_le I.lt hb),I.nofs hb,.inr (le_trans I.sz hb),λx c e z=> ?_,λp hp z=> ?_⟩
 ·obtain⟨v,q⟩:=I.cell x c e;exact absurd (lt_of_lt_of_le q.lt (by rw[z];exact hb)) (lt_irrefl _)
 ·exact absurd (lt_of_lt_of_le (lt_size (I.pin p hp).1) (by rw[z];exact hb)) (lt_irrefl _)
structure uF (P:Program)(w:World)(K:Frag)(tg:Expr)(J:It)(fp:List Addr)(it:Addr)(tn:Nat->Heap->Prop):Prop where
 mem:it∈fp
 obj: ∀i h,tn i h-> ∀b∈fp,∃o,h.get? b=some o/\ ∀v,o.data≠ .cell v
 keep: ∀i h h',tn i h->(∀b∈fp,∀o,h.get? b=some o->h'.get? b=some o)->tn i h'
 item: ∀(X:Cx),X.prog=P->X.w=w->X.K=K->X.calm=true-> ∀(i:Nat) (pins:List (Addr×Obj)) (s:Shared) (σ:St) (H:Hp) (E:Value->Shared->Prop),Inv X pins σ H s->(∀b∈fp,mW X pins H b)->tn i s.heap->J.go i H->
  wpAny (model P w) X.A (pyNext (.ref it)) (λr s1=> ∃u,r=some u/\
   wpAny (model P w) X.A (letOwnedTupleGo tg (.ref it) u) (λ_ s2=> ∃x H',Inv X pins σ H' s2/\RelV x u/\J.yld i H x H'/\tn (i+1) s2.heap/\ ∀b∈fp,H' b=none) E s1) E s
 done: ∀(X:Cx),X.prog=P->X.w=w->X.K=K->X.calm=true-> ∀(i:Nat) (pins:List (Addr×Obj)) (s:Shared) (σ:St) (H:Hp) (E:Value->Shared->Prop),Inv X pins σ H s->(∀b∈fp,mW X pins H b)->tn i s.heap->J.stop i H->
  wpAny (model P w) X.A (pyNext (.ref it)) (λr s1=>r=none/\Inv X pins σ H s1) E s
 self: ∀(A:Around) (i:Nat) (s:Shared) (Q:Value->Shared->Prop) (E:Value->Shared->Prop),tn i s.heap->Q (.ref it) s->wpAny (model P w) A (pyIter (.ref it)) Q E s
abbrev TI:=St->Hp->(It->Hp->Prop)->Prop
def PIE (X:Cx)(pins:List (Addr×Obj))(σ:St)(tg:Expr)(R:It->Hp->Prop)(itv:Value)(s2:Shared):Prop:=
 ∃(it:Addr) (fp:List Addr) (tn:Nat->Heap->Prop) (J:It) (H':Hp),itv= .ref it/\Inv X pins σ H' s2/\uF X.prog X.w X.K tg J fp it tn/\tn 0 s2.heap/\(∀b∈fp,mW X pins H' b)/\R J H'
def PI (X:Cx)(tg iter:Expr)(wi:TI):Prop:=
 ∀(pins:List (Addr×Obj)) (s:Shared) (σ:St) (H:Hp) (R:It->Hp->Prop),Inv X pins σ H s->wi σ H R->
  wpAny (model X.prog X.w) X.A (eval iter X.env) (λv s1=>wpAny (model X.prog X.w) X.A (pyIter v) (PIE X pins σ tg R) X.xe s1) X.xe s
theorem vS {M:Model}{A:Around}{E:Value->Shared->Prop}{s:Shared}{tg:Expr}{it:Addr}{u:Value}{o:Obj}{n:String}{vs:Array Value}{Q:Unit->Shared->Prop}(ho:s.heap.get? it=some o)(hc:o.cls= .type n)(hd:o.data= .fields vs)
  (hn:["enumerate","zip","dict_itemiterator","dict_reverseitemiterator","odict_iterator","itertools.zip_longest","itertools.pairwise"].contains n=false) (hQ:Q () s):wpAny M A (letOwnedTupleGo tg (.ref it) u) Q E s:=by
 unfold letOwnedTupleGo;cases tg<;>first
  | exact wpAny_pure hQ
  | (cases u<;>first
    | exact wpAny_pure hQ
    | (refine wpAny_bind (wpAny_load ho ?_)
       rw[hc,hd];show wpAny M A (if(["enumerate","zip","dict_itemiterator","dict_reverseitemiterator","odict_iterator","itertools.zip_longest","itertools.pairwise"].contains n&&vs[0]? ==some (rawInt _))=true then _ else _) Q E s;rw[if_neg (by intro h;rw[hn,Bool.false_and]at h;cases h)]
       exact wpAny_pure hQ))
def Itl (K:Frag)(a:Addr):It:=
 ⟨λi H=> ∃xs x,SqL K H a xs/\xs[i]? =some x,λi H x H'=>H'=H/\ ∀xs,SqL K H a xs->xs[i]? =some x,λi H=> ∃xs,SqL K H a xs/\xs.length<=i⟩
def Itt (K:Frag)(a:Addr):It:=
 ⟨λi H=> ∃xs x,SqT K H a xs/\xs[i]? =some x,λi H x H'=>H'=H/\ ∀xs,SqT K H a xs->xs[i]? =some x,λi H=> ∃xs,SqT K H a xs/\xs.length<=i⟩
def Itr (lo:Int)(n:Nat):It:=⟨λi _=>i<n,λi H x H'=>H'=H/\x= .int (lo+i),λi _=>n<=i⟩
theorem wV {P:Program}{w:World}{K:Frag}{tg:Expr}(a it:Addr):uF P w K tg (Itl K a) [it] it (λi h=>h.IsListIter it a i) where
 mem:=by simp
 obj:=λi h st b hb=>by
  have e:b=it:=by simpa using hb
  subst e;obtain⟨o,e,c,d⟩:=st;exact⟨o,e,λv z=>by rw[d]at z;cases z⟩
 keep:=λi h h' st k=>st.at λo e=>k it (by simp) o e
 item:=by
  intro X hP hw hK hc i pins s σ H E I hf st hg;subst hP hw hK;obtain⟨xs,x,hq,hx⟩:=hg;obtain⟨its,rv,p,hz⟩:=I.list hq;obtain⟨u,hu,ru⟩:=rv.get hx;obtain⟨f0,f1,f2,f3,f4,f5⟩:=hf it (by simp)
  refine wpAny_pyNext_list_item st p.isList (x:=u) (by simpa using hu) λh' st' sb=> ?_
  have I1:Inv X pins σ H {s with heap:=h'}:=I.turned (t':=s.toks) (λb o hb e=>(sb.2 b hb).trans e) f0 f1 f3 f4 f5
  obtain⟨o,e,c,d⟩:=id st';exact⟨u,rfl,vS (s:={s with heap:=h'}) e c d (by decide) ⟨x,H,I1,ru,⟨rfl,λys hy=>by rw[I.list_inj hy hq];exact hx⟩,st',λb hb=>(hf b hb).1⟩⟩
 done:=by
  intro X hP hw hK hc i pins s σ H E I hf st hg;subst hP hw hK;obtain⟨xs,hq,hx⟩:=hg;obtain⟨its,rv,p,hz⟩:=I.list hq;obtain⟨f0,f1,f2,f3,f4,f5⟩:=hf it (by simp)
  have hl:=rv.length;exact wpAny_pyNext_list_end (I.ok.hd hc) st p.isList (by simp;lia) λh' eb=>⟨rfl,I.turned (t':=s.toks) (λb o hb e=>eb b o hb e) f0 f1 f3 f4 f5⟩
 self:=λ_ _ _ _ _ st h=>wpAny_pyIter_listiter st h
theorem uG {P:Program}{w:World}{K:Frag}{tg:Expr}(a it:Addr):uF P w K tg (Itt K a) [it] it (λi h=>h.IsTupleIter it a i) where
 mem:=by simp
 obj:=λi h st b hb=>by
  have e:b=it:=by simpa using hb
  subst e;obtain⟨o,e,c,d⟩:=st;exact⟨o,e,λv z=>by rw[d]at z;cases z⟩
 keep:=λi h h' st k=>st.at λo e=>k it (by simp) o e
 item:=by
  intro X hP hw hK hc i pins s σ H E I hf st hg;subst hP hw hK;obtain⟨xs,x,hq,hx⟩:=hg;obtain⟨its,rv,p,hz⟩:=I.tuple hq;obtain⟨u,hu,ru⟩:=rv.get hx;obtain⟨f0,f1,f2,f3,f4,f5⟩:=hf it (by simp)
  refine wpAny_pyNext_tuple_item st (show s.heap.IsTuple a its.toArray from p) (x:=u) (by simpa using hu) λh' st' sb=> ?_
  have I1:Inv X pins σ H {s with heap:=h'}:=I.turned (t':=s.toks) (λb o hb e=>(sb.2 b hb).trans e) f0 f1 f3 f4 f5
  obtain⟨o,e,c,d⟩:=id st';exact⟨u,rfl,vS (s:={s with heap:=h'}) e c d (by decide) ⟨x,H,I1,ru,⟨rfl,λys hy=>by rw[I.tuple_inj hy hq];exact hx⟩,st',λb hb=>(hf b hb).1⟩⟩
 done:=by
  intro X hP hw hK hc i pins s σ H E I hf st hg;subst hP hw hK;obtain⟨xs,hq,hx⟩:=hg;obtain⟨its,rv,p,hz⟩:=I.tuple hq;obtain⟨f0,f1,f2,f3,f4,f5⟩:=hf it (by simp)
  have hl:=rv.length;exact wpAny_pyNext_tuple_end (I.ok.hd hc) st (show s.heap.IsTuple a its.toArray from p) (by simp;lia) λh' eb=>⟨rfl,I.turned (t':=s.toks) (λb o hb e=>eb b o hb e) f0 f1 f3 f4 f5⟩
 self:=λ_ _ _ _ _ st h=>wpAny_pyIter_tupleiter st h
theorem uH {P:Program}{w:World}{K:Frag}{tg:Expr}(it:Addr)(lo:Int)(n:Nat):uF P w K tg (Itr lo n) [it] it (λi h=>IsRangeIter h it (lo+(i:Nat)*1) ((n:Int)-(i:Nat)) 1) where
 mem:=by simp
 obj:=λi h st b hb=>by
  have e:b=it:=by simpa using hb
  subst e;exact⟨_,st,λv z=>by
   have z':Data.fields _=Data.cell v:=z;cases z'⟩
 keep:=λi h h' st k=>k it (by simp) _ st
 item:=by
  intro X hP hw hK hc i pins s σ H E I hf st hg;subst hP hw hK;obtain⟨f0,f1,f2,f3,f4,f5⟩:=hf it (by simp)
  have W:=Walks.range (prog:=X.prog) (w:=X.w) (I.ok.hd hc) it lo 1 n;refine W.item i s _ _ hg st λv h' tk hv st' kk=> ?_
  obtain⟨t,rfl⟩:=hv;have I1:Inv X pins σ H {s with heap:=h',toks:=tk}:=I.turned (λb o hb e=>kk b o (by simpa using hb) e) f0 f1 f3 f4 f5
  refine⟨_,rfl,vS (s:={s with heap:=h',toks:=tk}) (n:="range_iterator") st' rfl rfl (by decide) ⟨.int (lo+i),H,I1,⟨t,?_⟩,⟨rfl,rfl⟩,st',λb hb=>(hf b hb).1⟩⟩
  rw[mul_one]
 done:=by
  intro X hP hw hK hc i pins s σ H E I hf st hg;subst hP hw hK;obtain⟨f0,f1,f2,f3,f4,f5⟩:=hf it (by simp)
  exact wpAny_pyNext_range_end (I.ok.hd hc) st (by have:n<=i:=hg;lia) λh' eb=>⟨rfl,I.turned (t':=s.toks) (λb o hb e=>eb b o hb e) f0 f1 f3 f4 f5⟩
 self:=λ_ _ _ _ _ st h=>wpAny_pyIter_rangeiter st h
end L2
namespace L2
open PySem PySem.Spec PyProof.Rows
section
variable {X:Cx}{tg:Expr}
theorem yB {pins:List (Addr×Obj)}{σ:St}{H:Hp}{s:Shared}{R:It->Hp->Prop}{E:Value->Shared->Prop}{lo hi:Int}{t u v:Tok}{tk:Nat}(I:Inv X pins σ H s)(h1: -(2^62)<=lo)(h2:lo<2^62)(h3: -(2^62)<=hi)(h4:hi<2^62)
  (q:R (Itr lo (hi-lo).toNat) H):wpAny (model X.prog X.w) X.A (pyIter (.ref s.heap.objs.size)) (PIE X pins σ tg R) E {s with heap:=s.heap.push {cls:= .type "range",data:= .fields #[.int lo t,.int hi u,.int 1 v]},toks:=tk}:=by
 refine wpAny_pyIter_range (IsRange.new ..) (small_one h1 h2 h3 h4) ?_
 have I1:Inv X pins σ H {s with heap:=s.heap.push {cls:= .type "range",data:= .fields #[.int lo t,.int hi u,.int 1 v]},toks:=tk}:=I.kept λb o e=>get?_push_of_some _ e
 refine⟨(s.heap.push {cls:= .type "range",data:= .fields #[.int lo t,.int hi u,.int 1 v]}).objs.size,[(s.heap.push {cls:= .type "range",data:= .fields #[.int lo t,.int hi u,.int 1 v]}).objs.size],_,_,H,rfl,
  I1.kept (t':=tk) λb o e=>get?_push_of_some _ e,uH _ lo (hi-lo).toNat,?_,λb hb=> ?_,q⟩
 ·have e1:lo+((0:Nat):Int)*1=lo:=by simp
  have e2:(((hi-lo).toNat:Nat):Int)-((0:Nat):Int)=Builtin.Range.rangeSize lo hi 1:=by rw[rangeSize_one];split<;>lia
  show IsRangeIter _ _ (lo+((0:Nat):Int)*1) ((((hi-lo).toNat:Nat):Int)-((0:Nat):Int)) 1
  rw[e1,e2];exact get?_push_size _ rfl
 ·have e:b=(s.heap.push {cls:= .type "range",data:= .fields #[.int lo t,.int hi u,.int 1 v]}).objs.size:=by simpa using hb
  subst e;exact I1.fpOk (le_refl _) (I1.hok.fresh (le_refl _))
def iRng1 (ta:TA):TI:=λσ H R=>ta σ H λvs H1=> ∃j:Int,vs=[.int j]/\ -(2^62)<=j/\j<2^62/\R (Itr 0 j.toNat) H1
theorem qI {a:Expr}{ta:TA}{p pos:Pos}(hg:Gl X "range")(hm:X.mg "range"=none)(ha:PA X [a] ta)(hs:starEach [a] X.env=[(false,eval a X.env)]:=by rfl):PI X tg (.Call (.Name "range" p) [a] [] pos) (iRng1 ta):=by
 intro pins s σ H R I h;refine Call_ (j7 I hg hm boot_range (PyProof.Rows.callWith_type1 (thn (ha pos pins s σ H _ I h) λus s1 ⟨vs,H1,I1,r1,q1⟩=> ?_) hs rfl))
 obtain⟨j,e,q1,q2,q⟩:=q1;subst e;cases r1 with
 | cons r rr=>
  cases rr;obtain⟨t,rfl⟩:=r;exact call_range_1 (yB I1 (by lia) (by lia) q1 q2 (by simpa using q))
def tFor (wi:TI)(g:TG)(tb:TS):TS:=λD σ H=>wi σ H λJ H1=> ∃W:Nat->Nat->St->Hp->Prop,(∃m,W 0 m σ H1)/\ ∀i m σ H,W i m σ H->
 (J.stop i H/\D.nx σ H)\/(J.go i H/\ ∃N:St->Hp->Prop,(∀σ' H',N σ' H'-> ∃m',m'<m/\W (i+1) m' σ' H')/\ ∀x H',J.yld i H x H'->g x σ H' λσ2 H2=>tb {D with nx:=N,ct:=N,bk:=D.nx} σ2 H2)
def oE (fp:List Addr)(h:Heap):List (Addr×Obj):=fp.filterMap λb=>(h.get? b).map λo=>(b,o)
theorem j8 {fp:List Addr}{h:Heap}{b:Addr}{o:Obj}(hb:b∈fp)(e:h.get? b=some o):(b,o)∈oE fp h:=List.mem_filterMap.mpr ⟨b,hb,by rw[e];rfl⟩
theorem wW {fp:List Addr}{h:Heap}{p:Addr×Obj}(hp:p∈oE fp h):p.1∈fp/\h.get? p.1=some p.2:=by
 obtain⟨b,hb,e⟩:=List.mem_filterMap.mp hp;cases q:h.get? b with
 | none=>rw[q]at e;cases e
 | some o=>
  rw[q]at e;have e':(b,o)=p:=Option.some.inj e;subst e';exact⟨hb,q⟩
theorem Inv.pinned {pins:List (Addr×Obj)}{σ:St}{H:Hp}{s:Shared}{fp:List Addr}(I:Inv X pins σ H s)(hf: ∀b∈fp,mW X pins H b)(ho: ∀b∈fp,∃o,s.heap.get? b=some o/\ ∀v,o.data≠ .cell v):Inv X (pins++oE fp s.heap) σ H s:=
 I.pins_of λp hp=>(List.mem_append.mp hp).elim (λz=>I.pin p (mem_append_right _ z)) λz=>by
  obtain⟨hb,e⟩:=wW z;obtain⟨f0,f1,f2,_⟩:=hf p.1 hb;obtain⟨o,e',d⟩:=ho p.1 hb;rw[e]at e';cases e';exact⟨e,f0,f1,f2,d⟩
theorem Inv.unpinned {pins pl:List (Addr×Obj)}{σ:St}{H:Hp}{s:Shared}(I:Inv X (pins++pl) σ H s):Inv X pins σ H s:=I.pins_of λp hp=>I.pin p (mem_append_right _ (mem_append_left _ hp))
theorem yC {iter:Expr}{body:List Stmt}{wi:TI}{g:TG}{tb:TS}{pos:Pos}(hp:PassesOwn (model X.prog X.w) X.A X.env X.xe)(hc:X.calm=true)(hi:PI X tg iter wi)(hg:PG X tg g)(hb:PSs X body tb)
  (hs: ∀x,foldedSetIterable iter X.env x=pure x:=by intro _;rfl):PS X (.For tg iter body [] pos) (tFor wi g tb):=by
 intro pins s σ H D I h;refine wpAny_For (thn (hi pins s σ H _ I h) λv s1 h1=>thn h1 λitv s2 h2=> ?_) hs
 obtain⟨it,fp,tn,J,H2,e,I2,T,st2,f2,W,⟨m0,w0⟩,turn⟩:=h2;subst e;have stat: ∀{H':Hp},(∀b∈fp,H' b=none)-> ∀b∈fp,mW X pins H' b:=λhn b hb=>⟨hn b hb,(f2 b hb).2⟩
 refine codeAny_forLoop_any (λn s'=> ∃i σ' H',Inv X pins σ' H' s'/\tn i s'.heap/\(∀b∈fp,H' b=none)/\W i n σ' H') ?_ m0 ⟨0,σ,H2,I2,st2,λb hb=>(f2 b hb).1,w0⟩
 rintro n s3 ⟨i,σ3,H3,I3,st3,fr3,w3⟩;rcases turn i n σ3 H3 w3 with⟨stop,qn⟩| ⟨go,N,hN,step⟩
 ·refine wpAny_passesOwn hp (thn (T.done X rfl rfl rfl hc i pins s3 σ3 H3 X.xe I3 (stat fr3) st3 stop) λr s4 ⟨hr,I4⟩=> ?_)
  subst hr;exact wpAny_execs_nil ⟨σ3,H3,I4,qn⟩
 ·refine wpAny_passesOwn hp (thn (T.item X rfl rfl rfl hc i pins s3 σ3 H3 X.xe I3 (stat fr3) st3 go) λr s4 ⟨u,hr,h4⟩=> ?_)
  subst hr;refine wpAny_passesOwn hp (thn h4 λ_ s5 ⟨x,H5,I5,r5,y5,st5,fr5⟩=> ?_)
  have I5':=I5.pinned (stat fr5) (T.obj _ _ st5);refine wpAny_passesOwn hp (thn (hg _ s5 σ3 H5 x u _ I5' r5 (step x H5 y5)) λ_ s6 ⟨σ6,H6,I6,q6⟩=> ?_)
  refine wpAny_passesOwn hp (thn (hb _ s6 σ6 H6 _ I6 q6) λf s7 q7=> ?_)
  have again: ∀{σ7:St} {H7:Hp},Inv X (pins++oE fp s5.heap) σ7 H7 s7->N σ7 H7-> ∃m,m<n/\ ∃i σ' H',Inv X pins σ' H' s7/\tn i s7.heap/\(∀b∈fp,H' b=none)/\W i m σ' H':=λ{σ7 H7} I7 n7=>by
   obtain⟨m',hm,w7⟩:=hN σ7 H7 n7;refine⟨m',hm,i+1,σ7,H7,I7.unpinned,T.keep _ _ _ st5 λb hb o e=>(I7.pin (b,o) (mem_append_right _ (mem_append_right _ (j8 hb e)))).1,λb hb=> ?_,w7⟩
   obtain⟨o,e,d⟩:=T.obj _ _ st5 b hb;exact(I7.pin (b,o) (mem_append_right _ (mem_append_right _ (j8 hb e)))).2.1
  cases f with
  | next=>obtain⟨σ7,H7,I7,n7⟩:=q7;exact again I7 n7
  | cont=>obtain⟨σ7,H7,I7,n7⟩:=q7;exact again I7 n7
  | brk=>obtain⟨σ7,H7,I7,q7⟩:=q7;exact⟨σ7,H7,I7.unpinned,q7⟩
  | ret v=>obtain⟨x7,σ7,H7,I7,r7,q7⟩:=q7;exact⟨x7,σ7,H7,I7.unpinned,r7,q7⟩
end
end L2
namespace L2
open PySem PySem.Spec PyProof.Rows
abbrev R2:=V->V->Hp->VK->Prop
def OpR (X:Cx)(f:Value->Value->Sem Value)(r:R2):Prop:=
 ∀(pins:List (Addr×Obj)) (s:Shared) (σ:St) (H:Hp) (x y:V) (v u:Value) (Q:VK),Inv X pins σ H s->RelV x v->RelV y u->r x y H Q->
  wpAny (model X.prog X.w) X.A (f v u) (EP X pins σ Q) X.xe s
def UnR (X:Cx)(f:Value->Sem Value)(r:V->Hp->VK->Prop):Prop:=
 ∀(pins:List (Addr×Obj)) (s:Shared) (σ:St) (H:Hp) (x:V) (v:Value) (Q:VK),Inv X pins σ H s->RelV x v->r x H Q->
  wpAny (model X.prog X.w) X.A (f v) (EP X pins σ Q) X.xe s
def fV (X:Cx)(f:Value)(r:List V->Hp->VK->Prop):Prop:=
 ∀(pins:List (Addr×Obj)) (s:Shared) (σ:St) (H:Hp) (xs:List V) (us:List Value) (Q:VK),Inv X pins σ H s->bC xs us->r xs H Q->
  wpAny (model X.prog X.w) X.A (call f us) (EP X pins σ Q) X.xe s
def tOp (r:R2)(ta tb:TE):TE:=λσ H Q=>ta σ H λx H1=>tb σ H1 λy H2=>r x y H2 Q
def tUn (r:V->Hp->VK->Prop)(ta:TE):TE:=λσ H Q=>ta σ H λx H1=>r x H1 Q
def rI (C:Int->Int->Prop)(g:Int->Int->V):R2:=λx y H Q=> ∃i j,x= .int i/\y= .int j/\C i j/\Q (g i j) H
def rI0 (g:Int->Int->V):R2:=λx y H Q=> ∃i j,x= .int i/\y= .int j/\Q (g i j) H
def rU (g:Int->V):V->Hp->VK->Prop:=λx H Q=> ∃i,x= .int i/\Q (g i) H
section
variable {X:Cx}{a b c:Expr}{ta tb tc:TE}{pos:Pos}
theorem binT (ha:PE X a ta)(hb:PE X b tb){pins:List (Addr×Obj)}{s:Shared}{σ:St}{H:Hp}{R:V->V->Hp->Prop}(I:Inv X pins σ H s)
  (h:ta σ H λx H1=>tb σ H1 λy H2=>R x y H2) {Q:Value->Shared->Prop} {f:Value->Value->Sem Value}
  (hf: ∀v u s2 x y H2,Inv X pins σ H2 s2->RelV x v->RelV y u->R x y H2->wpAny (model X.prog X.w) X.A (f v u) Q X.xe s2) :
  wpAny (model X.prog X.w) X.A (eval a X.env) (λv s₁=>wpAny (model X.prog X.w) X.A (eval b X.env) (λu s₂=>wpAny (model X.prog X.w) X.A (f v u) Q X.xe s₂) X.xe s₁) X.xe s:=by
 refine thn (ha pins s σ H _ I h) λv s1 ⟨x,H1,I1,r1,q1⟩=> ?_
 refine thn (hb pins s1 σ H1 _ I1 q1) λu s2 ⟨y,H2,I2,r2,q2⟩=> ?_
 exact hf v u s2 x y H2 I2 r1 r2 q2
theorem pe_op {op:Operator}{r:R2}(ho:OpR X (binaryOp op) r)(ha:PE X a ta)(hb:PE X b tb):PE X (.BinOp a op b pos) (tOp r ta tb):=by
 intro pins s σ H Q I h;exact wpAny_BinOp (binT ha hb I h λv u s2 x y H2 I2 rx ry q=>ho pins s2 σ H2 x y v u Q I2 rx ry q)
theorem pe_un {op:UnaryOp}{r:V->Hp->VK->Prop}(ho:UnR X (unaryOp op) r)(ha:PE X a ta):PE X (.UnaryOp op a pos) (tUn r ta):=by
 intro pins s σ H Q I h;exact UnaryOp_ (thn (ha pins s σ H _ I h) λv s1 ⟨x,H1,I1,r1,q1⟩=>ho pins s1 σ H1 x v Q I1 r1 q1)
theorem opI {f:Value->Value->Sem Value}{C:Int->Int->Prop}{g:Int->Int->Int}
  (rule: ∀(i j:Int) (t u:Tok) (s:Shared) (Q:Value->Shared->Prop) (E:Value->Shared->Prop),C i j->Q (.int (g i j) s.toks) {s with toks:=s.toks+1}->wpAny (model X.prog X.w) X.A (f (.int i t) (.int j u)) Q E s) :
  OpR X f (rI C λi j=> .int (g i j)):=by
 intro pins s σ H x y v u Q I rx ry h;obtain⟨i,j,rfl,rfl,hc,q⟩:=h;obtain⟨t,rfl⟩:=rx;obtain⟨t',rfl⟩:=ry;exact rule i j t t' s _ _ hc ⟨.int (g i j),H,I.tok _,⟨_,rfl⟩,q⟩
theorem opI0 {f:Value->Value->Sem Value}{g:Int->Int->Int}
  (rule: ∀(i j:Int) (t u:Tok) (s:Shared) (Q:Value->Shared->Prop) (E:Value->Shared->Prop),Q (.int (g i j) s.toks) {s with toks:=s.toks+1}->wpAny (model X.prog X.w) X.A (f (.int i t) (.int j u)) Q E s) :
  OpR X f (rI0 λi j=> .int (g i j)):=by
 intro pins s σ H x y v u Q I rx ry h;obtain⟨i,j,rfl,rfl,q⟩:=h;obtain⟨t,rfl⟩:=rx;obtain⟨t',rfl⟩:=ry;exact rule i j t t' s _ _ ⟨.int (g i j),H,I.tok _,⟨_,rfl⟩,q⟩
theorem opB0 {f:Value->Value->Sem Value}{g:Int->Int->Bool}
  (rule: ∀(i j:Int) (t u:Tok) (s:Shared) (Q:Value->Shared->Prop) (E:Value->Shared->Prop),Q (.bool (g i j)) s->wpAny (model X.prog X.w) X.A (f (.int i t) (.int j u)) Q E s) :
  OpR X f (rI0 λi j=> .bl (g i j)):=by
 intro pins s σ H x y v u Q I rx ry h;obtain⟨i,j,rfl,rfl,q⟩:=h;obtain⟨t,rfl⟩:=rx;obtain⟨t',rfl⟩:=ry;exact rule i j t t' s _ _ ⟨.bl (g i j),H,I,rfl,q⟩
def a36 (i j:Int):Prop:=0<=j/\j<=1000000/\i.natAbs<2^64
def uI (i j:Int):Prop:=(-(2^64)<i/\i<2^64)\/(-(2^64)<j/\j<2^64)
theorem uI.ok {i j:Int}(h:uI i j):IntMulOk i j:=by
 rcases h with⟨h1,h2⟩| ⟨h1,h2⟩
 ·exact .of_left (intBits_le_64 h1 h2)
 ·exact .of_right (intBits_le_64 h1 h2)
theorem op_add:OpR X (binaryOp .Add) (rI0 λi j=> .int (i+j)):=opI0 λ_ _ _ _ _ _ _ q=>add_int q
theorem op_sub:OpR X (binaryOp .Sub) (rI0 λi j=> .int (i-j)):=opI0 λ_ _ _ _ _ _ _ q=>sub_int q
theorem a37:OpR X (binaryOp .Mod) (rI (λ_ j=>j≠0) λi j=> .int (i.fmod j)):=opI λ_ _ _ _ _ _ _ hc q=>mod_int' hc q
theorem op_pow:OpR X (binaryOp .Pow) (rI a36 λi j=> .int (i^j.toNat)):=opI λ_ _ _ _ _ _ _ hc q=>pow_int_small hc.1 hc.2.1 hc.2.2 q
theorem unI {f:Value->Sem Value}{g:Int->Int}
  (rule: ∀(i:Int) (t:Tok) (s:Shared) (Q:Value->Shared->Prop) (E:Value->Shared->Prop),Q (.int (g i) s.toks) {s with toks:=s.toks+1}->wpAny (model X.prog X.w) X.A (f (.int i t)) Q E s) :
  UnR X f (rU λi=> .int (g i)):=by
 intro pins s σ H x v Q I rx h;obtain⟨i,rfl,q⟩:=h;obtain⟨t,rfl⟩:=rx;exact rule i t s _ _ ⟨.int (g i),H,I.tok _,⟨_,rfl⟩,q⟩
theorem un_neg:UnR X (unaryOp .USub) (rU λi=> .int (-i)):=unI λ_ _ _ _ _ q=>neg_int q
end
def scal:V->V->Bool
 | .non,.non=>true| .non,.int _=>true| .int _,.non=>true| .non,.bl _=>true| .bl _,.non=>true| .non,.str _=>true| .str _,.non=>true
 | .int _,.int _=>true| .bl _,.bl _=>true| .str _,.str _=>true| .byt _,.byt _=>true
 | .int _,.str _=>true| .str _,.int _=>true| .bl _,.str _=>true| .str _,.bl _=>true
 | _,_=>false
def rEq:R2:=λx y H Q=>scal x y=true/\Q (.bl (decide (x=y))) H
def rNe:R2:=λx y H Q=>scal x y=true/\Q (.bl (!decide (x=y))) H
theorem nY {i j:Int}:decide (V.int i=V.int j)=(i==j):=by
 rw[Bool.eq_iff_iff];simp
theorem rP {i j:Bool}:decide (V.bl i=V.bl j)=(i==j):=by
 rw[Bool.eq_iff_iff];simp
theorem nZ {i j:Str}:decide (V.str i=V.str j)=(i==j):=by
 rw[Bool.eq_iff_iff];simp
theorem vT {i j:Array UInt8}:decide (V.byt i=V.byt j)=(i.toList==j.toList):=by
 rw[Bool.eq_iff_iff];cases i;cases j;simp
section
variable {X:Cx}{a b c:Expr}{ta tb tc:TE}{pos:Pos}
theorem bN {pins:List (Addr×Obj)}{σ:St}{H:Hp}{s:Shared}{Q:VK}{k k':Bool}(I:Inv X pins σ H s)(q:Q (.bl k) H)(e:k=k'):EP X pins σ Q (.bool k') s:=by
 subst e;exact⟨.bl k,H,I,rfl,q⟩
theorem yD:OpR X (compareOp .Eq) rEq:=by
 intro pins s σ H x y v u Q I rx ry h;obtain⟨hs,q⟩:=h;cases x with
 | non=>
  cases rx;cases y with
  | non=>cases ry;exact PySem.EqNone.eq_none_none (bN I q (by simp))
  | bl j=>cases ry;exact PySem.EqNone.eq_none_bool (bN I q (by simp))
  | int j=>obtain⟨t',rfl⟩:=ry;exact PySem.EqNone.eq_none_int (bN I q (by simp))
  | str j=>obtain⟨t',rfl⟩:=ry;exact PySem.EqNone.eq_none_str (bN I q (by simp))
  | _=>exact absurd (show false=true from hs) Bool.false_ne_true
 | bl i=>
  cases rx;cases y with
  | non=>cases ry;exact PySem.EqNone.eq_bool_none (bN I q (by simp))
  | bl j=>cases ry;exact eq_bool (bN I q rP)
  | str j=>obtain⟨t',rfl⟩:=ry;exact PySem.EqMixed.eq_bool_str (bN I q (by simp))
  | _=>exact absurd (show false=true from hs) Bool.false_ne_true
 | int i=>
  obtain⟨t,rfl⟩:=rx;cases y with
  | non=>cases ry;exact PySem.EqNone.eq_int_none (bN I q (by simp))
  | int j=>obtain⟨t',rfl⟩:=ry;exact eq_int (bN I q nY)
  | str j=>obtain⟨t',rfl⟩:=ry;exact PySem.EqMixed.eq_int_str (bN I q (by simp))
  | _=>exact absurd (show false=true from hs) Bool.false_ne_true
 | str i=>
  obtain⟨t,rfl⟩:=rx;cases y with
  | non=>cases ry;exact PySem.EqNone.eq_str_none (bN I q (by simp))
  | bl j=>cases ry;exact PySem.EqMixed.eq_str_bool (bN I q (by simp))
  | int j=>obtain⟨t',rfl⟩:=ry;exact PySem.EqMixed.eq_str_int (bN I q (by simp))
  | str j=>obtain⟨t',rfl⟩:=ry;exact eq_str (bN I q nZ)
  | _=>exact absurd (show false=true from hs) Bool.false_ne_true
 | byt i=>
  obtain⟨t,rfl⟩:=rx;cases y with
  | byt j=>obtain⟨t',rfl⟩:=ry;exact PySem.W.eq_bytes (bN I q vT)
  | _=>exact absurd (show false=true from hs) Bool.false_ne_true
 | _=>cases y<;>exact absurd (show false=true from hs) Bool.false_ne_true
theorem yE:OpR X (compareOp .NotEq) rNe:=by
 intro pins s σ H x y v u Q I rx ry h;obtain⟨hs,q⟩:=h;cases x with
 | non=>
  cases rx;cases y with
  | non=>cases ry;exact PySem.EqNone.ne_none_none (bN I q (by simp))
  | bl j=>cases ry;exact PySem.EqNone.ne_none_bool (bN I q (by simp))
  | int j=>obtain⟨t',rfl⟩:=ry;exact PySem.EqNone.ne_none_int (bN I q (by simp))
  | str j=>obtain⟨t',rfl⟩:=ry;exact PySem.EqNone.ne_none_str (bN I q (by simp))
  | _=>exact absurd (show false=true from hs) Bool.false_ne_true
 | bl i=>
  cases rx;cases y with
  | non=>cases ry;exact PySem.EqNone.ne_bool_none (bN I q (by simp))
  | bl j=>cases ry;exact ne_bool (bN I q (congrArg not rP))
  | str j=>obtain⟨t',rfl⟩:=ry;exact PySem.EqMixed.ne_bool_str (bN I q (by simp))
  | _=>exact absurd (show false=true from hs) Bool.false_ne_true
 | int i=>
  obtain⟨t,rfl⟩:=rx;cases y with
  | non=>cases ry;exact PySem.EqNone.ne_int_none (bN I q (by simp))
  | int j=>obtain⟨t',rfl⟩:=ry;exact ne_int (bN I q (congrArg not nY))
  | str j=>obtain⟨t',rfl⟩:=ry;exact PySem.EqMixed.ne_int_str (bN I q (by simp))
  | _=>exact absurd (show false=true from hs) Bool.false_ne_true
 | str i=>
  obtain⟨t,rfl⟩:=rx;cases y with
  | non=>cases ry;exact PySem.EqNone.ne_str_none (bN I q (by simp))
  | bl j=>cases ry;exact PySem.EqMixed.ne_str_bool (bN I q (by simp))
  | int j=>obtain⟨t',rfl⟩:=ry;exact PySem.EqMixed.ne_str_int (bN I q (by simp))
  | str j=>obtain⟨t',rfl⟩:=ry;exact ne_str (bN I q (congrArg not nZ))
  | _=>exact absurd (show false=true from hs) Bool.false_ne_true
 | byt i=>
  obtain⟨t,rfl⟩:=rx;cases y with
  | byt j=>obtain⟨t',rfl⟩:=ry;exact PySem.W.ne_bytes (bN I q (congrArg not vT))
  | _=>exact absurd (show false=true from hs) Bool.false_ne_true
 | _=>cases y<;>exact absurd (show false=true from hs) Bool.false_ne_true
theorem op_lt:OpR X (compareOp .Lt) (rI0 λi j=> .bl (decide (i<j))):=opB0 λ_ _ _ _ _ _ _ q=>lt_int q
theorem op_gt:OpR X (compareOp .Gt) (rI0 λi j=> .bl (decide (j<i))):=opB0 λ_ _ _ _ _ _ _ q=>gt_int q
theorem op_ge:OpR X (compareOp .GtE) (rI0 λi j=> .bl (decide (j<=i))):=opB0 λ_ _ _ _ _ _ _ q=>ge_int q
theorem OpR.or {f:Value->Value->Sem Value}{r r':R2}(h:OpR X f r)(h':OpR X f r'):OpR X f (λx y H Q=>r x y H Q\/r' x y H Q):=by
 intro pins s σ H x y v u Q I rx ry q;rcases q with q|q
 ·exact h pins s σ H x y v u Q I rx ry q
 ·exact h' pins s σ H x y v u Q I rx ry q
theorem cS (b:Expr){op:CmpOp}(h:op≠ .In:=by decide)(h2:op≠ .NotIn:=by decide):behindInMarks op b=false:=by
 have e1:(op==CmpOp.In)=false:=by cases op<;>first|rfl|exact absurd rfl h
 have e2:(op==CmpOp.NotIn)=false:=by cases op<;>first|rfl|exact absurd rfl h2
 cases b<;>simp[behindInMarks,e1,e2]
theorem a38 {op:CmpOp}{r:R2}(ho:OpR X (compareOp op) r)(ha:PE X a ta)(hb:PE X b tb)(hm:behindInMarks op b=false):PE X (.Compare a [op] [b] pos) (tOp r ta tb):=by
 intro pins s σ H Q I h;exact wpAny_Compare1 (binT ha hb I h λv u s2 x y H2 I2 rx ry q=>ho pins s2 σ H2 x y v u Q I2 rx ry q) hm
def tTest (t:TE):TT:=λσ H Q=>t σ H λx H'=> ∃k,x= .bl k/\Q k H'
theorem a39 {op:CmpOp}{r:R2}(ho:OpR X (compareOp op) r)(ha:PE X a ta)(hb:PE X b tb)(hm:behindInMarks op b=false):PT X (.Compare a [op] [b] pos) (tTest (tOp r ta tb)):=by
 intro pins s σ H Q I h;refine wpAny_isTrue_Compare1 (thn (ha pins s σ H _ I h) λv s1 ⟨x,H1,I1,r1,q1⟩=>thn (hb pins s1 σ H1 _ I1 q1) λu s2 ⟨y,H2,I2,r2,q2⟩=>
  thn (ho pins s2 σ H2 x y v u _ I2 r1 r2 q2) λc s3 ⟨z,H3,I3,r3,k,e,q3⟩=> ?_) hm
 subst e;cases r3;exact wpAny_truthy_bool ⟨H3,I3,q3⟩
theorem oF:(sizeLine:Nat)<2^63:=by rw[sizeLine_eq];decide
theorem vals1 {x:V}{us:List Value}(r:bC [x] us): ∃u,us=[u]/\RelV x u:=by
 cases r with
 | cons r1 r2=>cases r2;exact⟨_,rfl,r1⟩
theorem vals2 {x y:V}{us:List Value}(r:bC [x,y] us): ∃u w',us=[u,w']/\RelV x u/\RelV y w':=by
 cases r with
 | cons r1 r2=>
  cases r2 with
  | cons r3 r4=>cases r4;exact⟨_,_,rfl,r1,r3⟩
theorem qJ:fV X (.type "int") (λxs H Q=>(∃i,xs=[.int i]/\Q (.int i) H)\/ ∃k,xs=[.bl k]/\Q (.int (if k then 1 else 0)) H):=by
 intro pins s σ H xs us Q I r h;rcases h with⟨i,rfl,q⟩| ⟨k,rfl,q⟩
 ·obtain⟨u,rfl,t,rfl⟩:=vals1 r;exact call_int_int ⟨.int i,H,I,⟨_,rfl⟩,q⟩
 ·obtain⟨u,rfl,r1⟩:=vals1 r;cases r1;exact call_int_bool ⟨.int (if k then 1 else 0),H,I.tok _,⟨_,rfl⟩,q⟩
end
end L2
namespace L2
open PySem PySem.Spec PyProof.Rows
structure Cls (K:Frag)(C:Addr):Prop where
 pg:PySem.W.plainGet K C Str.empty=true
 hd:PySem.W.hasDictIn K C=true
 po:PySem.W.plainOver K C=true
 sa:PySem.W.findIn K (.ref C) "__setattr__"=some (some (.builtin "object.__setattr__"))
theorem Cls.get {K:Frag}{C:Addr}(c:Cls K C)(f:Str):PySem.W.plainGet K C f=true:=c.pg
def NoAttr (K:Frag)(C:Addr)(f:Str):Prop:=PySem.W.findIn K (.ref C) f=some none
end L2
namespace L2
open PySem PySem.Spec PyProof.Rows
structure cT (k:Nat)(A:Around):Prop where
 hd:A.handled=none
 dp:A.depth+3*k+5<recursionLimit
 un:A.units+16*k+200<cLine
theorem cT.mono {j k:Nat}{A:Around}(r:cT k A)(h:j<=k):cT j A:=⟨r.hd,by have:=r.dp;lia,by have:=r.un;lia⟩
theorem cT.deeper {k:Nat}{A:Around}(r:cT (k+1) A)(env:Env):cT k (A.deeper env):=
 ⟨r.hd,by have:=r.dp;show A.depth+1+3*k+5<_;lia,by have:=r.un;show A.units+3+16*k+200<_;lia⟩
theorem cT.in1 {k:Nat}{A:Around}(r:cT (k+1) A):cT k A.in1:=
 ⟨r.hd,by have:=r.dp;show A.depth+3*k+5<_;lia,by have:=r.un;show A.units+1+16*k+200<_;lia⟩
theorem cT.depth {k:Nat}{A:Around}(r:cT k A):A.depth<recursionLimit:=by have:=r.dp;lia
theorem cT.units {k:Nat}{A:Around}(r:cT k A):A.units+64<cLine:=by have:=r.un;lia
def tNil:TA:=λ_ H Q=>Q [] H
def tCons (ta:TE)(tr:TA):TA:=λσ H Q=>ta σ H λx H1=>tr σ H1 λxs H2=>Q (x::xs) H2
section
variable {X:Cx}{e:Expr}{es:List Expr}{te:TE}{t:TA}{pos:Pos}
theorem uJ:PA X [] tNil:=λ_ _ _ _ H Q I h=>Calls.spliced_nil ⟨[],H,I,.nil,h⟩
theorem rQ (ha:PE X e te)(hr:PA X es t)(hs:starEach (e::es) X.env=(false,eval e X.env)::starEach es X.env:=by rfl):PA X (e::es) (tCons te t):=by
 intro pos pins s σ H Q I h;rw[hs];show wpAny _ _ (spliced ((false,eval e X.env)::backTo pos (starEach es X.env))) _ _ s;refine Calls.spliced_cons (thn (ha pins s σ H _ I h) λu s1 ⟨x,H1,I1,r1,q1⟩=> ?_)
 exact thn (hr pos pins s1 σ H1 _ I1 q1) λus s2 ⟨xs,H2,I2,r2,q2⟩=>⟨x::xs,H2,I2,.cons r1 r2,q2⟩
def tTup (t:TA):TE:=λσ H Q=>t σ H λxs H1=>xs.length<=sizeLine/\ ∀p,H1 p=none->Q (.ref p) (upd H1 p (.tup xs))
def tLst (t:TA):TE:=λσ H Q=>t σ H λxs H1=>xs.length<=sizeLine/\ ∀p,H1 p=none->Q (.ref p) (upd H1 p (.lst xs))
theorem pe_tup {x1}(h:PA X es t):PE X (.Tuple es x1 pos) (tTup t):=by
 intro pins s σ H Q I hq;refine wpAny_Tuple_spliced (thn (h pos pins s σ H _ I hq) λus s1 ⟨xs,H1,I1,r,z,q⟩=>⟨by rw[<-r.length];exact z,?_⟩)
 have hf:H1 s1.heap.objs.size=none:=I1.hok.fresh (le_refl _);refine⟨.ref s1.heap.objs.size,upd H1 s1.heap.objs.size (.tup xs),I1.laid (t':=s1.toks) (λb u e=>get?_push_of_some _ e) (le_refl _) ?_,rfl,q _ hf⟩
 exact⟨z,us,r,⟨_,get?_push_size _ rfl,rfl,_,rfl⟩⟩
theorem pe_lst (h:PA X es t):PE X (.List es pos) (tLst t):=by
 intro pins s σ H Q I hq;refine wpAny_List_spliced (thn (h pos pins s σ H _ I hq) λus s1 ⟨xs,H1,I1,r,z,q⟩=>⟨by rw[<-r.length];exact z,?_⟩)
 have hf:H1 s1.heap.objs.size=none:=I1.hok.fresh (le_refl _);refine⟨.ref s1.heap.objs.size,upd H1 s1.heap.objs.size (.lst xs),I1.laid (t':=s1.toks) (λb u e=>get?_push_of_some _ e) (le_refl _) ?_,rfl,q _ hf⟩
 exact⟨z,us,0,r,get?_push_size _ rfl⟩
end
abbrev Sp:=List V->Hp->VK->XK->Prop
abbrev CXT:=List Env->Hp->Shared->XK->Value->Shared->Prop
structure uK (P:Program)(w:World)(K:Frag)(mg:Str->Option Value)(base:Heap)(A:Around)(outer:List Env)(s:Shared)(H:Hp):Prop where
 frames:A.frames=some outer
 mod:Mod K mg base
 bs: ∀b o,base.get? b=some o->s.heap.get? b=some o/\H b=none
 bsz:base.objs.size<=s.heap.objs.size
 funs:s.heap.FunFrames base outer
 frf: ∀b∈frs outer,H b=none
 hok:HOk P w H s.heap
 bare:AllBare s.gens
def CE (outer:List Env)(P:Program)(w:World)(H:Hp)(s:Shared)(Q:VK)(u:Value)(s':Shared):Prop:=
 ∃v H',s'.os=s.os/\AllBare s'.gens/\Un (frs outer) [] H H' s.heap s'.heap/\HOk P w H' s'.heap/\RelV v u/\Q v H'
def CR (CX:CXT)(outer:List Env)(P:Program)(w:World)(H:Hp)(s:Shared)(Q:VK)(E:XK)(r:Result)(s':Shared):Prop:=
 match r with
 | .ok (.ret u)=>CE outer P w H s Q u s'
 | .ok _=>False
 | .error e=>CX outer H s E e s'
structure jU (P:Program)(w:World)(K:Frag)(mg:Str->Option Value)(base:Heap)(CX:CXT)(k:Nat)(f:Addr)(fd:FuncData)(ps:List Str)(sp:Sp):Prop where
 len: ∀vs H Q E,sp vs H Q E->vs.length=ps.length
 run: ∀(A:Around) (outer:List Env) (s:Shared) (H:Hp) (args:Args) (us:List Value) (vs:List V) (Q:VK) (E:XK),cT k A->uK P w K mg base A outer s H->BindsTo s fd args (ps.zip us)->bC vs us->sp vs H Q E->
  codeAny (model P w) A (.call (.ref f) args) (CR CX outer P w H s Q E) s
theorem jU.mono {P:Program}{w:World}{K:Frag}{mg:Str->Option Value}{base:Heap}{CX:CXT}{j k:Nat}{f:Addr}{fd:FuncData}{ps:List Str}{sp:Sp}(F:jU P w K mg base CX j f fd ps sp)(h:j<=k) :
  jU P w K mg base CX k f fd ps sp:=⟨F.len,λA outer s H args us vs Q E hr=>F.run A outer s H args us vs Q E (hr.mono h)⟩
theorem jU.imp {P:Program}{w:World}{K:Frag}{mg:Str->Option Value}{base:Heap}{CX:CXT}{k:Nat}{f:Addr}{fd:FuncData}{ps:List Str}{sp sp':Sp}(F:jU P w K mg base CX k f fd ps sp)
  (h: ∀vs H Q E,sp' vs H Q E->sp vs H Q E):jU P w K mg base CX k f fd ps sp':=
 ⟨λvs H Q E q=>F.len vs H Q E (h _ _ _ _ q),λA outer s H args us vs Q E hr he hb hv hs=>F.run A outer s H args us vs Q E hr he hb hv (h _ _ _ _ hs)⟩
theorem uK.in1 {P:Program}{w:World}{K:Frag}{mg:Str->Option Value}{base:Heap}{A:Around}{outer:List Env}{s:Shared}{H:Hp}(e:uK P w K mg base A outer s H) :
  uK P w K mg base A.in1 outer s H:=⟨e.frames,e.mod,e.bs,e.bsz,e.funs,e.frf,e.hok,e.bare⟩
section
variable {X:Cx}{pins:List (Addr×Obj)}{σ:St}{H:Hp}{s s':Shared}
theorem Inv.env0 (I:Inv X pins σ H s):uK X.prog X.w X.K X.mg X.base X.A X.stack s H:=
 ⟨I.ok.frames,I.ok.mod,I.bs,le_trans I.ok.bsz I.sz,I.stack,I.stkFree,I.hok,I.bare⟩
theorem Inv.after {Q:VK}{u:Value}(I:Inv X pins σ H s)(h:CE X.stack X.prog X.w H s Q u s'):EP X pins σ Q u s':=by
 obtain⟨v,H',os,bare,un,hok,r,q⟩:=h;obtain⟨hh,g,d,t,os'⟩:=s';obtain rfl:os'=s.os:=os;exact⟨v,H',I.call (h':=hh) (g':=g) (d':=d) (t':=t) (ch:=[]) un hok bare (λb z=>absurd z (by simp)),r,q⟩
end
def a86 (sp:Sp)(dvs:List V)(E:XK)(t:TA):TE:=λσ H Q=>t σ H λvs H1=>sp (vs++dvs) H1 Q E
def Binds (K:Frag)(fd:FuncData)(ps:List Str)(ds:List Value):Prop:=
 ∀(s:Shared) (us:List Value),K.In s.heap->(us++ds).length=ps.length->BindsTo s fd ⟨us,[]⟩ (ps.zip (us++ds))
theorem Binds.all {K:Frag}{fd:FuncData}{ps:List Str}(h: ∀us:List Value,us.length=ps.length->bindArgs fd ⟨us,[]⟩=pure (ps.zip us)):Binds K fd ps []:=λs us _ hl=>by
 rw[append_nil]at hl⊢;exact .of_eq (h us hl)
def uL (CX:CXT)(X:Cx)(E:XK):Prop:= ∀(pins:List (Addr×Obj)) (σ:St) (H:Hp) (s:Shared) (e:Value) (s':Shared),Inv X pins σ H s->CX X.stack H s E e s'->X.xe e s'
section
variable {X:Cx}{CX:CXT}{k:Nat}{f C:Addr}{fd:FuncData}{ps:List Str}{sp:Sp}{dvs:List V}{ds:List Value}{E:XK}{x m:Str}{p pos apos:Pos}{e o:Expr}{es:List Expr}{ta:TE}{t:TA}
theorem run_fn {pins:List (Addr×Obj)}{σ:St}{H:Hp}{s:Shared}{Q:VK}{us:List Value}{vs:List V}(F:jU X.prog X.w X.K X.mg X.base CX k f fd ps sp)(hr:cT k X.A)(hb:Binds X.K fd ps ds)(hd:bC dvs ds)(hx:uL CX X E)
  (I:Inv X pins σ H s) (r:bC vs us) (h:sp (vs++dvs) H Q E):wpAny (model X.prog X.w) X.A (call (.ref f) us) (EP X pins σ Q) X.xe s:=by
 have r2:bC (vs++dvs) (us++ds):=r.append hd;have hl:(us++ds).length=ps.length:=by rw[<-r2.length];exact F.len _ _ _ _ h
 refine wpAny_call (codeAny_mono (F.run X.A X.stack s H ⟨us,[]⟩ (us++ds) (vs++dvs) Q E hr I.env0 (hb s us I.kIn hl) r2 h) λr s' hq=> ?_)
 cases r with
 | error e=>exact hx pins σ H s e s' I hq
 | ok fl=>
  cases fl with
  | ret u=>exact I.after hq
  | next=>exact False.elim hq
  | brk=>exact False.elim hq
  | cont=>exact False.elim hq
theorem a40 (F:jU X.prog X.w X.K X.mg X.base CX k f fd ps sp)(hr:cT k X.A)(hg:Gl X x)(hm:X.mg x=some (.ref f))(hk:keepIn X.K (.ref f)=true)(hb:Binds X.K fd ps ds)(hd:bC dvs ds)(hx:uL CX X E)
  (ha:PA X (e::es) t) (hdb:(x==("__debug__":Str))=false:=by decide) (he:starEach (e::es) X.env=(false,eval e X.env)::starEach es X.env:=by rfl) (hpl:(backTo pos (starEach es X.env)).any (·.1)=false:=by rfl) :
  PE X (.Call (.Name x p) (e::es) [] pos) (a86 sp dvs E t):=by
 intro pins s σ H Q I h;refine wpAny_Call_Name_kw (a33 I hg hm ?_ hdb);refine PySem.W.callWith_K (h₀:=X.base) I.ok.mod.kin hk (thn (ha pos pins s σ H _ I h) λus s1 ⟨vs,H1,I1,r,q⟩=>⟨I1.kIn,?_⟩) he hpl
 exact run_fn F hr hb hd hx I1 r q
end
section
variable {X:Cx}{CX:CXT}{k:Nat}{f C:Addr}{fd:FuncData}{ps ks:List Str}{sp:Sp}{E:XK}{x m:Str}{p pos apos kpos:Pos}{e o:Expr}{es:List Expr}{kws:List Keyword}{te ta:TE}{t tk:TA}{nm:Option Str}
variable {g:List Value->List Value->List Value}{gV:List V->List V->List V}
end
structure bX (N P:List Str)(sc:Scope):Prop where
 kind:sc.kind= .function
 co:sc.isCoroutine=false
 gen:sc.isGenerator=false
 nd:N.Nodup
 pre:N.take P.length=P
 par: ∀x∈P,sc.names.lookup x=some .local\/sc.names.lookup x=some .cell
 nofree: ∀y∈sc.names,y.2≠ .free
theorem qK {kindOf:Str->Option NameKind}{x:Str}: ∀{binds:List (Str×Value)} {m:Str->Option Value},(∀v,(x,v) ∉ binds)->bindL kindOf binds m x=m x
 | [],_,_=>rfl
 | (n,v)::r,m,h=>by
  unfold bindL;rw[qK λw hw=>h w (mem_cons_of_mem _ hw)]
  split
  ·have:x≠n:=by rintro rfl;exact h v mem_cons_self
   simp[this]
  ·rfl
theorem qL {kindOf:Str->Option NameKind}{x:Str}: ∀{binds:List (Str×Value)} {m:Str->Option Value},(∀v,(x,v) ∉ binds)->bindC kindOf binds m x=m x
 | [],_,_=>rfl
 | (n,v)::r,m,h=>by
  unfold bindC;rw[qL λw hw=>h w (mem_cons_of_mem _ hw)]
  split
  ·rfl
  ·have:x≠n:=by rintro rfl;exact h v mem_cons_self
   simp[this]
theorem qM {kindOf:Str->Option NameKind}{x:Str}{v:Value}: ∀{P:List Str} {vs:List Value} {i:Nat} {m:Str->Option Value},P.Nodup->P[i]? =some x->vs[i]? =some v->kindOf x=some .local->
  bindL kindOf (P.zip vs) m x=some v
 | [],_,_,_,_,h,_,_=>by simp at h
 | _::_,[],_,_,_,_,h,_=>by simp at h
 | p::P,w::vs,0,m,nd,h1,h2,hk=>by
  simp at h1 h2;subst h1;subst h2
  show bindL kindOf ((p,w)::P.zip vs) m p=_
  unfold bindL;rw[qK λv hv=>(List.nodup_cons.mp nd).1 (of_mem_zip hv).1,if_pos hk]
  simp
 | p::P,w::vs,i+1,m,nd,h1,h2,hk=>by
  show bindL kindOf ((p,w)::P.zip vs) m x=_
  unfold bindL;exact qM (i:=i) (List.nodup_cons.mp nd).2 (by simpa using h1) (by simpa using h2) hk
theorem qN {kindOf:Str->Option NameKind}{x:Str}{v:Value}: ∀{P:List Str} {vs:List Value} {i:Nat} {m:Str->Option Value},P.Nodup->P[i]? =some x->vs[i]? =some v->kindOf x≠some .local->
  bindC kindOf (P.zip vs) m x=some v
 | [],_,_,_,_,h,_,_=>by simp at h
 | _::_,[],_,_,_,_,h,_=>by simp at h
 | p::P,w::vs,0,m,nd,h1,h2,hk=>by
  simp at h1 h2;subst h1;subst h2
  show bindC kindOf ((p,w)::P.zip vs) m p=_
  unfold bindC;rw[qL λv hv=>(List.nodup_cons.mp nd).1 (of_mem_zip hv).1,if_neg hk]
  simp
 | p::P,w::vs,i+1,m,nd,h1,h2,hk=>by
  show bindC kindOf ((p,w)::P.zip vs) m x=_
  unfold bindC;exact qN (i:=i) (List.nodup_cons.mp nd).2 (by simpa using h1) (by simpa using h2) hk
def start (N:List Str)(vs:List V):St:=vs.map some++replicate (N.length-vs.length) none
def fY (CX:CXT)(P:Program)(w:World)(K:Frag)(mg:Str->Option Value)(base:Heap)(N:List Str)(qual:Str)(scope:Scope)(f:Addr)(cd:Value)(A:Around)(outer:List Env)(s:Shared)(H:Hp)(E:XK):Cx where
 prog:=P
 w:=w
 K:=K
 mg:=mg
 base:=base
 A:=A.deeper (envOfC qual scope s.heap.objs.size f cd)
 N:=N
 s₀:=s
 H₀:=H
 env:=envOfC qual scope s.heap.objs.size f cd
 outer:=outer
 stack:=envOfC qual scope s.heap.objs.size f cd::outer
 ex:=[]
 calm:=true
 fn:=λ_=>true
 pn:=[]
 xe:=λe s'=>wpAny (model P w) (A.deeper (envOfC qual scope s.heap.objs.size f cd)) (leaving (envOfC qual scope s.heap.objs.size f cd) e) (λ_ s''=>CX outer H s E e s'') (λe' s''=>CX outer H s E e' s'') s'
theorem sV {sc:Scope}{n:Nat}{x:Str}(h:sc.names.lookup x=some .cell): ∃c,(cellsFrom n sc.names []).lookup x=some c:=by
 have q:=cellsFrom_some sc.names n [] (.inl h);exact Option.isSome_iff_exists.mp q
theorem wX {CX:CXT}{P:Program}{w:World}{K:Frag}{mg:Str->Option Value}{base:Heap}{N ps:List Str}{qual:Str}{scope:Scope}{f:Addr}{cd:Value}{A:Around}{outer:List Env}{s s1:Shared}{H:Hp}{E:XK}{us:List Value}{vs:List V}
  (S:bX N ps scope) (hd:A.handled=none) (e0:uK P w K mg base A outer s H) (hl:vs.length=ps.length) (r:bC vs us)
  (x:InCallC s s.heap.objs.size (bindL (envOfC qual scope s.heap.objs.size f cd).kindOf (ps.zip us) λ_=>none) (cellsFrom (s.heap.objs.size+1) scope.names []) (bindC (envOfC qual scope s.heap.objs.size f cd).kindOf (ps.zip us) λ_=>none) s1) :
  Inv (fY CX P w K mg base N qual scope f cd A outer s H E) [] (start N vs) H s1:=by
 have hpl:ps.length<=N.length:=by have:=congrArg length S.pre;rw[length_take]at this;lia
 obtain⟨h1,tk,rfl,hk⟩:=x.done;have noA: ∀b:Addr,b ∉ (fY CX P w K mg base N qual scope f cd A outer s H E).ex:=λb z=>absurd (show b∈([]:List Addr)from z) (by simp)
 refine⟨⟨e0.mod,S.kind,rfl,rfl,le_refl _,λy z c h1 h2=> ?_,λy hy=> ?_,λy c _ h=> ?_,λ_=>hd,Around.frames_deeper e0.frames,.inr ⟨rfl,rfl⟩,λb z=>absurd z (noA b),e0.bs,e0.bsz,λb _ _=>noA b,λb z=>absurd z (noA b),e0.funs,e0.frf⟩,
  rfl,e0.bare,Un.kept hk,⟨_,x.toInCall.ns,λi y v h1 h2 h3=> ?_⟩,λy c h=>⟨_,x.cell y c h⟩,e0.hok.fresh (le_refl _),λy c h=> ?_,λp hp=>absurd (show p∈([]:List (Addr×Obj))from hp) (by simp),e0.hok.kept hk,?_⟩
 ·exact name_of_addr x.apart (PySem.mem_of_lookup h1) (PySem.mem_of_lookup h2)
 ·have hy:scope.names.lookup y=some .cell\/scope.names.lookup y=some .free:=hy;rcases hy with hy|hy
  ·exact sV hy
  ·exact absurd rfl (S.nofree _ (PySem.mem_of_lookup hy))
 ·exact le_of_lt (x.above y c (PySem.mem_of_lookup h))
 ·have hi:i<vs.length:=by
   unfold start at h2
   by_cases hi:i<vs.length
   ·exact hi
   ·rw[getElem?_append_right (by simpa using hi)]at h2
    rw[getElem?_replicate]at h2;split at h2<;>cases h2
  have ha:vs[i]? =some v:=by
   unfold start at h2;rw[getElem?_append_left (by simpa using hi),getElem?_map]at h2
   cases e:vs[i]? with
   | none=>rw[e]at h2;cases h2
   | some a=>rw[e]at h2;cases h2;rfl
  obtain⟨u,hu,rv⟩:=r.get ha;have hp:ps[i]? =some y:=by
   rw[<-S.pre,List.getElem?_take_of_lt (by lia)];exact h1
  have ndP:ps.Nodup:=by rw[<-S.pre];exact S.nd.sublist (List.take_sublist _ _)
  refine⟨u,rv,?_⟩
  rcases S.par y (mem_of_getElem? hp)with k|k
  ·exact .inl ⟨k,qM ndP hp hu k⟩
  ·obtain⟨c,e⟩:=sV (n:=s.heap.objs.size+1) k;refine .inr ⟨.inl k,c,e,?_⟩;have q:=x.cell y c e;rw[qN ndP hp hu (by show scope.names.lookup y≠_;rw[k];decide)]at q
   exact q
 ·exact e0.hok.fresh (le_of_lt (x.above y c (PySem.mem_of_lookup h)))
 ·unfold start;show _=N.length;rw[length_append,length_map,length_replicate]
  lia
theorem fn_of {CX:CXT}{P:Program}{w:World}{K:Frag}{mg:Str->Option Value}{base:Heap}{k:Nat}{f:Addr}{name qual:Str}{params:Arguments}{body:List Stmt}{scope:Scope}{dV kV doc pm cdv ct oc:Value}{an od:Option Addr}
  {osl:Array (Option Value)} {N ps:List Str} {sp:Sp} (lk:K.lookup f=some ⟨oc,od,.func (fnOf name qual params body scope dV kV doc pm an cdv ct),osl⟩) (hcd:codeIn K cdv qual=true) (S:bX N ps scope)
  (len: ∀vs H Q E,sp vs H Q E->vs.length=ps.length)
  (hbody: ∀(A:Around) (outer:List Env) (s:Shared) (H:Hp) (vs:List V) (Q:VK) (E:XK),cT k (A.deeper (envOfC qual scope s.heap.objs.size f cdv))->sp vs H Q E->
   ∃t,PSs (fY CX P w K mg base N qual scope f cdv A outer s H E) body t/\t {nx:=λ_ H'=>Q .non H',rt:=Q} (start N vs) H) :
  jU P w K mg base CX (k+1) f (fnOf name qual params body scope dV kV doc pm an cdv ct) ps sp:=by
 refine⟨len,λA outer s H args us vs Q E hr e0 hb r hsp=> ?_⟩
 have hl:=len _ _ _ _ hsp;have KX:K.In s.heap:=e0.mod.kin.keeps λb o e=>(e0.bs b o e).1
 have lim:s.heap.NoLimit:=e0.mod.nolimit.keeps λb o e=>(e0.bs b o e).1
 have hkind: ∀y∈ps.zip us,scope.names.lookup y.1=some .local\/(scope.names.lookup y.1=some .cell/\((cellsFrom (s.heap.objs.size+1) scope.names []).lookup y.1).isSome=true):=λ⟨n,v⟩ hy=>by
  rcases S.par n (of_mem_zip hy).1 with q|q
  ·exact .inl q
  ·exact .inr ⟨q,cellsFrom_some _ _ _ (.inl q)⟩
 refine codeAny_call_function hr.depth (KX _ _ lk) rfl S.co S.gen rfl (PySem.W.codeRec_of KX hcd) (hb _ _ _ _ ?_)
 refine wpAny_newFunctionEnv_cells S.kind hkind λenv he s1 x=> ?_
 subst he;refine⟨lim.keeps x.toInCall.keep,codeAny_func ?_⟩;obtain⟨t,ht,hq⟩:=hbody A outer s H vs Q E (hr.deeper _) hsp;have I:Inv (fY CX P w K mg base N qual scope f cdv A outer s H E) [] (start N vs) H s1:=wX S hr.hd e0 hl r x;refine wpAny_mono (ht [] s1 (start N vs) H _ I hq) (λfl s' hs=> ?_) λe s' hs=>hs
 have fin: ∀{σ':St} {H':Hp} {v:V} {u:Value},Inv (fY CX P w K mg base N qual scope f cdv A outer s H E) [] σ' H' s'->RelV v u->Q v H'->CE outer P w H s Q u s':=
  λ{σ' H' v u} J rv q=>⟨v,H',J.os,J.bare,J.base,J.hok,rv,q⟩
 cases fl with
 | ret u=>
  obtain⟨v,σ',H',J,rv,q⟩:=hs;exact fin J rv q
 | next=>
  obtain⟨σ',H',J,q⟩:=hs;exact fin (v:=V.non) (u:=Value.none) J rfl q
 | brk=>
  obtain⟨_,_,_,q⟩:=hs;exact False.elim q
 | cont=>
  obtain⟨_,_,_,q⟩:=hs;exact False.elim q
end L2
namespace L2
open PySem PySem.Spec PyProof.Rows
section
variable {X:Cx}{x:Str}{p pos:Pos}{e:Expr}{es:List Expr}{t:TA}{id T:String}{r:List V->Hp->VK->Prop}
def tCB (r:List V->Hp->VK->Prop)(t:TA):TE:=λσ H Q=>t σ H λvs H1=>r vs H1 Q
theorem sW (hc:fV X (.builtin id) r)(hg:Gl X x)(hm:X.mg x=none)(hv:bootBuiltins x=some (.builtin id))(ha:PA X (e::es) t)(hn:x≠"__name__":=by decide)(hdb:(x==("__debug__":Str))=false:=by decide)
  (he:starEach (e::es) X.env=(false,eval e X.env)::starEach es X.env:=by rfl) (hpl:(backTo pos (starEach es X.env)).any (·.1)=false:=by rfl):PE X (.Call (.Name x p) (e::es) [] pos) (tCB r t):=by
 intro pins s σ H Q I h;refine wpAny_Call_Name_kw (j7 I hg hm hv ?_ hn hdb);exact PyProof.Rows.callWith_builtin1 (thn (ha pos pins s σ H _ I h) λus s1 ⟨vs,H1,I1,r1,q1⟩=>hc pins s1 σ H1 vs us Q I1 r1 q1) he hpl
theorem wY (hc:fV X (.type T) r)(hg:Gl X x)(hm:X.mg x=none)(hv:bootBuiltins x=some (.type T))(ha:PA X (e::es) t)(hn:x≠"__name__":=by decide)(hdb:(x==("__debug__":Str))=false:=by decide)
  (he:starEach (e::es) X.env=(false,eval e X.env)::starEach es X.env:=by rfl) (hpl:(backTo pos (starEach es X.env)).any (·.1)=false:=by rfl):PE X (.Call (.Name x p) (e::es) [] pos) (tCB r t):=by
 intro pins s σ H Q I h;refine wpAny_Call_Name_kw (j7 I hg hm hv ?_ hn hdb);exact PyProof.Rows.callWith_type1 (thn (ha pos pins s σ H _ I h) λus s1 ⟨vs,H1,I1,r1,q1⟩=>hc pins s1 σ H1 vs us Q I1 r1 q1) he hpl
end
end L2
namespace HT
open PySem PyProof.Rows
section
open PySem.SeqAt
open PySem.AutoSeq1 (wpAny_loadPart')
open PySem.MeetsSeq PySem.MeetsSeq2 PySem.MeetsSeq3
end
section
variable {prog:Program}{w:World}{A:Around}{E:Value->Shared->Prop}{s:Shared}
theorem cat_tup {t b:Addr}{vs ws:List Value}{Q:Value->Shared->Prop}(ht:IsTup s.heap t vs.toArray)(hb:IsTup s.heap b ws.toArray)(hv:vs≠[])
  (h1:ws=[]->Q (.ref t) s) (h2:ws≠[]->Q (.ref s.heap.objs.size) {s with heap:=s.heap.push {cls:= .type "tuple",data:= .seq (vs++ws).toArray}})
  (hsz:vs.length+ws.length<=sizeLine):wpAny (model prog w) A (binaryOp .Add (.ref t) (.ref b)) Q E s:=by
 obtain⟨⟨cls,dd,data,sl⟩,ho,hc,n,hd⟩:=id ht;obtain⟨⟨cls2,dd2,data2,sl2⟩,ho2,hc2,n2,hd2⟩:=id hb;simp only at hc hd hc2 hd2;subst hc hd hc2 hd2;have e:vs.toArray++ws.toArray=(vs++ws).toArray:=by simp
 by_cases hw:ws=[]
 ·exact concat_meets ⟨_,ho,rfl⟩ ⟨_,ho2,rfl⟩ noFill_tuple_add seq_tuple_add PySem.F.slot_tuple_add PySem.F.entry_tuple_add (PySem.F.args_tuple_add_2 _ _)
   (tuple_addW1 t b vs.toArray ws.toArray n n2 dd dd2 sl sl2 (by simpa using hv) (by simp[hw])) ⟨ho,ho2,h1 hw⟩
 ·refine concat_meets ⟨_,ho,rfl⟩ ⟨_,ho2,rfl⟩ noFill_tuple_add seq_tuple_add PySem.F.slot_tuple_add PySem.F.entry_tuple_add (PySem.F.args_tuple_add_2 _ _)
   (tuple_addW2 t b vs.toArray ws.toArray n n2 dd dd2 sl sl2 (by simpa using hv) (by simpa using hw) (by rw[size_toArray,size_toArray];exact hsz)) ⟨ho,ho2,?_⟩
  rw[e];exact h2 hw
def sIx (n d:Nat):Option Int->Nat
 | none=>d
 | some v=>if v<0 then(v+(n:Int)).toNat else min v.toNat n
theorem sIx_none (n d:Nat):sIx n d none=d:=rfl
theorem sIx_nat (n d k:Nat):sIx n d (some (k:Int))=min k n:=by
 show(if(k:Int)<0 then((k:Int)+(n:Int)).toNat else min (k:Int).toNat n)=min k n
 rw[if_neg (by lia),toNat_natCast]
theorem sIx_le (n d:Nat)(hd:d<=n)(o:Option Int):sIx n d o<=n:=by
 cases o with
 | none=>exact hd
 | some v=>
  show(if v<0 then(v+(n:Int)).toNat else min v.toNat n)<=n
  by_cases hv:v<0
  ·rw[if_pos hv];lia
  ·rw[if_neg hv];exact Nat.min_le_right _ _
theorem vU (v:Int)(n d:Nat):(if v<0 then max (v+(n:Int)) 0 else min v (n:Int))=((sIx n d (some v):Nat):Int):=by
 show(if v<0 then max (v+(n:Int)) 0 else min v (n:Int))=(((if v<0 then(v+(n:Int)).toNat else min v.toNat n):Nat):Int)
 by_cases hv:v<0
 ·simp only[if_pos hv];lia
 ·simp only[if_neg hv];lia
theorem uM (lo hi:Option Int)(n:Nat):Builtin.Slice.sliceAdjust lo hi 1 (n:Int)=(((sIx n 0 lo:Nat):Int),((sIx n n hi:Nat):Int)):=by
 have h1: ¬((1:Int)<0):=by lia
 unfold Builtin.Slice.sliceAdjust;simp only[h1,if_false];refine Prod.ext ?_ ?_
 ·cases lo with
  | none=>rfl
  | some v=>exact vU v n 0
 ·cases hi with
  | none=>rfl
  | some v=>exact vU v n n
theorem uN (i j:Nat):Builtin.Slice.slicePlaces (i:Int) (j:Int) 1=j-i:=by
 unfold Builtin.Slice.slicePlaces;have h1:(1:Int)>0:=by lia
 simp only[h1,if_true,Int.ediv_one];split<;>lia
theorem oG {v:Value}{o:Option Int}{Q:Option Int->Shared->Prop}(p:IsPart v o)(h:Q o s):wpAny (model prog w) A (Builtin.Slice.slicePartIndex v) Q E s:=by
 cases p with
 | none=>exact slicePart_none h
 | int i t=>exact slicePart_int h
theorem iH {sl:Addr}{vl vu:Value}{lo hi:Option Int}{n:Nat}{Q:Int×Int×Nat->Shared->Prop}(hs:s.heap.IsSliceOf sl vl vu .none)(pl:IsPart vl lo)(pu:IsPart vu hi)
  (h:Q (((sIx n 0 lo:Nat):Int),1,sIx n n hi-sIx n 0 lo) s):wpAny (model prog w) A (Builtin.Slice.sliceApplied (.ref sl) (pure (n:Int))) Q E s:=by
 obtain⟨os,hos,hcs,hds⟩:=id hs;unfold Builtin.Slice.sliceApplied Builtin.Slice.sliceFields;refine wpAny_bind (wpAny_bind (wpAny_field hos hds (x:=vl) rfl (wpAny_bind (wpAny_field hos hds (x:=vu) rfl (wpAny_bind (wpAny_field hos hds (x:= .none) rfl (wpAny_pure ?_)))))));refine wpAny_bind (slicePart_none ?_);show wpAny _ _ (if((1:Int)==0)=true then _ else _) _ _ s;rw[if_neg (by decide)]
 refine wpAny_bind (oG pl (wpAny_bind (oG pu (wpAny_bind (wpAny_pure ?_)))))
 show wpAny _ _ (match Builtin.Slice.sliceAdjust lo hi 1 (n:Int)with| (lo,hi)=>pure (lo,(1:Int),Builtin.Slice.slicePlaces lo hi 1)) _ _ s
 rw[uM lo hi n];show wpAny _ _ (pure (((sIx n 0 lo:Nat):Int),(1:Int),Builtin.Slice.slicePlaces ((sIx n 0 lo:Nat):Int) ((sIx n n hi:Nat):Int) 1)) _ _ s;rw[uN];exact wpAny_pure h
theorem yF (xs:Array Value)(i k:Nat):((List.range k).filterMap fun(m:Nat)=>xs[((i:Int)+(m:Int)*1).toNat]?).toArray=((xs.toList.drop i).take k).toArray:=by
 have e:(fun(m:Nat)=>xs[((i:Int)+(m:Int)*1).toNat]?)=λm=>xs[i+m]? :=by
  funext m
  have:((i:Int)+(m:Int)*1).toNat=i+m:=by lia
  rw[this]
 rw[e];have:=pick_run xs i k;rw[List.filterMap_map]at this;have e2:((λx=>xs[x]?)∘λx=>i+x)=λm=>xs[i+m]? :=rfl
 rw[e2]at this;rw[this]
theorem getItem_tuple_cut {t sl:Addr}{items:Array Value}{vl vu:Value}{lo hi:Option Int}{Q:Value->Shared->Prop}(ht:IsTup s.heap t items)(hs:s.heap.IsSliceOf sl vl vu .none)(pl:IsPart vl lo)(pu:IsPart vu hi)
  (hw: ¬(sIx items.size 0 lo=0/\sIx items.size items.size hi=items.size))
  (h:Q (.ref s.heap.objs.size) {s with heap:=s.heap.push {cls:= .type "tuple",data:= .seq ((items.toList.drop (sIx items.size 0 lo)).take (sIx items.size items.size hi-sIx items.size 0 lo)).toArray}})
  (hsz:items.size<=sizeLine):wpAny (model prog w) A (getItem (.ref t) (.ref sl)) Q E s:=by
 have htake:sizeOk (.seq ((items.toList.drop (sIx items.size 0 lo)).take (sIx items.size items.size hi-sIx items.size 0 lo)).toArray):=by
  show((items.toList.drop (sIx items.size 0 lo)).take (sIx items.size items.size hi-sIx items.size 0 lo)).toArray.size<=sizeLine
  rw[size_toArray,length_take,length_drop,length_toList];omega
 have hj:sIx items.size items.size hi<=items.size:=sIx_le _ _ (le_refl _) hi;obtain⟨os,hos,hcs,hds⟩:=id hs;have hTs:s.TypeIs (.ref sl) "slice":=⟨os,hos,hcs⟩;unfold getItem;try with_reducible refine wpAny_holding ?_
 first|refine wpAny_bind (wpAny_pure ?_)|skip
 refine wpAny_bind (wpAny_sequenceKey ht.typeIs (by decide) ?_)
 refine wpAny_bind (wpAny_callSpecial?_slot (name:=Str.ofString "__getitem__") ht.typeIs PyProof.Rows.slot_tuple_getitem
  (wpAny_call_entry PyProof.Rows.slot_tuple_getitem ht.typeIs entry_tuple_getitem ?_ (args_tuple_getitem _ _)))
 show wpAny _ _ (Builtin.Tuple.tupleItemsOf (.ref t) >>= _) _ _ s
 refine wpAny_bind (tupleItemsOf_ ht ?_)
 refine wpAny_bind (wpAny_typeOf hTs ?_)
 rw[if_pos (by decide)]
 refine wpAny_bind (iH hs pl pu ?_)
 have hno: ¬((((sIx items.size 0 lo:Nat):Int)==0&&(1:Int)==1&&(sIx items.size items.size hi-sIx items.size 0 lo)==items.size)=true):=by
  intro q;rw[and_eq_true,and_eq_true]at q;have q1:((sIx items.size 0 lo:Nat):Int)=0:=eq_of_beq q.1.1;have q2:sIx items.size items.size hi-sIx items.size 0 lo=items.size:=eq_of_beq q.2;exact hw ⟨by omega,by omega⟩
 show wpAny _ _ (if(((sIx items.size 0 lo:Nat):Int)==0&&(1:Int)==1&&(sIx items.size items.size hi-sIx items.size 0 lo)==items.size)=true then _ else _) _ _ s
 rw[if_neg hno,yF]
 first
  | exact wpAny_bind (m:=Builtin.Tuple.tupleExact _) (wpAny_newObj_type (wpAny_pure ⟨_,rfl,wpAny_pure h⟩) htake)
  | exact wpAny_bind (m:=Builtin.Tuple.tupleExact _) (wpAny_newObj_type (wpAny_bind (wpAny_pure (wpAny_pure ⟨_,rfl,wpAny_pure h⟩))) htake)
  | exact wpAny_bind (wpAny_bind (m:=Builtin.Tuple.tupleExact _) (wpAny_newObj_type (wpAny_pure (wpAny_pure ⟨_,rfl,wpAny_pure h⟩)) htake))
  | exact wpAny_bind (wpAny_bind (m:=Builtin.Tuple.tupleExact _) (wpAny_newObj_type (wpAny_pure ⟨_,rfl,wpAny_pure h⟩) htake))
end
end HT
namespace L2
open PySem PySem.Spec PyProof.Rows
abbrev TO:=St->Hp->(Option Int->Hp->Prop)->Prop
def PO (X:Cx)(e:Option Expr)(t:TO):Prop:=
 ∀(pins:List (Addr×Obj)) (s:Shared) (σ:St) (H:Hp) (Q:Option Int->Hp->Prop),Inv X pins σ H s->t σ H Q->
  wpAny (model X.prog X.w) X.A (evalPart e X.env) (λu s'=> ∃o H',Inv X pins σ H' s'/\IsPart u o/\Q o H') X.xe s
def a41:TO:=λ_ H Q=>Q none H
def tPart (t:TE):TO:=λσ H Q=>t σ H λx H1=> ∃i,x= .int i/\Q (some i) H1
section
variable {X:Cx}{e:Expr}{te:TE}{lo hi:Option Expr}{tl th:TO}{pos p2:Pos}
theorem a42:PO X none a41:=by
 intro pins s σ H Q I h;rw[evalPart_none];exact wpAny_pure ⟨none,H,I,.none,h⟩
theorem a43 (h:PE X e te):PO X (some e) (tPart te):=by
 intro pins s σ H Q I hw;rw[evalPart_some];refine thn (h pins s σ H _ I hw) λu s1 ⟨x,H1,I1,r1,q1⟩=> ?_
 obtain⟨i,rfl,q⟩:=q1;obtain⟨t,rfl⟩:=r1;exact⟨some i,H1,I1,.int i t,q⟩
def SlR (X:Cx)(r:V->Option Int->Option Int->Hp->VK->Prop):Prop:=
 ∀(pins:List (Addr×Obj)) (s:Shared) (σ:St) (H:Hp) (x:V) (v vl vu:Value) (lo hi:Option Int) (sl:Addr) (Q:VK),Inv X pins σ H s->RelV x v->s.heap.IsSliceOf sl vl vu .none->IsPart vl lo->IsPart vu hi->r x lo hi H Q->
  ∃T id,typeLookup (.type T) "__getitem__"=pure (some (.builtin id))/\s.TypeIs v T/\wpAny (model X.prog X.w) X.A (getItem v (.ref sl)) (EP X pins σ Q) X.xe s
theorem SlR.or {r r':V->Option Int->Option Int->Hp->VK->Prop}(h:SlR X r)(h':SlR X r'):SlR X (λx lo hi H Q=>r x lo hi H Q\/r' x lo hi H Q):=by
 intro pins s σ H x v vl vu lo hi sl Q I rx hs pl pu q;rcases q with q|q
 ·exact h pins s σ H x v vl vu lo hi sl Q I rx hs pl pu q
 ·exact h' pins s σ H x v vl vu lo hi sl Q I rx hs pl pu q
def tSl (r:V->Option Int->Option Int->Hp->VK->Prop)(te:TE)(tl th:TO):TE:=λσ H Q=>te σ H λx H1=>tl σ H1 λl H2=>th σ H2 λu H3=>r x l u H3 Q
theorem sX {r:V->Option Int->Option Int->Hp->VK->Prop}(hr:SlR X r)(he:PE X e te)(hl:PO X lo tl)(hu:PO X hi th):PE X (.Subscript e (.Slice lo hi none p2) pos) (tSl r te tl th):=by
 intro pins s σ H Q I h;refine Subscript_ (thn (he pins s σ H _ I h) λv s1 ⟨x,H1,I1,r1,q1⟩=> ?_)
 refine wpAny_Slice (thn (hl pins s1 σ H1 _ I1 q1) λvl s2 ⟨l,H2,I2,pl,q2⟩=>thn (hu pins s2 σ H2 _ I2 q2) λvu s3 ⟨u,H3,I3,pu,q3⟩=> ?_)
 rw[evalPart_none];refine wpAny_pure ?_;have I4:Inv X pins σ H3 {s3 with heap:=s3.heap.push {cls:= .type "slice",data:= .fields #[vl,vu,.none]}}:=I3.kept (t':=s3.toks) λb ob q=>get?_push_of_some _ q
 obtain⟨T,id,hT,ht,hg⟩:=hr pins {s3 with heap:=s3.heap.push {cls:= .type "slice",data:= .fields #[vl,vu,.none]}} σ H3 x v vl vu l u s3.heap.objs.size Q I4 r1 (Heap.IsSliceOf.new ..) pl pu q3;show wpAny (model X.prog X.w) X.A (subscriptTail e (.Slice lo hi none p2) v (.ref s3.heap.objs.size)) (EP X pins σ Q) X.xe {s3 with heap:=s3.heap.push {cls:= .type "slice",data:= .fields #[vl,vu,.none]}}
 exact tail_any (ops:=[.ref s3.heap.objs.size,v]) ht hT hg (by with_unfolding_all rfl)
def sY (xs:List V)(lo hi:Option Int):List V:=(xs.drop (HT.sIx xs.length 0 lo)).take (HT.sIx xs.length xs.length hi-HT.sIx xs.length 0 lo)
theorem nL (xs:List V)(lo hi:Option Int):(sY xs lo hi).length<=xs.length:=by
 unfold sY;rw[length_take,length_drop]
 lia
def rSlT (K:Frag):V->Option Int->Option Int->Hp->VK->Prop:=λx lo hi H Q=> ∃a xs,x= .ref a/\SqT K H a xs/\
 ¬(HT.sIx xs.length 0 lo=0/\HT.sIx xs.length xs.length hi=xs.length)/\ ∀p,H p=none->Q (.ref p) (upd H p (.tup (sY xs lo hi)))
theorem yG:SlR X (rSlT X.K):=by
 intro pins s σ H x v vl vu lo hi sl Q I rx hs pl pu h;obtain⟨a,xs,rfl,hx,hw,q⟩:=h;cases rx;obtain⟨its,r,ht,hz⟩:=I.tuple hx;have hlen:its.toArray.size=xs.length:=by rw[size_toArray];exact r.length.symm
 refine⟨"tuple",_,PyProof.Rows.slot_tuple_getitem.lookup,ht.typeIs,?_⟩
 refine HT.getItem_tuple_cut ht hs pl pu (by rw[hlen];exact hw) ?_ (by rw[hlen];exact hz)
 rw[hlen];refine⟨.ref s.heap.objs.size,_,I.laid (t':=s.toks) (o:= .tup (sY xs lo hi)) (λb ob q=>get?_push_of_some _ q) (le_refl _) ?_,rfl,q _ (I.hok.fresh (le_refl _))⟩
 exact⟨le_trans (nL xs lo hi) hz,_,(r.drop (HT.sIx xs.length 0 lo)).take (HT.sIx xs.length xs.length hi-HT.sIx xs.length 0 lo),IsTup.new _ _⟩
def rCatT (K:Frag):R2:=λx y H Q=> ∃a b xs ys,x= .ref a/\y= .ref b/\SqT K H a xs/\SqT K H b ys/\xs≠[]/\xs.length+ys.length<=sizeLine/\
 (ys=[]->Q (.ref a) H)/\(ys≠[]-> ∀p,H p=none->Q (.ref p) (upd H p (.tup (xs++ys))))
theorem bC.nil_iff {xs:List V}{us:List Value}(r:bC xs us):us=[]↔xs=[]:=by
 cases r with
 | nil=>simp
 | cons _ _=>simp
theorem a44:OpR X (binaryOp .Add) (rCatT X.K):=by
 intro pins s σ H x y v u Q I rx ry h;obtain⟨a,b,xs,ys,rfl,rfl,ha,hb,hx,hz,q1,q2⟩:=h;cases rx;cases ry;obtain⟨its,r1,p1,_⟩:=I.tuple ha;obtain⟨its2,r2,p2,_⟩:=I.tuple hb;refine HT.cat_tup p1 p2 (λz=>hx (r1.nil_iff.mp z)) (λz=>⟨.ref a,H,I,rfl,q1 (r2.nil_iff.mp z)⟩) (λz=> ?_) (by rw[<-r1.length,<-r2.length];exact hz)
 refine⟨.ref s.heap.objs.size,_,I.laid (t':=s.toks) (o:= .tup (xs++ys)) (λb ob q=>get?_push_of_some _ q) (le_refl _) ?_,rfl,q2 (λw=>z (r2.nil_iff.mpr w)) _ (I.hok.fresh (le_refl _))⟩
 exact⟨by rw[length_append];exact hz,_,r1.append r2,IsTup.new _ _⟩
end
end L2
namespace L2
open PySem PySem.Spec PyProof.Rows
def ixN (n:Nat)(i:Int):Option Nat:=if 0<=i then(if i<n then some i.toNat else none)else if -(n:Int)<=i then some (i+n).toNat else none
def atI {α:Type}(xs:List α)(i:Int):Option α:=(ixN xs.length i).bind λj=>xs[j]?
theorem vV {n:Nat}{i:Int}{j:Nat}(h:ixN n i=some j):seqIndex? i n=some j/\j<n/\ -(n:Int)<=i/\i<n:=by
 unfold ixN at h
 by_cases h0:0<=i
 ·rw[if_pos h0]at h
  by_cases h1:i<n
  ·rw[if_pos h1]at h;have e:i.toNat=j:=Option.some.inj h;exact⟨by rw[seqIndex_of h0 h1,e],by lia,by lia,h1⟩
  ·rw[if_neg h1]at h;cases h
 ·rw[if_neg h0]at h
  by_cases h1: -(n:Int)<=i
  ·rw[if_pos h1]at h;have e:(i+n).toNat=j:=Option.some.inj h;exact⟨by rw[seqIndex_neg (by lia) h1,e],by lia,h1,by lia⟩
  ·rw[if_neg h1]at h;cases h
theorem rR {α:Type}{xs:List α}{i:Int}{v:α}(h:atI xs i=some v): ∃j,seqIndex? i xs.length=some j/\xs[j]? =some v/\j<xs.length/\ -(xs.length:Int)<=i/\i<xs.length:=by
 unfold atI at h;cases e:ixN xs.length i with
 | none=>rw[e]at h;cases h
 | some j=>
  rw[e]at h;obtain⟨h1,h2,h3,h4⟩:=vV e;exact⟨j,h1,h,h2,h3,h4⟩
theorem d3 {α:Type}{xs:List α}{j:Nat}{v:α}(h:xs[j]? =some v):atI xs (j:Int)=some v:=by
 have hj:j<xs.length:=(List.getElem?_eq_some_iff.mp h).1;have e:ixN xs.length (j:Int)=some j:=by
  unfold ixN;rw[if_pos (by lia),if_pos (by lia)];simp
 unfold atI;rw[e];exact h
def rS (b:Expr):Prop:= ∀o i,subscripted b false o i=operate [o,i] (getItem o i)
def IxR (X:Cx)(r:R2):Prop:=
 ∀(value slice:Expr) (pins:List (Addr×Obj)) (s:Shared) (σ:St) (H:Hp) (x y:V) (v u:Value) (Q:VK),Inv X pins σ H s->RelV x v->RelV y u->r x y H Q->
  subscripted slice false v u=operate [v,u] (getItem v u)->wpAny (model X.prog X.w) X.A (subscriptTail value slice v u) (EP X pins σ Q) X.xe s
def MtR (X:Cx)(id:String)(r:V->List V->Hp->VK->Prop):Prop:=
 ∀(pins:List (Addr×Obj)) (s:Shared) (σ:St) (H:Hp) (x:V) (xs:List V) (v:Value) (us:List Value) (Q:VK),Inv X pins σ H s->RelV x v->bC xs us->r x xs H Q->
  wpAny (model X.prog X.w) X.A (call (.builtin id) (v::us)) (EP X pins σ Q) X.xe s
section
variable {X:Cx}{a b:Expr}{ta tb:TE}{pos:Pos}
theorem IxR.or {r r':R2}(h:IxR X r)(h':IxR X r'):IxR X (λx y H Q=>r x y H Q\/r' x y H Q):=by
 intro value slice pins s σ H x y v u Q I rx ry q hs;rcases q with q|q
 ·exact h value slice pins s σ H x y v u Q I rx ry q hs
 ·exact h' value slice pins s σ H x y v u Q I rx ry q hs
theorem MtR.or {id:String}{r r':V->List V->Hp->VK->Prop}(h:MtR X id r)(h':MtR X id r'):MtR X id (λx xs H Q=>r x xs H Q\/r' x xs H Q):=by
 intro pins s σ H x xs v us Q I rx rs q;rcases q with q|q
 ·exact h pins s σ H x xs v us Q I rx rs q
 ·exact h' pins s σ H x xs v us Q I rx rs q
theorem a87 {r:R2}(hr:IxR X r)(ha:PE X a ta)(hb:PE X b tb)(hs:rS b):PE X (.Subscript a b pos) (tOp r ta tb):=by
 intro pins s σ H Q I h;exact Subscript_ (binT ha hb I h λv u s2 x y H2 I2 rx ry q=>hr a b pins s2 σ H2 x y v u Q I2 rx ry q (hs _ _))
def rIxL (K:Frag):R2:=λx y H Q=> ∃p xs i v,x= .ref p/\y= .int i/\SqL K H p xs/\atI xs i=some v/\Q v H
def rIxT (K:Frag):R2:=λx y H Q=> ∃p xs i v,x= .ref p/\y= .int i/\SqT K H p xs/\atI xs i=some v/\Q v H
def rIxS:R2:=λx y H Q=> ∃z i c,x= .str z/\y= .int i/\z.length<=sizeLine/\atI z.cps.toList i=some c/\Q (.str ⟨#[c]⟩) H
theorem vW:IxR X (rIxL X.K):=by
 intro value slice pins s σ H x y v u Q I rx ry h hs;obtain⟨p,xs,i,z,rfl,rfl,hq,he,q⟩:=h;cases rx;obtain⟨t,rfl⟩:=ry;obtain⟨its,r,pl,hz⟩:=I.list hq;obtain⟨j,h1,h2,h3,h4,h5⟩:=rR he;obtain⟨w,ew,rw'⟩:=r.get h2;have hl:=r.length;have hn:=oF;have fin:EP X pins σ Q w s:=⟨z,H,I,rw',q⟩
 by_cases h0:0<=i
 ·have hj:i.toNat=j:=by
   rw[seqIndex_of h0 h5]at h1;exact Option.some.inj h1
  exact item_listR pl.isList h0 (by lia) (by rw[hj];simpa using ew) fin hs
 ·have hj:(i+(its.toArray.size:Int)).toNat=j:=by
   rw[seqIndex_neg (by lia) h4]at h1
   rw[size_toArray,<-hl];exact Option.some.inj h1
  exact subscriptTail_builtinR (x:=w) pl.isList.typeIs slot_list_getitem.lookup
   (wpAny_getItem_list_neg (Q:=λr s'=>r=w/\EP X pins σ Q r s') pl.isList (by lia) (by rw[size_toArray]<;>lia) (by lia) (by rw[hj];simpa using ew) ⟨rfl,fin⟩) hs
theorem ix_tup:IxR X (rIxT X.K):=by
 intro value slice pins s σ H x y v u Q I rx ry h hs;obtain⟨p,xs,i,z,rfl,rfl,hq,he,q⟩:=h;cases rx;obtain⟨t,rfl⟩:=ry;obtain⟨its,r,pl,hz⟩:=I.tuple hq;obtain⟨j,h1,h2,h3,h4,h5⟩:=rR he;obtain⟨w,ew,rw'⟩:=r.get h2;have hl:=r.length;have hn:=oF;have fin:EP X pins σ Q w s:=⟨z,H,I,rw',q⟩;exact subscriptTail_builtinR (x:=w) pl.typeIs slot_tuple_getitem.lookup
  (getItem_tuple (j:=j) (Q:=λr s'=>r=w/\EP X pins σ Q r s') pl (by lia) (by lia) (by rw[size_toArray,<-hl];exact h1) (by simpa using ew) ⟨rfl,fin⟩) hs
theorem ix_str:IxR X rIxS:=by
 intro value slice pins s σ H x y v u Q I rx ry h hs;obtain⟨z,i,c,rfl,rfl,hz,he,q⟩:=h;obtain⟨t,rfl⟩:=rx;obtain⟨t',rfl⟩:=ry;obtain⟨j,h1,h2,h3,h4,h5⟩:=rR he;have hl:z.cps.toList.length=z.length:=by simp[Str.length]
 rw[hl]at h1 h4 h5;have hn:=oF;exact tail_any (typeIs_str s z t) slot_str_getitem.lookup (getItem_str (c:=c) (by
  have e1:decide (i< -(2^63:Int))=false:=decide_eq_false (by lia)
  have e2:decide (i≥2^63)=false:=decide_eq_false (by lia)
  rw[e1,e2,Bool.or_false]) (by rw[h1];simpa using h2) ⟨.str ⟨#[c]⟩,H,I.tok _,⟨_,rfl⟩,q⟩) hs
def rIx (K:Frag):R2:=λx y H Q=>rIxL K x y H Q\/rIxT K x y H Q\/rIxS x y H Q
theorem ix_seq:IxR X (rIx X.K):=vW.or (ix_tup.or ix_str)
theorem uO (its:List Value)(n j:Nat)(u:Value):Obj.mapSeq (·.setIfInBounds j u) {cls:= .type "list",data:= .seq its.toArray n}={cls:= .type "list",data:= .seq (its.set j u).toArray n}:=by
 simp[Obj.mapSeq]
theorem Inv.lst {pins:List (Addr×Obj)}{σ:St}{H:Hp}{s:Shared}{p:Addr}{xs:List V}(I:Inv X pins σ H s)(h:H p=some (.lst xs)) :
  ∃(its:List Value) (n:Nat),bC xs its/\s.heap.get? p=some {cls:= .type "list",data:= .seq its.toArray n}/\xs.length<=sizeLine:=by
 obtain⟨z,its,n,r,e⟩:=I.hok p _ h;exact⟨its,n,r,e,z⟩
theorem Inv.lstUpd {pins:List (Addr×Obj)}{σ:St}{H:Hp}{s:Shared}{p:Addr}{xs ys:List V}{its its':List Value}{n n':Nat}{f:Obj->Obj}(I:Inv X pins σ H s)(h:H p=some (.lst xs))
  (ho:s.heap.get? p=some {cls:= .type "list",data:= .seq its.toArray n}) (hf:f {cls:= .type "list",data:= .seq its.toArray n}={cls:= .type "list",data:= .seq its'.toArray n'}) (r:bC ys its') (hz:ys.length<=sizeLine) (t:Nat) :
  Inv X pins σ (upd H p (.lst ys)) {s with heap:=s.heap.update p f,toks:=t}:=by
 have e:(s.heap.update p f).get? p=some {cls:= .type "list",data:= .seq its'.toArray n'}:=by
  rw[Heap.get?_update_self f ho (by rw[hf]<;>rfl),hf]
 refine I.write (x:=p) (e:=p) (by rw[h];trivial) (.inl rfl) (λb u hb q=>(Heap.get?_update_other _ _ (Ne.symm hb)).trans q) ⟨_,e⟩ ?_
 exact⟨hz,its',n',r,e⟩
def rSetL:V->V->V->Hp->(Hp->Prop)->Prop:=λo i v H Q=> ∃p xs k j,o= .ref p/\i= .int k/\H p=some (.lst xs)/\ixN xs.length k=some j/\Q (upd H p (.lst (xs.set j v)))
theorem oH:PSet X rSetL:=by
 intro pins s σ H o i v ov iv u Q I ro ri rv h;obtain⟨p,xs,k,j,rfl,rfl,hp,hj,q⟩:=h;cases ro;obtain⟨t,rfl⟩:=ri;obtain⟨its,n,r,ho,hz⟩:=I.lst hp;obtain⟨h1,h2,h3,h4⟩:=vV hj;have hl:=r.length;have hn:=oF;have I':Inv X pins σ (upd H p (.lst (xs.set j v))) {s with heap:=s.heap.update p (Obj.mapSeq (·.setIfInBounds j u))}:=
  I.lstUpd hp ho (uO its n j u) (r.set rv j) (by rw[length_set];exact hz) s.toks
 by_cases h0:0<=k
 ·have hk:k.toNat=j:=by
   rw[seqIndex_of h0 h4]at h1;exact Option.some.inj h1
  exact PySem.W.ki_setAt ho h0 (by lia) (by rw[size_toArray,<-hl];exact h4) (by rw[hk];exact⟨_,I',q⟩)
 ·have hk:(k+(its.toArray.size:Int)).toNat=j:=by
   rw[seqIndex_neg (by lia) h3]at h1
   rw[size_toArray,<-hl];exact Option.some.inj h1
  exact PySem.W.ki_setBack ho (by lia) (by rw[size_toArray,<-hl];exact h3) (by lia) (by rw[hk];exact⟨_,I',q⟩)
theorem rT (lo hi:Option Int)(n:Nat):(sliceBounds lo hi none n).1=((HT.sIx n 0 lo:Nat):Int)/\(sliceBounds lo hi none n).2.1=((HT.sIx n n hi:Nat):Int)/\(sliceBounds lo hi none n).2.2=1:=by
 refine⟨?_,?_,rfl⟩
 ·cases lo with
  | none=>simp[sliceBounds,HT.sIx]
  | some i=>
   simp only[sliceBounds,HT.sIx,getD_none,show(1:Int)>0 by decide,if_true]
   by_cases h:i<0
   ·simp only[h,if_true]<;>lia
   ·simp only[h,if_false]<;>lia
 ·cases hi with
  | none=>simp[sliceBounds,HT.sIx]
  | some i=>
   simp only[sliceBounds,HT.sIx,getD_none,show(1:Int)>0 by decide,if_true]
   by_cases h:i<0
   ·simp only[h,if_true]<;>lia
   ·simp only[h,if_false]<;>lia
theorem qA (its:List Value)(lo hi:Option Int):slicePick its.toArray lo hi none=((its.drop (HT.sIx its.length 0 lo)).take (HT.sIx its.length its.length hi-HT.sIx its.length 0 lo)).toArray:=by
 obtain⟨h1,h2,h3⟩:=rT lo hi its.toArray.size;unfold slicePick;rw[h1,h2,h3];simp only[sliceRange_one,pick_run,size_toArray]<;>rfl
def rSlL (K:Frag):V->Option Int->Option Int->Hp->VK->Prop:=λx lo hi H Q=> ∃a xs,x= .ref a/\SqL K H a xs/\ ∀p,H p=none->Q (.ref p) (upd H p (.lst (sY xs lo hi)))
theorem vX:SlR X (rSlL X.K):=by
 intro pins s σ H x v vl vu lo hi sl Q I rx hs pl pu h;obtain⟨a,xs,rfl,hx,q⟩:=h;cases rx;obtain⟨its,r,ht,hz⟩:=I.list hx;have hlen:=r.length;refine⟨"list",_,slot_list_getitem.lookup,ht.isList.typeIs,?_⟩;refine wpAny_getItem_list_slice ht.isList hs pl pu .none (by simp) ?_ (by rw[size_toArray]<;>lia)
 rw[qA,<-hlen];refine⟨.ref s.heap.objs.size,_,I.laid (t':=s.toks) (o:= .lst (sY xs lo hi)) (λb ob q=>get?_push_of_some _ q) (le_refl _) ?_,rfl,q _ (I.hok.fresh (le_refl _))⟩
 exact⟨le_trans (nL xs lo hi) hz,_,0,(r.drop (HT.sIx xs.length 0 lo)).take (HT.sIx xs.length xs.length hi-HT.sIx xs.length 0 lo),get?_push_size _ rfl⟩
theorem rV:fV X (.builtin "len") (λxs H Q=> ∃p ys,xs=[.ref p]/\(SqL X.K H p ys\/SqT X.K H p ys)/\Q (.int ys.length) H):=by
 intro pins s σ H xs us Q I r h;obtain⟨p,ys,rfl,hq,q⟩:=h;obtain⟨u,rfl,rx⟩:=vals1 r;cases rx;have hn:=oF;rcases hq with hq|hq
 ·obtain⟨its,r',pl,hz⟩:=I.list hq;have hlen:=r'.length;exact Calls.call_len_list pl.isList (by simp only[size_toArray]<;>lia) ⟨.int ys.length,H,I.tok _,⟨s.toks+1,by rw[size_toArray,hlen]⟩,q⟩
 ·obtain⟨its,r',pl,hz⟩:=I.tuple hq;have hlen:=r'.length;exact len_tuple pl (by simp only[size_toArray]<;>lia) ⟨.int ys.length,H,I.tok _,⟨s.toks+1,by rw[size_toArray,hlen]⟩,q⟩
theorem fV.or {f:Value}{r r':List V->Hp->VK->Prop}(h:fV X f r)(h':fV X f r'):fV X f (λxs H Q=>r xs H Q\/r' xs H Q):=by
 intro pins s σ H xs us Q I rs q;rcases q with q|q
 ·exact h pins s σ H xs us Q I rs q
 ·exact h' pins s σ H xs us Q I rs q
theorem rW:fV X (.type "list") (λxs H Q=> ∃p ys,xs=[.ref p]/\(SqL X.K H p ys\/SqT X.K H p ys)/\ ∀l,H l=none->Q (.ref l) (upd H l (.lst ys))):=by
 intro pins s σ H xs us Q I r h;obtain⟨p,ys,rfl,hq,q⟩:=h;obtain⟨u,rfl,rx⟩:=vals1 r;cases rx;have fin: ∀(its:List Value),bC ys its->ys.length<=sizeLine-> ∀(h':Heap) (c':Nat),(∀b o',s.heap.get? b=some o'->h'.get? b=some o')->
   h'.get? s.heap.objs.size=some {cls:= .type "list",dict:=none,data:= .seq its.toArray c',slots:= #[]}->EP X pins σ Q (.ref s.heap.objs.size) {s with heap:=h'}:=λits r' hz h' c' kp e=>
  ⟨.ref s.heap.objs.size,_,I.laid (t':=s.toks) kp (le_refl _) (show gF X.prog X.w _ h' _ (.lst ys)from⟨hz,its,c',r',e⟩),rfl,q _ (I.hok.fresh (le_refl _))⟩
 rcases hq with hq|hq
 ·obtain⟨its,r',pl,hz⟩:=I.list hq;have hlen:=r'.length;obtain⟨o,ho,hc,n,hd⟩:=pl.isList;exact call_list_seq p (.inl rfl) ho hc hd (λh' c' kp e=>fin its r' hz h' c' kp e) (by simp only[size_toArray]<;>lia)
 ·obtain⟨its,r',pl,hz⟩:=I.tuple hq;have hlen:=r'.length;obtain⟨o,ho,hc,n,hd⟩:=pl;exact call_list_seq p (.inr rfl) ho hc hd (λh' c' kp e=>fin its r' hz h' c' kp e) (by simp only[size_toArray]<;>lia)
theorem iA:fV X (.type "tuple") (λxs H Q=> ∃p ys,xs=[.ref p]/\((SqL X.K H p ys/\ ∀l,H l=none->Q (.ref l) (upd H l (.tup ys)))\/(SqT X.K H p ys/\Q (.ref p) H))):=by
 intro pins s σ H xs us Q I r h;obtain⟨p,ys,rfl,h⟩:=h;obtain⟨u,rfl,rx⟩:=vals1 r;cases rx;rcases h with⟨hq,q⟩| ⟨hq,q⟩
 ·obtain⟨its,r',pl,hz⟩:=I.list hq;have hlen:=r'.length;refine call_tuple_list pl.isList (λh' kp=> ?_) (by simp only[size_toArray]<;>lia)
  have I1:Inv X pins σ H {s with heap:=h'}:=I.kept (t':=s.toks) kp;have I2:Inv X pins σ (upd H h'.objs.size (.tup ys)) {s with heap:=h'.push {cls:= .type "tuple",data:= .seq its.toArray}}:=
   I1.laid (t':=s.toks) (λb o e=>get?_push_of_some _ e) (le_refl _) (show gF X.prog X.w _ _ _ (.tup ys)from⟨hz,its,r',IsTup.new _ _⟩)
  exact⟨.ref h'.objs.size,_,I2,rfl,q _ (I1.hok.fresh (le_refl _))⟩
 ·obtain⟨its,r',pl,hz⟩:=I.tuple hq;exact call_tuple_same pl ⟨.ref p,H,I,rfl,q⟩
def tyV (K:Frag)(T:String)(x:V)(H:Hp):Prop:=match x with
 | .str _=>T="str"
 | .int _=>T="int"
 | .ref p=>(T="list"/\ ∃xs,SqL K H p xs)\/(T="tuple"/\ ∃o,K.lookup p=some o/\o.cls= .type "tuple"/\o.dict=none)\/
   (T="dict"/\((∃kvs,H p=some (.dK kvs))\/ ∃kvs,H p=some (.dT kvs)))\/(T="set"/\ ∃S n,H p=some (.set S n))
 | _=>False
theorem yH {pins:List (Addr×Obj)}{σ:St}{H:Hp}{s:Shared}{T:String}{x:V}{v:Value}(I:Inv X pins σ H s)(r:RelV x v)(ty:tyV X.K T x H) :
  s.TypeIs v T/\ ∀a,v= .ref a-> ∃ob,s.heap.get? a=some ob/\ob.dict=none:=by
 cases x with
 | str z=>
  obtain⟨t,rfl⟩:=r;cases (show T="str" from ty)
  exact⟨typeIs_str s z t,λ_ e=>nomatch e⟩
 | int i=>
  obtain⟨t,rfl⟩:=r;cases (show T="int" from ty)
  exact⟨typeIs_int s i t,λ_ e=>nomatch e⟩
 | ref p=>
  cases r;rcases ty with⟨rfl,xs,hq⟩| ⟨rfl,o,hk,hc,hd⟩| ⟨rfl,hk⟩| ⟨rfl,S,n,hk⟩
  ·obtain⟨its,_,pl,_⟩:=I.list hq;refine⟨pl.isList.typeIs,λa e=> ?_⟩
   cases e;obtain⟨o,n,e,c,hd,_⟩:=pl;exact⟨o,e,hd⟩
  ·refine⟨⟨o,I.kIn p o hk,hc⟩,λa e=> ?_⟩
   cases e;exact⟨o,I.kIn _ o hk,hd⟩
  ·have z: ∃o,s.heap.get? p=some o/\o.ExactDict:=by
    rcases hk with⟨kvs,hk⟩| ⟨kvs,hk⟩
    ·obtain⟨_,_,_,_,o,_,_,e,ex,_⟩:=I.hok p _ hk;exact⟨o,e,ex⟩
    ·obtain⟨_,_,_,_,o,_,_,e,ex,_⟩:=I.hok p _ hk;exact⟨o,e,ex⟩
   obtain⟨o,e,ex⟩:=z;refine⟨⟨o,e,ex.1⟩,λa e2=> ?_⟩
   cases e2;exact⟨o,e,ex.2.1⟩
  ·obtain⟨o,_,_,_,e,ex,_⟩:=I.hok p _ hk;refine⟨⟨o,e,ex.1⟩,λa e2=> ?_⟩
   cases e2;exact⟨o,e,ex.2.1⟩
 | _=>exact False.elim ty
def tBM0 (K:Frag)(T:String)(r:V->List V->Hp->VK->Prop)(to:TE):TE:=λσ H Q=>to σ H λx H1=>tyV K T x H1/\r x [] H1 Q
def tBM (K:Frag)(T:String)(r:V->List V->Hp->VK->Prop)(to:TE)(t:TA):TE:=λσ H Q=>to σ H λx H1=>tyV K T x H1/\t σ H1 λxs H2=>r x xs H2 Q
variable {o e:Expr}{es:List Expr}{to:TE}{t:TA}{name:Str}{apos cpos:Pos}{T id:String}{r:V->List V->Hp->VK->Prop}
theorem pe_bm0 (pa:PlainAttrs T)(slot:Slot T name id)(hty:typeOf (.builtin id)=pure (.type "method_descriptor"))(hm:MtR X id r)(ho:PE X o to)
  (hbase:attributeBase o name X.env (eval o X.env)=eval o X.env:=by rfl) (hline:(apos.endLine==cpos.line)=true:=by rfl):PE X (.Call (.Attribute o name apos) [] [] cpos) (tBM0 X.K T r to):=by
 intro pins s σ H Q I h;refine wpAny_Call_method0_late hbase hline (thn (ho pins s σ H _ I h) λv s1 ⟨x,H1,I1,r1,ty,q1⟩=> ?_)
 obtain⟨h1,h2⟩:=yH I1 r1 ty;exact⟨T,id,pa,slot,hty,h1,h2,Calls.callWith_builtin rfl (PySem.evalArgs_none (hm pins s1 σ H1 x [] v [] Q I1 r1 .nil q1))⟩
theorem pe_bm (pa:PlainAttrs T)(slot:Slot T name id)(hty:typeOf (.builtin id)=pure (.type "method_descriptor"))(hm:MtR X id r)(ho:PE X o to)(ha:PA X (e::es) t)
  (hbase:attributeBase o name X.env (eval o X.env)=eval o X.env:=by rfl)
  (hfew:((backTo cpos (starEach (e::es) X.env)).all (λx=> !x.1)&&(backToKw cpos (keywordEach [] X.env)).all (λx=>x.1.isSome)
   &&decide ((e::es).length+([]:List Keyword).length+(if([]:List Keyword).isEmpty then 0 else 1)<30))=true:=by rfl)
  (hline:(apos.endLine==cpos.line)=true:=by rfl) (hs:starEach (e::es) X.env=(false,eval e X.env)::starEach es X.env:=by rfl) (hplain:(backTo cpos (starEach es X.env)).any (·.1)=false:=by rfl) :
  PE X (.Call (.Attribute o name apos) (e::es) [] cpos) (tBM X.K T r to t):=by
 intro pins s σ H Q I h;refine wpAny_Call_method_late hbase hfew hline rfl (thn (ho pins s σ H _ I h) λv s1 ⟨x,H1,I1,r1,ty,q1⟩=> ?_)
 obtain⟨h1,h2⟩:=yH I1 r1 ty;refine⟨T,id,pa,slot,hty,h1,h2,?_⟩;have hA:=ha cpos pins s1 σ H1 _ I1 q1;rw[hs]at hA⊢;refine Calls.callWith_builtin (by show(false||(backTo cpos (starEach es X.env)).any (·.1))=false;rw[hplain]<;>rfl) (Calls.evalArgs_plain ?_)
 exact thn hA λus s2 ⟨vs,H2,I2,r2,q2⟩=>hm pins s2 σ H2 x vs v us Q I2 r1 r2 q2
end
end L2
namespace L2
open PySem PySem.Spec PyProof.Rows
def MtM (X:Cx)(id:String)(r:V->List V->Hp->VK->Prop):Prop:=
 ∀(pins:List (Addr×Obj)) (s:Shared) (σ:St) (H:Hp) (x:V) (xs:List V) (v:Value) (us:List Value) (Q:VK),Inv X pins σ H s->RelV x v->bC xs us->r x xs H Q->
  wpAny (model X.prog X.w) X.A (call (.builtin id) (v::us)) (EP X pins σ Q) X.xe s
theorem bC.one: ∀{x:V} {us:List Value},bC [x] us-> ∃u,us=[u]/\RelV x u
 | _,_,.cons r .nil=>⟨_,rfl,r⟩
theorem bC.two: ∀{x y:V} {us:List Value},bC [x,y] us-> ∃u v,us=[u,v]/\RelV x u/\RelV y v
 | _,_,_,.cons r (.cons q .nil)=>⟨_,_,rfl,r,q⟩
theorem bC.zero: ∀{us:List Value},bC [] us->us=[]
 | _,.nil=>rfl
theorem bC.dropLast {xs:List V}{us:List Value}(h:bC xs us):bC xs.dropLast us.dropLast:=by
 induction h with
 | nil=>exact .nil
 | cons r t ih=>
  cases t with
  | nil=>exact .nil
  | cons q t'=>exact .cons r ih
theorem bC.reverse {xs:List V}{us:List Value}(h:bC xs us):bC xs.reverse us.reverse:=by
 induction h with
 | nil=>exact .nil
 | cons r t ih=>rw[reverse_cons,reverse_cons];exact bC.append ih (.cons r .nil)
theorem bC.rep {xs:List V}{us:List Value}(h:bC xs us): ∀k:Nat,bC (replicate k xs).flatten (replicate k us).flatten
 | 0=> .nil
 | k+1=>by
  rw[replicate_succ,replicate_succ,flatten_cons,flatten_cons];exact bC.append h (bC.rep h k)
theorem foldl_rep (its:List Value): ∀(k:Nat) (acc:List Value),
  foldl (λx1 x2=>x1++x2) acc.toArray (replicate k its.toArray)=(acc++(replicate k its).flatten).toArray
 | 0,acc=>by simp
 | k+1,acc=>by
  have e:acc.toArray++its.toArray=(acc++its).toArray:=by simp
  have e2:(acc++its)++(replicate k its).flatten=acc++(replicate (k+1) its).flatten:=by
   rw[replicate_succ,flatten_cons,List.append_assoc]
  rw[<-e2,<-foldl_rep its k (acc++its),<-e,replicate_succ,List.foldl_cons]
section
variable {X:Cx}{pins:List (Addr×Obj)}{σ:St}{H:Hp}{s:Shared}{l b:Addr}{xs ys zs:List V}
theorem Inv.lset {its its':List Value}{n:Nat}{f:Array Value->Array Value}{t':Nat}(I:Inv X pins σ H s)(hH:H l=some (.lst xs))
  (e:s.heap.get? l=some {cls:= .type "list",data:= .seq its.toArray n}) (hf:f its.toArray=its'.toArray) (hv:bC ys its') (hz:ys.length<=sizeLine) :
  Inv X pins σ (upd H l (.lst ys)) {s with heap:=s.heap.update l (Obj.mapSeq f),toks:=t'}:=by
 have q:=PySem.IsL.update e f;rw[hf]at q;refine I.write (x:=l) (e:=l) (by rw[hH];exact trivial) (.inl rfl) (λb' u hb hu=>(Heap.get?_update_other s.heap (Obj.mapSeq f) (Ne.symm hb)).trans hu) ⟨_,q⟩ ?_
 exact⟨hz,its',_,hv,q⟩
theorem Inv.lnew {its:List Value}{t':Nat}(I:Inv X pins σ H s)(hv:bC ys its)(hz:ys.length<=sizeLine) :
  Inv X pins σ (upd H s.heap.objs.size (.lst ys)) {s with heap:=s.heap.push {cls:= .type "list",data:= .seq its.toArray},toks:=t'}:=
 I.laid (λ_ _ q=>get?_push_of_some _ q) (le_refl _) ⟨hz,its,0,hv,get?_push_size _ rfl⟩
theorem Inv.fresh (I:Inv X pins σ H s):H s.heap.objs.size=none:=I.hok.fresh (le_refl _)
theorem Inv.lstM (I:Inv X pins σ H s)(hH:H l=some (.lst xs)):xs.length<=sizeLine/\ ∃(its:List Value) (n:Nat),bC xs its/\xs.length=its.length/\s.heap.get? l=some {cls:= .type "list",data:= .seq its.toArray n}:=by
 obtain⟨z,its,n,r,e⟩:=I.hok l _ hH;exact⟨z,its,n,r,r.length,e⟩
theorem yI {n:Nat}(h:n<=sizeLine):Builtin.List.listTooLong n=false:=by
 unfold Builtin.List.listTooLong;exact decide_eq_false (by lia)
end
section
variable {X:Cx}
def a45:V->List V->Hp->VK->Prop:=λx vs H Q=> ∃l xs y,x= .ref l/\vs=[y]/\H l=some (.lst xs)/\xs.length<sizeLine/\Q .non (upd H l (.lst (xs++[y])))
theorem qO:MtM X "list.append" a45:=by
 intro pins s σ H x vs v us Q I rx rv h;obtain⟨l,xs,y,rfl,rfl,hH,hz,q⟩:=h;cases rx;obtain⟨u,rfl,ru⟩:=rv.one;obtain⟨z,its,n,r,hl,e⟩:=I.lstM hH;refine call_meets F.slot_list_append ⟨_,e,rfl⟩ F.entry_list_append (F.args_list_append_2 _ _) (PySem.list_append l its.toArray n u (by rw[size_toArray];lia)) ⟨e,?_⟩
 refine⟨.non,_,I.lset (its':=its++[u]) hH e (by simp) (r.append (.cons ru .nil)) ?_,rfl,q⟩
 rw[length_append,List.length_singleton]
 lia
def yJ:V->List V->Hp->VK->Prop:=λx vs H Q=> ∃l xs,x= .ref l/\vs=[]/\H l=some (.lst xs)/\Q .non (upd H l (.lst xs.reverse))
theorem uP:MtM X "list.reverse" yJ:=by
 intro pins s σ H x vs v us Q I rx rv h;obtain⟨l,xs,rfl,rfl,hH,q⟩:=h;cases rx;have hus:=rv.zero;subst hus;obtain⟨z,its,n,r,hl,e⟩:=I.lstM hH;refine call_meets F.slot_list_reverse ⟨_,e,rfl⟩ F.entry_list_reverse (F.args_list_reverse_1 _) (AutoSeq1.list_reverse_list_0 l its.toArray n (by rw[size_toArray];omega)) ⟨e,?_⟩
 refine⟨.non,_,I.lset (its':=its.reverse) hH e (by simp) r.reverse ?_,rfl,q⟩
 rw[List.length_reverse];omega
def rCat:R2:=λx y H Q=> ∃l b xs zs,x= .ref l/\y= .ref b/\H l=some (.lst xs)/\H b=some (.lst zs)/\xs.length+zs.length<=sizeLine/\ ∀p,H p=none->Q (.ref p) (upd H p (.lst (xs++zs)))
theorem op_cat:OpR X (binaryOp .Add) rCat:=by
 intro pins s σ H x y v u Q I rx ry h;obtain⟨l,b,xs,zs,rfl,rfl,hH,hB,hz,q⟩:=h;cases rx;cases ry;obtain⟨z,its,n,r,hl,e⟩:=I.lstM hH;obtain⟨z2,its2,n2,r2,hl2,e2⟩:=I.lstM hB;refine PySem.P.add_list e e2 ?_ (by rw[size_toArray,size_toArray];omega)
 have ea:its.toArray++its2.toArray=(its++its2).toArray:=by simp
 rw[ea];exact⟨.ref _,_,I.lnew (t':=s.toks) (r.append r2) (by rw[length_append];omega),rfl,q _ I.fresh⟩
def rRep:R2:=λx y H Q=> ∃l k xs,x= .ref l/\y= .int k/\H l=some (.lst xs)/\ -(2^63)<=k/\k<2^63/\xs.length*k.toNat<=sizeLine/\
 ∀p,H p=none->Q (.ref p) (upd H p (.lst (replicate k.toNat xs).flatten))
theorem rX {α:Type}(xs:List α)(k:Nat):(replicate k xs).flatten.length=k*xs.length:=by
 induction k with
 | zero=>simp
 | succ k ih=>rw[replicate_succ,flatten_cons,length_append,ih,Nat.succ_mul,add_comm]
theorem op_rep:OpR X (binaryOp .Mult) rRep:=by
 intro pins s σ H x y v u Q I rx ry h;obtain⟨l,k,xs,rfl,rfl,hH,h1,h2,hz,q⟩:=h;cases rx;obtain⟨t,rfl⟩:=ry;obtain⟨z,its,n,r,hl,e⟩:=I.lstM hH;have hlen:its.toArray.size*k.toNat<=sizeLine:=by rw[size_toArray,<-hl];exact hz
 have hcap: ¬its.toArray.size*k.toNat>(2^63-1)/8:=by
  have:(sizeLine:Nat)<=(2^63-1)/8:=by decide
  lia
 have hfit: ¬(!Builtin.List.listFitsIndex k)=true:=by
  rw[fitsIndex_both h1 h2];exact Bool.false_ne_true
 have hlong: ¬Builtin.List.listTooLong (its.toArray.size*k.toNat)=true:=by
  rw[yI hlen];exact Bool.false_ne_true
 have hnew:foldl (λx1 x2=>x1++x2) #[] (replicate (if its.toArray.isEmpty=true then 0 else k.toNat) its.toArray)=(replicate k.toNat its).flatten.toArray:=by
  have f0: ∀m:Nat,foldl (λx1 x2=>x1++x2) #[] (replicate m its.toArray)=(replicate m its).flatten.toArray:=λm=>by
   have:=foldl_rep its m [];rw[List.nil_append]at this;exact this
  rw[f0];cases its with
  | nil=>simp
  | cons a r'=>rw[if_neg (by simp)]
 refine wpAny_binaryOp_repeat_ref (T:="list") (U:="int") (by decide) ⟨_,e,rfl⟩ (λs'=>typeIs_int s' k t) noFill_list_mul F.fills_int_mul F.slot_int_rmul repeat_list F.slot_int_index.lookup
  (call_meets F.slot_int_rmul (typeIs_int s k t) F.entry_int_rmul (F.args_int_rmul_2 _ _) (int___rmul___int_list k t l its.toArray n)
   ⟨e,rfl,⟨_,e,rfl⟩,call_meets F.slot_list_mul ⟨_,e,rfl⟩ F.entry_list_mul (F.args_list_mul_2 _ _) (AutoListH.list___mul___list_int_3 l its.toArray n k t hfit hcap hlong) ⟨e,?_⟩⟩)
 rw[hnew];exact⟨.ref _,_,I.lnew (t':=s.toks) (r.rep k.toNat) (by rw[rX,mul_comm];exact hz),rfl,q _ I.fresh⟩
end
section
variable {prog:Program}{w:World}{A:Around}{E:Value->Shared->Prop}{s:Shared}
set_option maxRecDepth 100000 in
end
end L2
namespace Att
open PySem PySem.W PySem.Calls PyProof.Rows
theorem nT {P:Params}{h:Heap}: ∀(ns:List Int) (vs:List Value),WellAll P h vs (ns.map WData.int)->IntsAre vs ns:=by
 intro ns
 induction ns with
 | nil=>
  intro vs w;rw[map_nil]at w;cases w;exact .nil
 | cons n ns ih=>
  intro vs w;rw[map_cons]at w;cases w with
  | cons a b=>
   cases a;exact .cons _ _ (ih _ b)
theorem wZ {l:OpenLaw}{n:Nat}(hn:l.most=some n){P:Params}{h:Heap}{args:List WData}{vals:List Value}
  (hpre:l.row.toRowW.claim.pre args=true) (hwl:WellAll P h vals args) :
  ∃a vs ns,vals=[Value.ref a]/\args=[WData.list (ns.map WData.int)]/\h.get? a=some {cls:= .type "list",data:= .seq vs.toArray}/\IntsAre vs ns/\ns.length<=n:=by
 have hsh:WShape.hasAll [] args [.list .int]=true:=(pre_splitW hpre).1;have hc:l.pre.holds [] {args:=args}=true:=(pre_splitW hpre).2;obtain⟨d,r,rfl,h1,h2⟩:=hasAllW_cons hsh;obtain rfl:=hasAllW_nil h2;obtain⟨xs,rfl,h3⟩:=hasW_list h1;obtain⟨ns,rfl⟩:=items_int h3;have hlen:ns.length<=n:=by
  unfold OpenLaw.pre at hc;have h4:(WTm.not (.lt (.lit (.int (n:Int))) (.len (.arg 0)))).holds [] {args:=[.list (ns.map .int)]}=true:=by
   have h4:=(holds_andW hc).1;rw[hn]at h4;exact h4
  have h5:=condW_of h4 (w_not (w_lt w_lit (w_len_list (w_arg rfl))));rw[length_map]at h5;refine Nat.le_of_not_lt λq=> ?_
  have q':(n:Int)< ((ns.length:Nat):Int):=by omega
  first
   | (rw[decide_eq_true q']at h5;exact absurd h5 (by decide))
   | (simp at h5;omega)
 cases hwl with
 | cons w1 w2=>
  cases w2;cases w1 with
  | list ho hall=>exact⟨_,_,ns,rfl,rfl,ho,nT ns _ hall,hlen⟩
theorem x3 (l:OpenLaw)(args:List WData):l.row.toRowW.claim.post args (.bool true) args=true:=
 postW_of (r:=l.row.toRowW) (X:=(true==true))
  (show WShape.has [] (.bool true) .bool=true by first|rfl|decide|simp[WShape.has,WShape.arms,WShape.armsAll])
  (show(WTm.eq .res (.lit (.bool true))).value [] {args:=args,res:=some (.bool true),after:=args}=some (.bool (true==true))from w_eq_bool (w_res rfl) w_lit) rfl
theorem attach_call {l:OpenLaw}{n:Nat}{q:Program}{loose:List Str}{XP:(Str->Option Value)->Heap->Prop}{YP:World->Heap->Prop}{d:DefRec}
  (hn:l.most=some n) (hdf:d.params.defaults=[])
  (call: ∀(w:World) (s₀ s₁:Shared) (mg mb:Str->Option Value) (fa:Addr) (o:Obj) (pm cd doc:Value) (a:Addr) (vs:List Value) (ns:List Int),
   Ground q loose [] XP w s₀ mg mb s₁.heap->YP w s₁.heap->
   s₁.heap.get? fa=some o->o.data= .func (docDef d.name d.params d.body d.scope pm cd doc)->s₁.heap.CodeRec cd d.name->mg d.name=some (.ref fa)->
   s₁.heap.get? a=some {cls:= .type "list",data:= .seq vs.toArray}->IntsAre vs ns->ns.length<=n->s₁.gens= #[]->
   codeAny (model l.prog w) callerA (.call (.ref fa) ⟨[.ref a],[]⟩) (λr s'=>r= .ok (.ret (.bool true))/\OldK s₁.heap s'.heap/\s'.os=s₁.os/\AllBare s'.gens) s₁) :
  WalkO q loose XP YP l.row.toRowW d [] (λf vs=>PySem.call f vs):=by
 intro w s₀ s₁ mg mb G Y fa o pm cd doc dV kV ho hd hcd hD hmg hg args vals as hpre hlay hrd hwl hlo;obtain rfl:dV= .none:=Dflts.none hD hdf;obtain rfl:kV= .none:=Dflts.noKw hD;obtain⟨a,vs,ns,rfl,rfl,hobj,hints,hlen⟩:=wZ hn hpre hwl;refine enter_call (codeAny_mono (call w s₀ s₁ mg mb fa o pm cd doc a vs ns G Y ho (fd_plain hd) hcd hmg hobj hints hlen hg) λr s' hq=> ?_)
 obtain⟨rfl,h2,h3,h4⟩:=hq;exact⟨.inl ⟨.bool true,.bool true,[],rfl,λ_=>rfl,.bool true,x3 l _,λ_=>⟨List.Pairwise.nil,λ_ hm=>(nomatch hm)⟩⟩,h2,h3,h4⟩
end Att
namespace L2
open PySem PySem.Spec PyProof.Rows
theorem qP: ∀{vs:List Value} {ns:List Int},IntsAre vs ns->bC (ns.map V.int) vs
 | _,_,.nil=> .nil
 | _,_,.cons n t h=> .cons ⟨t,rfl⟩ (qP h)
def Only (H:Hp):Prop:= ∀b,H b=none\/ ∃o xs,H b=some (.frz o (.lst xs))
theorem yK {P:Program}{w:World}{K:Frag}{mg mb:Str->Option Value}{CX:CXT}{k:Nat}{fa a:Addr}{fd:FuncData}{x:Str}{sp:Sp}{s₁:Shared}{vs:List Value}{ns:List Int}
  (KX:K.In s₁.heap) (hns:s₁.heap.Ns mainGlobals mg) (hb:s₁.heap.Ns builtinsNs mb) (hbb: ∀x:Str,x≠"__name__"->mb x=bootBuiltins x) (hlim:s₁.heap.NoLimit) (hg:s₁.gens= #[])
  (ha:s₁.heap.get? a=some {cls:= .type "list",data:= .seq vs.toArray}) (hi:IntsAre vs ns) (hl:ns.length<=sizeLine) (hr:cT k callerA)
  (F: ∀base:Heap,K.In base->base.Ns mainGlobals mg->jU P w K mg base CX k fa fd [x] sp) (hbind: ∀(s:Shared) (u:Value),BindsTo s fd ⟨[u],[]⟩ [(x,u)])
  (hsp: ∀H:Hp,Only H->SqL K H a (ns.map V.int)->sp [.ref a] H (λv _=>v= .bl true) λ_ _ _=>False)
  (hCX: ∀H e s',CX [] H s₁ (λ_ _ _=>False) e s'->False) :
  codeAny (model P w) callerA (.call (.ref fa) ⟨[.ref a],[]⟩) (λr s'=>r= .ok (.ret (.bool true))/\OldK s₁.heap s'.heap/\s'.os=s₁.os/\AllBare s'.gens) s₁:=by
 have rv:=qP hi;have lenV:=hi.length;have core: ∀H:Hp,Only H->SqL K H a (ns.map V.int)->HOk P w H s₁.heap->(∀b,H b≠none->b=a)->(H a≠none->K.lookup a=none)->
   codeAny (model P w) callerA (.call (.ref fa) ⟨[.ref a],[]⟩) (λr s'=>r= .ok (.ret (.bool true))/\OldK s₁.heap s'.heap/\s'.os=s₁.os/\AllBare s'.gens) s₁:=by
  intro H hO hS hok hA hK;have base_of: ∀{b:Addr} {o:Obj},s₁.heap.get? b=some o->H b=none->(rN s₁.heap H).get? b=some o:=λe n=>xY e n
  have noA: ∀{b:Addr} {o:Obj} {es:Array DictEntry} {ep:Nat},s₁.heap.get? b=some o->o.data= .dict es ep->H b=none:=λ{b o es ep} e d=>by
   cases q:H b with
   | none=>rfl
   | some u=>
    have e':b=a:=hA b (by rw[q];simp)
    subst e';rw[ha]at e;cases e;have d':Data.seq vs.toArray _=Data.dict es ep:=d;cases d'
  have nsK: ∀{b:Addr} {m:Str->Option Value},s₁.heap.Ns b m->(rN s₁.heap H).Ns b m:=λ{b m} ⟨o,es,ep,e,d,r⟩=>⟨o,es,ep,base_of e (noA e d),d,r⟩
  have hKb:K.In (rN s₁.heap H):=λb o e=>base_of (KX b o e) (by
   cases q:H b with
   | none=>rfl
   | some u=>
    have e':b=a:=hA b (by rw[q];simp)
    subst e';rw[hK (by rw[q];simp)]at e;cases e)
  have hM:Mod K mg (rN s₁.heap H):=⟨hKb,nsK hns,⟨mb,nsK hb,hbb⟩,let ⟨mc,h1,h2⟩:=hlim;⟨mc,nsK h1,h2⟩⟩;have e0:uK P w K mg (rN s₁.heap H) callerA [] s₁ H:=⟨rfl,hM,λb o e=>a31 e,Nat.le_of_eq (wT _ _),trivial,λb hb=>absurd (show b∈([]:List Addr)from hb) (by simp),hok,.of_eq hg⟩
  refine codeAny_mono ((F _ hKb (nsK hns)).run callerA [] s₁ H ⟨[.ref a],[]⟩ [.ref a] [.ref a] _ _ hr e0 (hbind s₁ (.ref a)) (.cons rfl .nil) (hsp H hO hS)) λr s' h=> ?_
  cases r with
  | error e=>exact(hCX H e s' h).elim
  | ok fl=>
   cases fl with
   | next=>exact False.elim h
   | brk=>exact False.elim h
   | cont=>exact False.elim h
   | ret u=>
    obtain⟨v,H',os,bare,un,hok',r',q⟩:=h;have q':v= .bl true:=q;subst q';obtain rfl:u=Value.bool true:=r';refine⟨rfl,OldK.of_keep λb o e=> ?_,os,bare⟩
    cases q:H b with
    | none=>exact un.keep b o e q (by intro z;exact absurd (show b∈([]:List Addr)from z) (by simp)) (by simp)
    | some u=>
     rcases hO b with z| ⟨ob,xs,z⟩
     ·rw[q]at z;cases z
     ·have z2:=un.frzs b ob _ z;obtain⟨e1,_⟩:=hok b _ z;obtain⟨e2,_⟩:=hok' b _ z2;rw[e]at e1;cases e1;exact e2
 cases hk:K.lookup a with
 | some o=>
  have e:=KX a o hk;rw[ha]at e;cases e;refine core (λ_=>none) (λ_=> .inl rfl) (.inr ⟨_,vs.toArray,_,hk,rfl,rfl,rfl,by rw[size_toArray,lenV];exact hl,by simpa using rv⟩) (λb u z=>by have z':(none:Option HO)=some u:=z;cases z') (λb z=>absurd rfl z) λz=>absurd rfl z
 | none=>
  refine core (λb=>if b=a then some (.frz {cls:= .type "list",data:= .seq vs.toArray} (.lst (ns.map V.int)))else none) (λb=> ?_) (.inl (.inr ⟨{cls:= .type "list",data:= .seq vs.toArray},if_pos rfl⟩)) (λb u z=> ?_) (λb z=> ?_) λ_=>hk
  ·by_cases hb:b=a
   ·exact .inr ⟨_,_,if_pos hb⟩
   ·exact .inl (if_neg hb)
  ·by_cases hb:b=a
   ·have z':=(if_pos hb).symm.trans z;cases z';subst hb;exact⟨ha,by rw[length_map];exact hl,vs,_,rv,ha⟩
   ·have z':=(if_neg hb).symm.trans z;cases z'
  ·by_cases hb:b=a
   ·exact hb
   ·exact absurd (if_neg hb) z
end L2
namespace L2
open PySem PySem.Spec PyProof.Rows
theorem walk_of {l:PySem.W.OpenLaw}{n k:Nat}{q:Program}{loose:List Str}{XP:(Str->Option Value)->Heap->Prop}{YP:World->Heap->Prop}{d:DefRec}{K:Params->Frag}{CX:World->CXT}{sp:World->Sp}{x:Str}
  (hn:l.most=some n) (hn2:n<=sizeLine) (hdf:d.params.defaults=[]) (hr:cT k callerA)
  (hY: ∀(w:World) (h:Heap),YP w h->(K w.params).In h)
  (F: ∀(w:World) (mg:Str->Option Value) (fa:Addr) (h:Heap),(K w.params).In h->h.Ns mainGlobals mg->mg d.name=some (.ref fa)->
   ∃fd:FuncData,(∀(s:Shared) (u:Value),BindsTo s fd ⟨[u],[]⟩ [(x,u)])/\
    ∀base:Heap,(K w.params).In base->base.Ns mainGlobals mg->jU l.prog w (K w.params) mg base (CX w) k fa fd [x] (sp w))
  (hsp: ∀(w:World) (H:Hp) (a:Addr) (ns:List Int),ns.length<=n->Only H->SqL (K w.params) H a (ns.map V.int)->sp w [.ref a] H (λv _=>v= .bl true) λ_ _ _=>False)
  (hCX: ∀(w:World) (H:Hp) (s:Shared) (e:Value) (s':Shared),CX w [] H s (λ_ _ _=>False) e s'->False) :
  PySem.W.WalkO q loose XP YP l.row.toRowW d [] (λf vs=>PySem.call f vs):=by
 refine Att.attach_call hn hdf λw s₀ s₁ mg mb fa o pm cd doc a vs ns G Y ho hd hcd hmg hobj hints hlen hg=> ?_
 have KX:=hY w _ Y;obtain⟨fd,hb,hF⟩:=F w mg fa _ KX G.T.g hmg;exact yK KX G.T.g G.T.b G.T.builtins G.T.nolimit hg hobj hints (le_trans hlen hn2) hr hF hb (λH hO hS=>hsp w H a ns hlen hO hS) λH e s'=>hCX w H s₁ e s'
end L2
namespace L2
open PySem PySem.Spec PyProof.Rows
def bY (s:Stmt):Arguments:=match s with
 | .FunctionDef _ a _ _ _ _ _ _ _ _=>a
 | _=>{posonlyargs:=[],args:=[],vararg:=none,kwonlyargs:=[],kw_defaults:=[],kwarg:=none,defaults:=[]}
def aV (s:Stmt):List Stmt:=match s with
 | .FunctionDef _ _ b _ _ _ _ _ _ _=>b
 | _=>[]
def aF (s:Stmt):Scope:=match s with
 | .FunctionDef _ _ _ _ _ _ sc _ _ _=>sc
 | _=>{kind:= .function,names:=[],isGenerator:=false,isCoroutine:=false}
abbrev CX0:CXT:=λ_ _ _ _ _ _=>False
abbrev E0:XK:=λ_ _ _=>False
structure Fun (K:Frag)(x qual:Str)(st:Stmt)(f:Addr)(fd:FuncData):Prop where
 ex: ∃(oc:Value) (od:Option Addr) (kV doc pm:Value) (an:Option Addr) (cdv ct:Value) (osl:Array (Option Value)),
  fd=fnOf x qual (bY st) (aV st) (aF st) .none kV doc pm an cdv ct/\K.lookup f=some ⟨oc,od,.func fd,osl⟩/\codeIn K cdv qual=true
 kp:keepIn K (.ref f)=true
section
variable {P:Program}{w:World}{K:Frag}{mg:Str->Option Value}{base:Heap}
theorem Fun.ok {x qual:Str}{st:Stmt}{f:Addr}{fd:FuncData}{N ps:List Str}{k:Nat}{sp:Sp}(F:Fun K x qual st f fd)(S:bX N ps (aF st))(len: ∀vs H Q E,sp vs H Q E->vs.length=ps.length)
  (hbody: ∀(cdv:Value) (A:Around) (outer:List Env) (s:Shared) (H:Hp) (vs:List V) (Q:VK) (E:XK),cT k (A.deeper (envOfC qual (aF st) s.heap.objs.size f cdv))->sp vs H Q E->
   ∃t,PSs (fY CX0 P w K mg base N qual (aF st) f cdv A outer s H E).nox (aV st) t/\t {nx:=λ_ H'=>Q .non H',rt:=Q} (start N vs) H):jU P w K mg base CX0 (k+1) f fd ps sp:=by
 obtain⟨oc,od,kV,doc,pm,an,cdv,ct,osl,rfl,lk,hcd⟩:=F.ex;refine fn_of lk hcd S len λA outer s H vs Q E hr hsp=> ?_
 obtain⟨t,h,q⟩:=hbody cdv A outer s H vs Q E hr hsp;exact⟨t,h.nox,q⟩
theorem Fun.binds {x qual:Str}{st:Stmt}{f:Addr}{fd:FuncData}{ps:List Str}(F:Fun K x qual st f fd)
  (h: ∀(kV doc pm:Value) (an:Option Addr) (cdv ct:Value) (us:List Value),us.length=ps.length->bindArgs (fnOf x qual (bY st) (aV st) (aF st) .none kV doc pm an cdv ct) ⟨us,[]⟩=pure (ps.zip us)):Binds K fd ps []:=by
 obtain⟨oc,od,kV,doc,pm,an,cdv,ct,osl,rfl,lk,hcd⟩:=F.ex;exact .all (h kV doc pm an cdv ct)
theorem dQ {x qual:Str}{st:Stmt}{f:Addr}{oc:Value}{od an:Option Addr}{osl:Array (Option Value)}{kV doc pm cdv ct:Value}(l:K.lookup f=some ⟨oc,od,.func (fnOf x qual (bY st) (aV st) (aF st) .none kV doc pm an cdv ct),osl⟩)
  (c:codeIn K cdv qual=true) (k:keepIn K (.ref f)=true):Fun K x qual st f (fnOf x qual (bY st) (aV st) (aF st) .none kV doc pm an cdv ct):=⟨⟨oc,od,kV,doc,pm,an,cdv,ct,osl,rfl,l,c⟩,k⟩
end
section
variable {X:Cx}
theorem pv (i:Nat){x:Str}{pos:Pos}(hN:X.N[i]? =some x:=by rfl)(hv:Vis X.env.scope x:=by first|exact Or.inl rfl|exact Or.inr (Or.inl rfl)|exact Or.inr (Or.inr rfl))(hd:(x==("__debug__":Str))=false:=by decide)
  (hcd:(x==("__classdict__":Str))=false:=by decide):PE X (.Name x pos) (pZ i):=pe_var hN hv hd hcd
end
def cF (H H':Hp):Prop:= ∀b o,H b=some o->H' b=some o
theorem cF.refl (H:Hp):cF H H:=λ_ _ h=>h
theorem cF.trans {H H1 H2:Hp}(a:cF H H1)(b:cF H1 H2):cF H H2:=λc o h=>b c o (a c o h)
theorem cF.free {H H':Hp}(e:cF H H'){l:Addr}(h:H' l=Option.none):H l=Option.none:=by
 cases q:H l with
 | none=>rfl
 | some o=>
  rw[e l o q]at h;cases h
theorem cF.seq {K:Frag}{H H':Hp}{a:Addr}{xs:List V}(e:cF H H')(h:SqL K H a xs):SqL K H' a xs:=by
 rcases h with(h| ⟨o,h⟩)|h
 ·exact .inl (.inl (e _ _ h))
 ·exact .inl (.inr ⟨o,e _ _ h⟩)
 ·exact .inr h
end L2
section
namespace M
open PySem PySem.Spec PyProof.Rows L2
inductive D where
 | non|bl (b:Bool)|int (i:Int)|str (x:Str)|ty (n:String)
 | tup (l:List D)|lst (l:List D)|rol (l:List D)
 | obj (C:Addr) (ks:List Str) (l:List D)
 | adr (a:Addr)
 | xob (a d:Addr) (ks:List Str) (l:List D)
abbrev AS:=Addr->Prop
def KT (K:Frag)(a:Addr)(vs:List V):Prop:=
 ∃(o:Obj) (its:Array Value) (n:Nat),K.lookup a=some o/\o.cls= .type "tuple"/\o.data= .seq its n/\its.size<=sizeLine/\bC vs its.toList
def KL (K:Frag)(a:Addr)(vs:List V):Prop:=
 ∃(o:Obj) (its:Array Value) (n:Nat),K.lookup a=some o/\o.cls= .type "list"/\o.dict=none/\o.data= .seq its n/\its.size<=sizeLine/\bC vs its.toList
def OkC (K:Frag)(C:Addr)(ks:List Str):Prop:=Cls K C/\ ∀f∈ks,NoAttr K C f
mutual
def Rep (K:Frag)(A:AS)(H:Hp):D->V->Prop
 | .non,v=>v= .non
 | .bl b,v=>v= .bl b
 | .int i,v=>v= .int i
 | .str x,v=>v= .str x
 | .ty n,v=>v= .ty n
 | .tup l,v=> ∃a vs,v= .ref a/\((¬A a/\Rd H a (.tup vs))\/KT K a vs)/\aS K A H l vs
 | .lst l,v=> ∃a vs,v= .ref a/\ ¬A a/\H a=some (.lst vs)/\aS K A H l vs
 | .rol l,v=> ∃a vs,v= .ref a/\((¬A a/\Rd H a (.lst vs))\/KL K a vs)/\aS K A H l vs
 | .obj C ks l,v=> ∃a dx vs,v= .ref a/\ ¬A a/\H a=some (.ins C dx (ks.zip vs))/\ks.length=vs.length/\aS K A H l vs/\OkC K C ks
 | .adr a,v=>v= .ref a
 | .xob a d ks l,v=> ∃vs,v= .ref a/\ ¬A d/\H d=some (.xd (ks.zip vs))/\ks.length=vs.length/\aS K A H l vs
def aS (K:Frag)(A:AS)(H:Hp):List D->List V->Prop
 | [],vs=>vs=[]
 | d::ds,vs=> ∃v vr,vs=v::vr/\Rep K A H d v/\aS K A H ds vr
end
section
variable {K:Frag}{A A':AS}{H H':Hp}
def e6 (A:AS)(H:Hp)(A':AS)(H':Hp):Prop:= ∀b o,¬A b->H b=some o-> ¬A' b/\H' b=some o
theorem Rd.pres (p:e6 A H A' H'){a:Addr}{u:HO}(n: ¬A a)(r:Rd H a u): ¬A' a/\Rd H' a u:=by
 rcases r with r| ⟨o,r⟩
 ·exact⟨(p a _ n r).1,.inl (p a _ n r).2⟩
 ·exact⟨(p a _ n r).1,.inr ⟨o,(p a _ n r).2⟩⟩
mutual
theorem Rep.mono (p:e6 A H A' H'): ∀{d:D} {v:V},Rep K A H d v->Rep K A' H' d v
 | .non,_,h=>h
 | .bl _,_,h=>h
 | .int _,_,h=>h
 | .str _,_,h=>h
 | .ty _,_,h=>h
 | .tup l,v,h=>by
  simp only[Rep]at h⊢;obtain⟨a,vs,e,c,r⟩:=h;refine⟨a,vs,e,?_,aS.mono p r⟩;rcases c with⟨n,c⟩|c
  ·exact .inl (Rd.pres p n c)
  ·exact .inr c
 | .lst l,v,h=>by
  simp only[Rep]at h⊢;obtain⟨a,vs,e,n,c,r⟩:=h;exact⟨a,vs,e,(p a _ n c).1,(p a _ n c).2,aS.mono p r⟩
 | .rol l,v,h=>by
  simp only[Rep]at h⊢;obtain⟨a,vs,e,c,r⟩:=h;refine⟨a,vs,e,?_,aS.mono p r⟩;rcases c with⟨n,c⟩|c
  ·exact .inl (Rd.pres p n c)
  ·exact .inr c
 | .obj C ks l,v,h=>by
  simp only[Rep]at h⊢;obtain⟨a,dx,vs,e,n,c,hl,r,ok⟩:=h;exact⟨a,dx,vs,e,(p a _ n c).1,(p a _ n c).2,hl,aS.mono p r,ok⟩
 | .adr _,_,h=>h
 | .xob a d ks l,v,h=>by
  simp only[Rep]at h⊢;obtain⟨vs,e,n,c,hl,r⟩:=h;exact⟨vs,e,(p d _ n c).1,(p d _ n c).2,hl,aS.mono p r⟩
theorem aS.mono (p:e6 A H A' H'): ∀{l:List D} {vs:List V},aS K A H l vs->aS K A' H' l vs
 | [],_,h=>by simp only[aS]at h ⊢; exact h
 | d::ds,vs,h=>by
  simp only[aS]at h⊢;obtain⟨v,vr,e,r,rs⟩:=h;exact⟨v,vr,e,Rep.mono p r,aS.mono p rs⟩
end
theorem aS.length: ∀{l:List D} {vs:List V},aS K A H l vs->l.length=vs.length
 | [],_,h=>by simp only[aS]at h;subst h;rfl
 | d::ds,vs,h=>by
  simp only[aS]at h;obtain⟨v,vr,rfl,_,rs⟩:=h;simp only[length_cons,aS.length rs]
theorem aS.nil:aS K A H [] []:=by simp only[aS]
theorem aS.cons {d:D}{v:V}{l:List D}{vs:List V}(r:Rep K A H d v)(rs:aS K A H l vs):aS K A H (d::l) (v::vs):=by
 simp only[aS];exact⟨v,vs,rfl,r,rs⟩
theorem aS.uncons {d:D}{l:List D}{vs:List V}(h:aS K A H (d::l) vs): ∃v vr,vs=v::vr/\Rep K A H d v/\aS K A H l vr:=by
 simpa only[aS]using h
theorem aS.unnil {vs:List V}(h:aS K A H [] vs):vs=[]:=by simpa only[aS]using h
theorem aS.append: ∀{l m:List D} {vs ws:List V},aS K A H l vs->aS K A H m ws->aS K A H (l++m) (vs++ws)
 | [],_,_,_,h,g=>by rw[h.unnil];exact g
 | d::l,m,vs,ws,h,g=>by
  obtain⟨v,vr,rfl,r,rs⟩:=h.uncons;exact .cons r (aS.append rs g)
theorem aS.get: ∀{l:List D} {vs:List V} {i:Nat} {d:D},aS K A H l vs->l[i]? =some d-> ∃v,vs[i]? =some v/\Rep K A H d v
 | [],_,_,_,_,e=>by simp at e
 | d::l,vs,0,d',h,e=>by
  obtain⟨v,vr,rfl,r,rs⟩:=h.uncons;simp at e;subst e;exact⟨v,by simp,r⟩
 | d::l,vs,i+1,d',h,e=>by
  obtain⟨v,vr,rfl,r,rs⟩:=h.uncons;obtain⟨w,h1,h2⟩:=aS.get (i:=i) rs (by simpa using e)
  exact⟨w,by simpa using h1,h2⟩
theorem aS.set: ∀{l:List D} {vs:List V} {d:D} {v:V} (i:Nat),aS K A H l vs->Rep K A H d v->aS K A H (l.set i d) (vs.set i v)
 | [],_,_,_,_,h,_=>by rw[h.unnil];exact .nil
 | d'::l,vs,d,v,0,h,g=>by
  obtain⟨w,vr,rfl,r,rs⟩:=h.uncons;exact .cons g rs
 | d'::l,vs,d,v,i+1,h,g=>by
  obtain⟨w,vr,rfl,r,rs⟩:=h.uncons;exact .cons r (aS.set i rs g)
theorem aS.drop: ∀{l:List D} {vs:List V} (n:Nat),aS K A H l vs->aS K A H (l.drop n) (vs.drop n)
 | _,_,0,h=>h
 | [],_,n+1,h=>by rw[h.unnil];exact .nil
 | d::l,vs,n+1,h=>by
  obtain⟨v,vr,rfl,r,rs⟩:=h.uncons;exact aS.drop n rs
theorem aS.take: ∀{l:List D} {vs:List V} (n:Nat),aS K A H l vs->aS K A H (l.take n) (vs.take n)
 | _,_,0,h=>by simp only[List.take_zero];exact .nil
 | [],_,n+1,h=>by rw[h.unnil];exact .nil
 | d::l,vs,n+1,h=>by
  obtain⟨v,vr,rfl,r,rs⟩:=h.uncons;exact .cons r (aS.take n rs)
theorem aS.rep {l:List D}{vs:List V}(h:aS K A H l vs): ∀k:Nat,aS K A H (replicate k l).flatten (replicate k vs).flatten
 | 0=> .nil
 | k+1=>by
  rw[replicate_succ,replicate_succ,flatten_cons,flatten_cons];exact .append h (h.rep k)
theorem aS.reverse: ∀{l:List D} {vs:List V},aS K A H l vs->aS K A H l.reverse vs.reverse
 | [],_,h=>by rw[h.unnil];exact .nil
 | d::l,vs,h=>by
  obtain⟨v,vr,rfl,r,rs⟩:=h.uncons;rw[reverse_cons,reverse_cons];exact .append (aS.reverse rs) (.cons r .nil)
theorem e6.same (s:cF H H'):e6 A H A H':=λb o n e=>⟨n,s b o e⟩
theorem e6.sub (s:cF H H')(h: ∀a,A' a->A a):e6 A H A' H':=λb o n e=>⟨λq=>n (h b q),s b o e⟩
theorem e6.fresh {a:Addr}(s:cF H H')(n:H a=none):e6 A H (λb=>A b\/b=a) H':=λb o nb e=>
 ⟨λq=>q.elim nb λz=>(by subst z;rw[n]at e;cases e),s b o e⟩
theorem e6.upd {a:Addr}{o:HO}(h:A a):e6 A H A (upd H a o):=λb o' nb e=>⟨nb,by rw[bF (λz=>nb (by subst z;exact h))];exact e⟩
end
inductive B where
 | pu (d:D)|ow (l:List D)|bo (l:List D)
def B.d:B->D
 | .pu d=>d
 | .ow l=> .lst l
 | .bo l=> .lst l
abbrev Ev:=List (Option B)
def Own (ρ:Ev)(σ:L2.St):AS:=λa=> ∃(i:Nat) (l:List D),ρ[i]? =some (some (.ow l))/\σ[i]? =some (some (.ref a))
structure C0 where
 H0:Hp
 A0:AS
def Av (C:C0)(ρ:Ev)(σ:L2.St):AS:=λa=>C.A0 a\/Own ρ σ a
structure EOk (K:Frag)(C:C0)(ρ:Ev)(σ:L2.St)(H:Hp):Prop where
 len:ρ.length=σ.length
 pu: ∀(i:Nat) (d:D),ρ[i]? =some (some (.pu d))-> ∃v,σ[i]? =some (some v)/\Rep K (Av C ρ σ) H d v
 ow: ∀(i:Nat) (l:List D),ρ[i]? =some (some (.ow l))-> ∃a vs,σ[i]? =some (some (.ref a))/\H a=some (.lst vs)/\C.H0 a=none/\aS K (Av C ρ σ) H l vs
 inj: ∀(i j:Nat) (l l':List D) (a:Addr),ρ[i]? =some (some (.ow l))->ρ[j]? =some (some (.ow l'))->σ[i]? =some (some (.ref a))->σ[j]? =some (some (.ref a))->i=j
 bo: ∀(i:Nat) (l:List D),ρ[i]? =some (some (.bo l))-> ∃a vs,σ[i]? =some (some (.ref a))/\C.A0 a/\C.H0 a=some (.lst vs)/\aS K (Av C ρ σ) H l vs
 ext:cF C.H0 H
 a0: ∀a,C.A0 a->C.H0 a≠none
section
variable {K:Frag}{C:C0}{ρ ρ':Ev}{σ σ':L2.St}{H H':Hp}
theorem EOk.avSome (I:EOk K C ρ σ H){a:Addr}(h:Av C ρ σ a):H a≠none:=by
 rcases h with h| ⟨i,l,h1,h2⟩
 ·intro z;cases e:C.H0 a with
  | none=>exact I.a0 a h e
  | some o=>rw[I.ext a o e]at z;cases z
 ·obtain⟨b,vs,h3,h4,_⟩:=I.ow i l h1;rw[h2]at h3;cases h3;rw[h4];simp
theorem EOk.same (I:EOk K C ρ σ H)(s:cF H H'):EOk K C ρ σ H' where
 len:=I.len
 pu:=λi d h=>let ⟨v,h1,h2⟩:=I.pu i d h;⟨v,h1,h2.mono (.same s)⟩
 ow:=λi l h=>let ⟨a,vs,h1,h2,h3,h4⟩:=I.ow i l h;⟨a,vs,h1,s _ _ h2,h3,h4.mono (.same s)⟩
 inj:=I.inj
 bo:=λi l h=>let ⟨a,vs,h1,h2,h3,h4⟩:=I.bo i l h;⟨a,vs,h1,h2,h3,h4.mono (.same s)⟩
 ext:=I.ext.trans s
 a0:=I.a0
theorem get_set_ne {α:Type}{l:List α}{i j:Nat}{x:α}(h:i≠j):(l.set i x)[j]? =l[j]? :=by
 rw[getElem?_set];simp[h]
theorem aU {α:Type}{l:List α}{i:Nat}{x:α}(h:i<l.length):(l.set i x)[i]? =some x:=by
 rw[getElem?_set];simp[h]
theorem aI {α:Type}{l:List α}{i j:Nat}{x y:α}(h:(l.set i x)[j]? =some y):(i=j/\y=x/\i<l.length)\/(i≠j/\l[j]? =some y):=by
 by_cases e:i=j
 ·subst e;rw[getElem?_set]at h
  by_cases hl:i<l.length
  ·simp[hl]at h;exact .inl ⟨rfl,h.symm,hl⟩
  ·simp[hl]at h
 ·exact .inr ⟨e,by rw[get_set_ne e]at h;exact h⟩
def iB (K:Frag)(A:AS)(H H':Hp):B->V->Prop
 | .pu d,v=>Rep K A H' d v
 | .ow l,v=> ∃a vs,v= .ref a/\H a=none/\H' a=some (.lst vs)/\aS K (λb=>A b\/b=a) H' l vs
 | .bo _,_=>False
theorem iB.rep {A:AS}(hA: ∀a,A a->H a≠none): ∀{b:B} {v:V},iB K A H H' b v->Rep K A H' b.d v
 | .pu d,v,h=>h
 | .ow l,v,h=>by
  obtain⟨a,vs,e,n,h1,r⟩:=h;show Rep K A H' (.lst l) v;simp only[Rep];exact⟨a,vs,e,λz=>hA a z n,h1,r.mono (λb o nb q=>⟨λz=>nb (.inl z),q⟩)⟩
 | .bo l,v,h=>h.elim
theorem EOk.store (I:EOk K C ρ σ H){i:Nat}{b:B}{v:V}{H1:Hp}(s:cF H H1)(r:iB K (Av C ρ σ) H H1 b v)(hi:i<σ.length):EOk K C (ρ.set i (some b)) (σ.set i (some v)) H1:=by
 have I1:=I.same s;have hir:i<ρ.length:=by rw[I.len];exact hi
 cases b with
 | pu d=>
  have sub: ∀a,Av C (ρ.set i (some (.pu d))) (σ.set i (some v)) a->Av C ρ σ a:=by
   rintro a (z| ⟨j,l,h1,h2⟩)
   ·exact .inl z
   ·rcases aI h1 with⟨rfl,h3,_⟩| ⟨ne,h3⟩
    ·cases h3
    ·rw[get_set_ne ne]at h2;exact .inr ⟨j,l,h3,h2⟩
  refine⟨by rw[length_set,length_set];exact I.len,?_,?_,?_,?_,I1.ext,I.a0⟩
  rotate_right
  ·intro j l h;rcases aI h with⟨rfl,h3,_⟩| ⟨ne,h3⟩
   ·cases h3
   ·obtain⟨a,vs,h4,h5,h6,h7⟩:=I1.bo j l h3;exact⟨a,vs,by rw[get_set_ne ne];exact h4,h5,h6,h7.mono (.sub (.refl _) sub)⟩
  ·intro j d' h;rcases aI h with⟨rfl,h3,_⟩| ⟨ne,h3⟩
   ·cases h3;exact⟨v,aU hi,Rep.mono (.sub (.refl _) sub) r⟩
   ·obtain⟨v',h4,h5⟩:=I1.pu j d' h3;exact⟨v',by rw[get_set_ne ne];exact h4,h5.mono (.sub (.refl _) sub)⟩
  ·intro j l h;rcases aI h with⟨rfl,h3,_⟩| ⟨ne,h3⟩
   ·cases h3
   ·obtain⟨a,vs,h4,h5,h6,h7⟩:=I1.ow j l h3;exact⟨a,vs,by rw[get_set_ne ne];exact h4,h5,h6,h7.mono (.sub (.refl _) sub)⟩
  ·intro j k l l' a h1 h2 h3 h4;rcases aI h1 with⟨rfl,z,_⟩| ⟨ne,z⟩
   ·cases z
   ·rcases aI h2 with⟨rfl,z',_⟩| ⟨ne',z'⟩
    ·cases z'
    ·rw[get_set_ne ne]at h3;rw[get_set_ne ne']at h4;exact I.inj j k l l' a z z' h3 h4
 | ow l0=>
  obtain⟨a0,vs0,rfl,n0,e0,r0⟩:=r;have sub: ∀a,Av C (ρ.set i (some (.ow l0))) (σ.set i (some (.ref a0))) a->Av C ρ σ a\/a=a0:=by
   rintro a (z| ⟨j,l,h1,h2⟩)
   ·exact .inl (.inl z)
   ·rcases aI h1 with⟨rfl,h3,_⟩| ⟨ne,h3⟩
    ·rw[aU hi]at h2;cases h2;exact .inr rfl
    ·rw[get_set_ne ne]at h2;exact .inl (.inr ⟨j,l,h3,h2⟩)
  have P:e6 (Av C ρ σ) H (Av C (ρ.set i (some (.ow l0))) (σ.set i (some (.ref a0)))) H1:=λb o nb e=>
   ⟨λq=>(sub b q).elim nb λz=>(by subst z;rw[n0]at e;cases e),s b o e⟩
  refine⟨by rw[length_set,length_set];exact I.len,?_,?_,?_,?_,I1.ext,I.a0⟩
  rotate_right
  ·intro j l h;rcases aI h with⟨rfl,h3,_⟩| ⟨ne,h3⟩
   ·cases h3
   ·obtain⟨a,vs,h4,h5,h6,h7⟩:=I.bo j l h3;exact⟨a,vs,by rw[get_set_ne ne];exact h4,h5,h6,h7.mono P⟩
  ·intro j d' h;rcases aI h with⟨rfl,h3,_⟩| ⟨ne,h3⟩
   ·cases h3
   ·obtain⟨v',h4,h5⟩:=I.pu j d' h3;exact⟨v',by rw[get_set_ne ne];exact h4,h5.mono P⟩
  ·intro j l h;rcases aI h with⟨rfl,h3,_⟩| ⟨ne,h3⟩
   ·cases h3;refine⟨a0,vs0,aU hi,e0,?_,r0.mono (λb o nb q=>⟨λz=>nb (sub b z),q⟩)⟩
    cases e:C.H0 a0 with
    | none=>rfl
    | some o=>rw[I.ext _ _ e]at n0;cases n0
   ·obtain⟨a,vs,h4,h5,h6,h7⟩:=I.ow j l h3;exact⟨a,vs,by rw[get_set_ne ne];exact h4,s _ _ h5,h6,h7.mono P⟩
  ·intro j k l l' a h1 h2 h3 h4;have old: ∀{j:Nat} {l:List D},ρ[j]? =some (some (.ow l))->σ[j]? ≠some (some (.ref a0)):=λ{j l} h z=>by
    obtain⟨b,vs,h4,h5,_⟩:=I.ow j l h;rw[z]at h4;cases h4;rw[n0]at h5;cases h5
   rcases aI h1 with⟨rfl,z,_⟩| ⟨ne,z⟩
   ·rw[aU hi]at h3;cases h3;rcases aI h2 with⟨rfl,z',_⟩| ⟨ne',z'⟩
    ·rfl
    ·rw[get_set_ne ne']at h4;exact absurd h4 (old z')
   ·rw[get_set_ne ne]at h3;rcases aI h2 with⟨rfl,z',_⟩| ⟨ne',z'⟩
    ·rw[aU hi]at h4;cases h4;exact absurd h3 (old z)
    ·rw[get_set_ne ne']at h4;exact I.inj j k l l' a z z' h3 h4
 | bo l0=>exact r.elim
theorem EOk.freeze (I:EOk K C ρ σ H){i:Nat}{l:List D}(h:ρ[i]? =some (some (.ow l))) :
  EOk K C (ρ.set i (some (.pu (.lst l)))) σ H/\(∀a,Own (ρ.set i (some (.pu (.lst l)))) σ a->Own ρ σ a)/\ ∃v,σ[i]? =some (some v)/\Rep K (Av C (ρ.set i (some (.pu (.lst l)))) σ) H (.lst l) v:=by
 have sub: ∀a,Own (ρ.set i (some (.pu (.lst l)))) σ a->Own ρ σ a:=by
  rintro a ⟨j,l',h1,h2⟩;rcases aI h1 with⟨rfl,h3,_⟩| ⟨ne,h3⟩
  ·cases h3
  ·exact⟨j,l',h3,h2⟩
 have subA: ∀a,Av C (ρ.set i (some (.pu (.lst l)))) σ a->Av C ρ σ a:=λa z=>z.imp id (sub a)
 obtain⟨a,vs,h1,h2,h3,h4⟩:=I.ow i l h;have na: ¬Av C (ρ.set i (some (.pu (.lst l)))) σ a:=by
  rintro(z| ⟨j,l',g1,g2⟩)
  ·exact I.a0 a z h3
  ·rcases aI g1 with⟨rfl,g3,_⟩| ⟨ne,g3⟩
   ·cases g3
   ·exact ne (I.inj i j l l' a h g3 h1 g2)
 have R:Rep K (Av C (ρ.set i (some (.pu (.lst l)))) σ) H (.lst l) (.ref a):=by
  simp only[Rep];exact⟨a,vs,rfl,na,h2,h4.mono (.sub (.refl _) subA)⟩
 refine⟨⟨by rw[length_set];exact I.len,?_,?_,?_,?_,I.ext,I.a0⟩,sub,.ref a,h1,R⟩
 rotate_right
 ·intro j l' g;rcases aI g with⟨rfl,g3,_⟩| ⟨ne,g3⟩
  ·cases g3
  ·obtain⟨a',vs',g4,g5,g6,g7⟩:=I.bo j l' g3;exact⟨a',vs',g4,g5,g6,g7.mono (.sub (.refl _) subA)⟩
 ·intro j d' g;rcases aI g with⟨rfl,g3,_⟩| ⟨ne,g3⟩
  ·cases g3;exact⟨_,h1,R⟩
  ·obtain⟨v',g4,g5⟩:=I.pu j d' g3;exact⟨v',g4,g5.mono (.sub (.refl _) subA)⟩
 ·intro j l' g;rcases aI g with⟨rfl,g3,_⟩| ⟨ne,g3⟩
  ·cases g3
  ·obtain⟨a',vs',g4,g5,g6,g7⟩:=I.ow j l' g3;exact⟨a',vs',g4,g5,g6,g7.mono (.sub (.refl _) subA)⟩
 ·intro j k l1 l2 a' g1 g2 g3 g4;rcases aI g1 with⟨rfl,z,_⟩| ⟨ne,z⟩
  ·cases z
  ·rcases aI g2 with⟨rfl,z',_⟩| ⟨ne',z'⟩
   ·cases z'
   ·exact I.inj j k l1 l2 a' z z' g3 g4
theorem EOk.write (I:EOk K C ρ σ H){i:Nat}{l l':List D}{a:Addr}{vs':List V}(h:ρ[i]? =some (some (.ow l)))(hs:σ[i]? =some (some (.ref a)))(r:aS K (Av C ρ σ) H l' vs') :
  EOk K C (ρ.set i (some (.ow l'))) σ (upd H a (.lst vs')):=by
 have hi:i<ρ.length:=(List.getElem?_eq_some_iff.mp h).1;have sub: ∀b,Av C (ρ.set i (some (.ow l'))) σ b->Av C ρ σ b:=by
  rintro b (z| ⟨j,l2,h1,h2⟩)
  ·exact .inl z
  ·rcases aI h1 with⟨rfl,h3,_⟩| ⟨ne,h3⟩
   ·exact .inr ⟨i,l,h,h2⟩
   ·exact .inr ⟨j,l2,h3,h2⟩
 have own:Av C ρ σ a:= .inr ⟨i,l,h,hs⟩;have P:e6 (Av C ρ σ) H (Av C (ρ.set i (some (.ow l'))) σ) (upd H a (.lst vs')):=λb o nb e=>⟨λz=>nb (sub b z),(e6.upd own b o nb e).2⟩
 obtain⟨a1,vs,h1,h2,h3,h4⟩:=I.ow i l h;rw[hs]at h1;cases h1;refine⟨by rw[length_set];exact I.len,?_,?_,?_,?_,?_,I.a0⟩
 rotate_left 3
 ·intro j l2 g;rcases aI g with⟨rfl,g3,_⟩| ⟨ne,g3⟩
  ·cases g3
  ·obtain⟨a',vs',g4,g5,g6,g7⟩:=I.bo j l2 g3;exact⟨a',vs',g4,g5,g6,g7.mono P⟩
 rotate_left 1
 ·intro j d' g;rcases aI g with⟨rfl,g3,_⟩| ⟨ne,g3⟩
  ·cases g3
  ·obtain⟨v',g4,g5⟩:=I.pu j d' g3;exact⟨v',g4,g5.mono P⟩
 ·intro j l2 g;rcases aI g with⟨rfl,g3,_⟩| ⟨ne,g3⟩
  ·cases g3;exact⟨a,vs',hs,fM,h3,r.mono P⟩
  ·obtain⟨a',vs2,g4,g5,g6,g7⟩:=I.ow j l2 g3;refine⟨a',vs2,g4,?_,g6,g7.mono P⟩;rw[bF (λz=> ?_)]
   ·exact g5
   ·subst z;exact ne (I.inj i j l l2 a' h g3 hs g4)
 ·intro j k l1 l2 a' g1 g2 g3 g4;have old: ∀{j:Nat} {l1:List D},(ρ.set i (some (.ow l')))[j]? =some (some (.ow l1))-> ∃l3,ρ[j]? =some (some (.ow l3)):=λ{j l1} g=>by
   rcases aI g with⟨rfl,z,_⟩| ⟨ne,z⟩
   ·exact⟨l,h⟩
   ·exact⟨l1,z⟩
  obtain⟨_,q1⟩:=old g1;obtain⟨_,q2⟩:=old g2;exact I.inj j k _ _ a' q1 q2 g3 g4
 ·intro b o e;rw[bF (λz=> ?_)]
  ·exact I.ext b o e
  ·subst z;rw[h3]at e;cases e
def C0.raise (C:C0)(ρ:Ev)(σ:L2.St)(H:Hp)(D:(a:Addr)->Decidable (Own ρ σ a)):C0:=⟨λb=> @ite _ (Own ρ σ b) (D b) none (H b),C.A0⟩
open Classical in
theorem EOk.raise (I:EOk K C ρ σ H):EOk K (C.raise ρ σ H λ_=>inferInstance) ρ σ H/\cF C.H0 (C.raise ρ σ H λ_=>inferInstance).H0:=by
 have e1: ∀b,Own ρ σ b->(C.raise ρ σ H λ_=>inferInstance).H0 b=none:=λb h=>if_pos h
 have e2: ∀b,¬Own ρ σ b->(C.raise ρ σ H λ_=>inferInstance).H0 b=H b:=λb h=>if_neg h
 have no: ∀b o,C.H0 b=some o-> ¬Own ρ σ b:=λb o e ⟨i,l,h1,h2⟩=>by
  obtain⟨a,vs,h3,h4,h5,_⟩:=I.ow i l h1;rw[h2]at h3;cases h3;rw[h5]at e;cases e
 have s1:cF C.H0 (C.raise ρ σ H λ_=>inferInstance).H0:=λb o e=>by rw[e2 b (no b o e)];exact I.ext b o e
 refine⟨⟨I.len,I.pu,λi l h=> ?_,I.inj,λi l h=> ?_,λb o e=> ?_,λa h z=> ?_⟩,s1⟩
 ·obtain⟨a,vs,h3,h4,h5,h6⟩:=I.ow i l h;exact⟨a,vs,h3,h4,e1 a ⟨i,l,h,h3⟩,h6⟩
 ·obtain⟨a,vs,h3,h4,h5,h6⟩:=I.bo i l h;exact⟨a,vs,h3,h4,s1 _ _ h5,h6⟩
 ·by_cases q:Own ρ σ b
  ·rw[e1 b q]at e;cases e
  ·rw[e2 b q]at e;exact e
 ·cases e:C.H0 a with
  | none=>exact I.a0 a h e
  | some o=>rw[s1 a o e]at z;cases z
theorem EOk.lower {C C':C0}(I:EOk K C' ρ σ H)(s:cF C.H0 C'.H0)(e:C'.A0=C.A0)(ha: ∀a,C.A0 a->C.H0 a≠none):EOk K C ρ σ H:=by
 obtain⟨H0',A0'⟩:=C';obtain⟨H0,A0⟩:=C;have e':A0'=A0:=e;subst e';refine⟨I.len,I.pu,λi l h=> ?_,I.inj,λi l h=> ?_,s.trans I.ext,ha⟩
 ·obtain⟨a,vs,h3,h4,h5,h6⟩:=I.ow i l h;exact⟨a,vs,h3,h4,s.free h5,h6⟩
 ·obtain⟨a,vs,h3,h4,h5,h6⟩:=I.bo i l h;refine⟨a,vs,h3,h4,?_,h6⟩;cases e:H0 a with
  | none=>exact absurd e (ha a h4)
  | some o=>
   have:=s a o e;have h5':H0' a=some (.lst vs):=h5;have this':H0' a=some o:=this;rw[h5']at this';cases this';exact e
end
end M
end
section
namespace M
open PySem PySem.Spec PyProof.Rows L2
def Frz (ρ ρ':Ev):Prop:=ρ'.length=ρ.length/\ ∀i:Nat,ρ'[i]? =ρ[i]? \/ ∃l:List D,ρ[i]? =some (some (.ow l))/\ρ'[i]? =some (some (.pu (.lst l)))
theorem Frz.refl (ρ:Ev):Frz ρ ρ:=⟨rfl,λ_=> .inl rfl⟩
theorem Frz.trans {a b c:Ev}(h:Frz a b)(g:Frz b c):Frz a c:=by
 refine⟨g.1.trans h.1,λi=> ?_⟩
 rcases g.2 i with e| ⟨l,e1,e2⟩
 ·rcases h.2 i with e'| ⟨l,e1,e2⟩
  ·exact .inl (e.trans e')
  ·exact .inr ⟨l,e1,e.trans e2⟩
 ·rcases h.2 i with e'| ⟨l',e3,e4⟩
  ·exact .inr ⟨l,e'▸e1,e2⟩
  ·rw[e4]at e1;cases e1
theorem Frz.own {ρ ρ':Ev}{σ:L2.St}(f:Frz ρ ρ'){a:Addr}(h:Own ρ' σ a):Own ρ σ a:=by
 obtain⟨i,l,h1,h2⟩:=h;rcases f.2 i with e| ⟨l',_,e2⟩
 ·exact⟨i,l,e▸h1,h2⟩
 ·rw[e2]at h1;cases h1
theorem Frz.set {ρ:Ev}{i:Nat}{l:List D}(h:ρ[i]? =some (some (.ow l))):Frz ρ (ρ.set i (some (.pu (.lst l)))):=by
 refine⟨length_set,λj=> ?_⟩
 by_cases e:i=j
 ·subst e;exact .inr ⟨l,h,aU (List.getElem?_eq_some_iff.mp h).1⟩
 ·exact .inl (get_set_ne e)
section
variable {K:Frag}{C:C0}{ρ ρ':Ev}{σ:L2.St}{H H':Hp}
theorem Frz.av (f:Frz ρ ρ'){a:Addr}(h:Av C ρ' σ a):Av C ρ σ a:=h.imp id f.own
theorem EOk.frz (I:EOk K C ρ σ H)(f:Frz ρ ρ'):EOk K C ρ' σ H:=by
 have ow': ∀{j:Nat} {l:List D},ρ'[j]? =some (some (.ow l))->ρ[j]? =some (some (.ow l)):=λ{j l} h=>by
  rcases f.2 j with e| ⟨l',_,e2⟩
  ·exact e▸h
  ·rw[e2]at h;cases h
 refine⟨by rw[f.1];exact I.len,λi d h=> ?_,λi l h=> ?_,λi j l l' a h1 h2=>I.inj i j l l' a (ow' h1) (ow' h2),λi l h=> ?_,I.ext,I.a0⟩
 ·rcases f.2 i with e| ⟨l,e1,e2⟩
  ·obtain⟨v,h1,h2⟩:=I.pu i d (e▸h);exact⟨v,h1,h2.mono (.sub (.refl _) λa=>f.av)⟩
  ·rw[e2]at h;cases h;obtain⟨a,vs,h1,h2,h3,h4⟩:=I.ow i l e1;refine⟨.ref a,h1,?_⟩;simp only[Rep];refine⟨a,vs,rfl,?_,h2,h4.mono (.sub (.refl _) λa=>f.av)⟩
   rintro(z| ⟨j,l',g1,g2⟩)
   ·exact I.a0 a z h3
   ·have:=I.inj i j l l' a e1 (ow' g1) h1 g2;subst this;rw[e2]at g1;cases g1
 ·obtain⟨a,vs,h1,h2,h3,h4⟩:=I.ow i l (ow' h);exact⟨a,vs,h1,h2,h3,h4.mono (.sub (.refl _) λa=>f.av)⟩
 ·have h':ρ[i]? =some (some (.bo l)):=by
   rcases f.2 i with e| ⟨l',_,e2⟩
   ·exact e▸h
   ·rw[e2]at h;cases h
  obtain⟨a,vs,h1,h2,h3,h4⟩:=I.bo i l h';exact⟨a,vs,h1,h2,h3,h4.mono (.sub (.refl _) λa=>f.av)⟩
end
abbrev UE:=Ev->(B->Ev->Prop)->Prop
abbrev UV:=Ev->(D->Ev->Prop)->Prop
abbrev UA:=Ev->(List D->Ev->Prop)->Prop
abbrev UT:=Ev->(Bool->Ev->Prop)->Prop
def lE (K:Frag)(t:UE):TE:=λσ H Q=> ∃C ρ Q0,EOk K C ρ σ H/\t ρ Q0/\
 ∀b ρ' v H',Q0 b ρ'->Frz ρ ρ'->cF H H'->iB K (Av C ρ' σ) H H' b v->Q v H'
def lA (K:Frag)(t:UA):TA:=λσ H Q=> ∃C ρ Q0,EOk K C ρ σ H/\t ρ Q0/\
 ∀ds ρ' vs H',Q0 ds ρ'->Frz ρ ρ'->cF H H'->aS K (Av C ρ' σ) H' ds vs->Q vs H'
def lT (K:Frag)(t:UT):TT:=λσ H Q=> ∃C ρ Q0,EOk K C ρ σ H/\t ρ Q0/\
 ∀b ρ' H',Q0 b ρ'->Frz ρ ρ'->cF H H'->Q b H'
def uQ (K:Frag)(A:AS)(H:Hp):D->V->Prop
 | .tup l,v=> ∃a vs,v= .ref a/\SqT K H a vs/\aS K A H l vs
 | .lst l,v=> ∃a vs,v= .ref a/\H a=some (.lst vs)/\aS K A H l vs
 | .rol l,v=> ∃a vs,v= .ref a/\SqL K H a vs/\aS K A H l vs
 | d,v=>Rep K A H d v
def lV (K:Frag)(t:UV):TE:=λσ H Q=> ∃C ρ Q0,EOk K C ρ σ H/\t ρ Q0/\
 ∀d ρ' v H',Q0 d ρ'->Frz ρ ρ'->cF H H'->uQ K (Av C ρ' σ) H' d v->Q v H'
def PU (X:Cx)(e:Expr)(t:UE):Prop:=PE X e (lE X.K t)
def PUV (X:Cx)(e:Expr)(t:UV):Prop:=PE X e (lV X.K t)
def PUA (X:Cx)(es:List Expr)(t:UA):Prop:=PA X es (lA X.K t)
def PUT (X:Cx)(e:Expr)(t:UT):Prop:=PT X e (lT X.K t)
def PUW (X:Cx)(e:Expr)(t:UT):Prop:=PW X e (lT X.K t)
section
variable {K:Frag}{A:AS}{H:Hp}
theorem Rep.one: ∀{d:D} {v:V},Rep K A H d v->uQ K A H d v
 | .non,_,h=>h
 | .bl _,_,h=>h
 | .int _,_,h=>h
 | .str _,_,h=>h
 | .ty _,_,h=>h
 | .tup l,v,h=>by
  simp only[Rep]at h;obtain⟨a,vs,e,c,r⟩:=h;exact⟨a,vs,e,c.imp And.right id,r⟩
 | .lst l,v,h=>by
  simp only[Rep]at h;obtain⟨a,vs,e,n,c,r⟩:=h;exact⟨a,vs,e,c,r⟩
 | .rol l,v,h=>by
  simp only[Rep]at h;obtain⟨a,vs,e,c,r⟩:=h;exact⟨a,vs,e,c.imp And.right id,r⟩
 | .obj _ _ _,_,h=>h
 | .adr _,_,h=>h
 | .xob _ _ _ _,_,h=>h
end
theorem dP {X:Cx}{e:Expr}{t t':TE}(h:PE X e t)(i: ∀σ H Q,t' σ H Q->t σ H Q):PE X e t':=λpins s σ H Q I q=>h pins s σ H Q I (i σ H Q q)
theorem a88 {X:Cx}{es:List Expr}{t t':TA}(h:PA X es t)(i: ∀σ H Q,t' σ H Q->t σ H Q):PA X es t':=λpos pins s σ H Q I q=>h pos pins s σ H Q I (i σ H Q q)
theorem vY {X:Cx}{e:Expr}{t t':TT}(h:PT X e t)(i: ∀σ H Q,t' σ H Q->t σ H Q):PT X e t':=λpins s σ H Q I q=>h pins s σ H Q I (i σ H Q q)
theorem PWimp {X:Cx}{e:Expr}{t t':TT}(h:PW X e t)(i: ∀σ H Q,t' σ H Q->t σ H Q):PW X e t':=λw pins s σ H Q I q=>h w pins s σ H Q I (i σ H Q q)
section
variable {X:Cx}{a b c e o:Expr}{es mV:List Expr}{pos:Pos}{ta tb tc:UE}
def uC (d:D):UE:=λρ Q=>Q (.pu d) ρ
theorem aE {i j pos}:PU X (.Constant (.int i) j pos) (uC (.int i)):=dP pe_int λσ H Q ⟨C,ρ,Q0,I,h,k⟩=>k _ ρ _ H h (.refl _) (.refl _) (show Rep _ _ _ _ _ by simp only[Rep])
theorem yL {b j pos}:PU X (.Constant (.bool b) j pos) (uC (.bl b)):=dP pe_bl λσ H Q ⟨C,ρ,Q0,I,h,k⟩=>k _ ρ _ H h (.refl _) (.refl _) (show Rep _ _ _ _ _ by simp only[Rep])
def vZ (ρ:Ev)(i:Nat)(Q:B->Ev->Prop):Prop:=match ρ[i]? with
 | some (some (.pu d))=>Q (.pu d) ρ
 | some (some (.ow l))=>Q (.pu (.lst l)) (ρ.set i (some (.pu (.lst l))))
 | _=>False
def aC (i:Nat):UE:=λρ Q=>vZ ρ i Q
theorem aB (i:Nat){x:Str}{pos:Pos}(h:PE X (.Name x pos) (pZ i)):PU X (.Name x pos) (aC i):=dP h λσ H Q ⟨C,ρ,Q0,I,h,k⟩=>by
 unfold aC vZ at h;split at h
 ·rename_i d e
  obtain⟨v,h1,h2⟩:=I.pu i d e;exact⟨v,h1,k _ ρ v H h (.refl _) (.refl _) h2⟩
 ·rename_i l e
  obtain⟨_,_,v,h1,h2⟩:=I.freeze e;exact⟨v,h1,k _ _ v H h (.set e) (.refl _) h2⟩
 ·exact h.elim
def yM (ρ:Ev)(i:Nat)(Q:D->Ev->Prop):Prop:=match ρ[i]? with
 | some (some (.pu d))=>Q d ρ
 | some (some (.ow l))=>Q (.lst l) ρ
 | some (some (.bo l))=>Q (.lst l) ρ
 | _=>False
def aP (i:Nat):UV:=λρ Q=>yM ρ i Q
theorem aM (i:Nat){x:Str}{pos:Pos}(h:PE X (.Name x pos) (pZ i)):PUV X (.Name x pos) (aP i):=dP h λσ H Q ⟨C,ρ,Q0,I,h,k⟩=>by
 unfold aP yM at h;split at h
 ·rename_i d e
  obtain⟨v,h1,h2⟩:=I.pu i d e;exact⟨v,h1,k _ ρ v H h (.refl _) (.refl _) h2.one⟩
 ·rename_i l e
  obtain⟨a,vs,h1,h2,h3,h4⟩:=I.ow i l e;exact⟨_,h1,k _ ρ _ H h (.refl _) (.refl _) ⟨a,vs,rfl,h2,h4⟩⟩
 ·rename_i l e
  obtain⟨a,vs,h1,h2,h3,h4⟩:=I.bo i l e;exact⟨_,h1,k _ ρ _ H h (.refl _) (.refl _) ⟨a,vs,rfl,I.ext _ _ h3,h4⟩⟩
 ·exact h.elim
def uV (t:UE):UV:=λρ Q=>t ρ λb ρ1=>Q b.d ρ1
theorem EOk.avF {K:Frag}{C:C0}{ρ ρ':Ev}{σ:L2.St}{H:Hp}(I:EOk K C ρ σ H)(f:Frz ρ ρ'){a:Addr}(h:Av C ρ' σ a):H a≠none:=I.avSome (f.av h)
theorem iI (h:PU X e ta):PUV X e (uV ta):=dP h λσ H Q ⟨C,ρ,Q0,I,h,k⟩=>
 ⟨C,ρ,_,I,h,λb ρ' v H' q f s r=>k b.d ρ' v H' q f s (r.rep λa z=>I.avF f z).one⟩
theorem a46 {x:Str}{v:V}{d:D}{pos:Pos}(h:PE X (.Name x pos) (tC v))(r: ∀A H,Rep X.K A H d v):PU X (.Name x pos) (uC d):=dP h λσ H Q ⟨C,ρ,Q0,I,h,k⟩=>k _ ρ _ H h (.refl _) (.refl _) (r _ _)
def OpU (X:Cx)(f:Value->Value->Sem Value)(g:D->D->(B->Prop)->Prop):Prop:=
 ∀(A:AS) (H:Hp) (d e:D) (v w:V) (Q0:B->Prop) (Q:VK),(∀a,A a->H a≠none)->Rep X.K A H d v->Rep X.K A H e w->g d e Q0->
  (∀b v' H',Q0 b->cF H H'->iB X.K A H H' b v'->Q v' H')-> ∃r,OpR X f r/\r v w H Q
def uOp (g:D->D->(B->Prop)->Prop)(ta tb:UE):UE:=λρ Q=>ta ρ λx ρ1=>tb ρ1 λy ρ2=>g x.d y.d λb=>Q b ρ2
theorem yN {f:Value->Value->Sem Value}:OpR X f (λx y H Q=> ∃r,OpR X f r/\r x y H Q):=λpins s σ H x y v u Q I rx ry ⟨r,hr,q⟩=>hr pins s σ H x y v u Q I rx ry q
theorem iB.from {K:Frag}{A:AS}{H0 H H':Hp}(s:cF H0 H): ∀{b:B} {v:V},iB K A H H' b v->iB K A H0 H' b v
 | .pu _,_,h=>h
 | .ow _,_,⟨a,vs,e,n,h1,r⟩=>⟨a,vs,e,s.free n,h1,r⟩
 | .bo _,_,h=>h.elim
theorem lOp {f:Value->Value->Sem Value}{g:D->D->(B->Prop)->Prop}(ho:OpU X f g)(σ:L2.St)(H:Hp)(Q:VK)(h:lE X.K (uOp g ta tb) σ H Q) :
  tOp (λx y H Q=> ∃r,OpR X f r/\r x y H Q) (lE X.K ta) (lE X.K tb) σ H Q:=by
 obtain⟨C,ρ,Q0,I,h,k⟩:=h;refine⟨C,ρ,_,I,h,λx ρ1 v H1 q1 f1 s1 r1=> ?_⟩
 have I1:=(I.frz f1).same s1;refine⟨C,ρ1,_,I1,q1,λy ρ2 w H2 q2 f2 s2 r2=> ?_⟩
 have I2:=(I1.frz f2).same s2;have hA: ∀a,Av C ρ2 σ a->H2 a≠none:=λa z=>I2.avSome z
 refine ho (Av C ρ2 σ) H2 x.d y.d v w _ Q hA ((r1.rep λa z=>I.avF f1 z).mono (.sub s2 λa=>f2.av)) (r2.rep λa z=>I1.avF f2 z) q2 λb v' H' q s r=> ?_
 exact k b ρ2 v' H' q (f1.trans f2) (s1.trans (s2.trans s)) (r.from (s1.trans s2))
theorem aH {op:Operator}{g:D->D->(B->Prop)->Prop}(ho:OpU X (binaryOp op) g)(ha:PU X a ta)(hb:PU X b tb):PU X (.BinOp a op b pos) (uOp g ta tb):=
 dP (pe_op yN ha hb) (lOp ho)
theorem uR {op:CmpOp}{g:D->D->(B->Prop)->Prop}(ho:OpU X (compareOp op) g)(ha:PU X a ta)(hb:PU X b tb)(hm:behindInMarks op b=false):PU X (.Compare a [op] [b] pos) (uOp g ta tb):=
 dP (a38 yN ha hb hm) (lOp ho)
def isB (Q:Bool->Ev->Prop):B->Ev->Prop:=λb ρ=>match b with
 | .pu (.bl k)=>Q k ρ
 | _=>False
def fN (t:UE):UT:=λρ Q=>t ρ (isB Q)
theorem lTst {t:UE}(σ:L2.St)(H:Hp)(Q:Bool->Hp->Prop)(h:lT X.K (fN t) σ H Q):lE X.K t σ H λx H'=> ∃k,x= .bl k/\Q k H':=by
 obtain⟨C,ρ,Q0,I,h,k⟩:=h;refine⟨C,ρ,_,I,h,λb ρ' v H' q f s r=> ?_⟩
 unfold isB at q;split at q
 ·rename_i k'
  refine⟨k',?_,k k' ρ' H' q f s⟩
  have r':Rep X.K (Av C ρ' σ) H' (.bl k') v:=r
  simpa only[Rep]using r'
 ·exact q.elim
theorem yO (h:PU X e ta)(he: ∀whole,isTrue e X.env whole=(do let v<-whole;standAt e.pos;holding [v] (truthy v)):=by intro _;rfl):PUT X e (fN ta):=
 vY (pt_val h he) lTst
theorem cL {op:CmpOp}{g:D->D->(B->Prop)->Prop}(ho:OpU X (compareOp op) g)(ha:PU X a ta)(hb:PU X b tb)(hm:behindInMarks op b=false):PUT X (.Compare a [op] [b] pos) (fN (uOp g ta tb)):=
 vY (a39 yN ha hb hm) λσ H Q h=>lOp ho σ H _ (lTst σ H Q h)
def uAnd (t u:UT):UT:=λρ Q=>t ρ λc ρ1=>if c=true then u ρ1 Q else Q false ρ1
def uOr (t u:UT):UT:=λρ Q=>t ρ λc ρ1=>if c=true then Q true ρ1 else u ρ1 Q
def yP (t:UT):UT:=λρ Q=>t ρ λc ρ1=>Q (!c) ρ1
variable {tA tB:UT}
theorem rY (ha:PUT X a tA):PUW X (.BoolOp .Or [a] pos) tA:=pw_or1 ha
theorem rZ (ha:PUT X a tA)(hb:PUW X (.BoolOp .Or (b::mV) pos) tB):PUW X (.BoolOp .Or (a::b::mV) pos) (uOr tA tB):=
 PWimp (pw_or ha hb) λσ H Q ⟨C,ρ,Q0,I,h,k⟩=>⟨C,ρ,_,I,h,λc ρ1 H1 q f s=>by
  cases c with
  | true=>
   rw[if_pos rfl]at q⊢;exact k _ _ _ q f s
  | false=>
   rw[if_neg Bool.false_ne_true]at q⊢;exact⟨C,ρ1,Q0,(I.frz f).same s,q,λb ρ2 H2 q2 f2 s2=>k b ρ2 H2 q2 (f.trans f2) (s.trans s2)⟩⟩
theorem PUW.pt (h:PUW X e tA):PUT X e tA:=PW.pt h
theorem sA (ha:PUT X a tA):PUT X (.UnaryOp .Not a pos) (yP tA):=
 vY (pt_not ha) λσ H Q ⟨C,ρ,Q0,I,h,k⟩=>⟨C,ρ,_,I,h,λc ρ1 H1 q f s=>k _ ρ1 H1 q f s⟩
def sZ (t u:UE):UE:=λρ Q=>t ρ λx ρ1=>isB (λc ρ1=>if c=true then u ρ1 Q else Q (.pu (.bl false)) ρ1) x ρ1
def uOrV (t u:UE):UE:=λρ Q=>t ρ λx ρ1=>isB (λc ρ1=>if c=true then Q (.pu (.bl true)) ρ1 else u ρ1 Q) x ρ1
def yQ (t:UE):UE:=λρ Q=>t ρ λx ρ1=>isB (λc ρ1=>Q (.pu (.bl (!c))) ρ1) x ρ1
theorem w6 {Q:Bool->Ev->Prop}{b:B}{ρ:Ev}{K:Frag}{A:AS}{H H':Hp}{v:V}(h:isB Q b ρ)(r:iB K A H H' b v): ∃k,v= .bl k/\Q k ρ:=by
 unfold isB at h;split at h
 ·rename_i k'
  have r':Rep K A H' (.bl k') v:=r;exact⟨k',by simpa only[Rep]using r',h⟩
 ·exact h.elim
theorem eZ {K:Frag}{A:AS}{H H':Hp}{k:Bool}:iB K A H H' (.pu (.bl k)) (.bl k):=by
 show Rep K A H' (.bl k) (.bl k)
 simp only[Rep]
theorem yR {op}(h:PU X a ta):PU X (.BoolOp op [a] pos) ta:=pe_one h
theorem uS (ha:PU X a ta)(hb:PU X (.BoolOp .And (b::mV) pos) tb):PU X (.BoolOp .And (a::b::mV) pos) (sZ ta tb):=
 dP (pe_and ha hb) λσ H Q ⟨C,ρ,Q0,I,h,k⟩=>⟨C,ρ,_,I,h,λx ρ1 v H1 q f s r=>by
  obtain⟨c,rfl,q⟩:=w6 q r;refine⟨c,rfl,?_⟩;cases c with
  | true=>
   rw[if_pos rfl]at q⊢;exact⟨C,ρ1,Q0,(I.frz f).same s,q,λb ρ2 v H2 q2 f2 s2 r2=>k b ρ2 v H2 q2 (f.trans f2) (s.trans s2) (r2.from s)⟩
  | false=>
   rw[if_neg Bool.false_ne_true]at q⊢;exact k _ _ _ _ q f s eZ⟩
theorem pu_not (ha:PU X a ta):PU X (.UnaryOp .Not a pos) (yQ ta):=
 dP (pe_not ha) λσ H Q ⟨C,ρ,Q0,I,h,k⟩=>⟨C,ρ,_,I,h,λx ρ1 v H1 q f s r=>by
  obtain⟨c,rfl,q⟩:=w6 q r;exact⟨c,rfl,k _ _ _ _ q f s eZ⟩⟩
def uIf (t:UT)(ta tb:UE):UE:=λρ Q=>t ρ λc ρ1=>if c=true then ta ρ1 Q else tb ρ1 Q
def aR:UA:=λρ Q=>Q [] ρ
def aD (t:UE)(u:UA):UA:=λρ Q=>t ρ λx ρ1=>u ρ1 λxs ρ2=>Q (x.d::xs) ρ2
theorem aG:PUA X [] aR:=a88 uJ λσ H Q ⟨C,ρ,Q0,I,h,k⟩=>k [] ρ [] H h (.refl _) (.refl _) .nil
theorem aA {t:UA}(ha:PU X e ta)(hr:PUA X es t)(hs:starEach (e::es) X.env=(false,eval e X.env)::starEach es X.env:=by rfl):PUA X (e::es) (aD ta t):=
 a88 (rQ ha hr hs) λσ H Q ⟨C,ρ,Q0,I,h,k⟩=>⟨C,ρ,_,I,h,λx ρ1 v H1 q1 f1 s1 r1=>by
  have I1:=(I.frz f1).same s1;refine⟨C,ρ1,_,I1,q1,λxs ρ2 vs H2 q2 f2 s2 r2=> ?_⟩
  exact k _ ρ2 _ H2 q2 (f1.trans f2) (s1.trans s2) (.cons ((r1.rep λa z=>I.avF f1 z).mono (.sub s2 λa=>f2.av)) r2)⟩
def t4 (t:UA):UE:=λρ Q=>t ρ λl ρ1=>l.length<=sizeLine/\Q (.pu (.tup l)) ρ1
def eS (t:UA):UE:=λρ Q=>t ρ λl ρ1=>l.length<=sizeLine/\Q (.ow l) ρ1
theorem bL {H:Hp}{p:Addr}(h:H p=none)(o:HO):cF H (upd H p o):=λb u q=>by rw[bF (cD q h)];exact q
theorem cM {K:Frag}{A:AS}{H:Hp}{p:Addr}{l:List D}{vs:List V}(hA: ∀a,A a->H a≠none)(n:H p=none)(r:aS K A H l vs):Rep K A (upd H p (.tup vs)) (.tup l) (.ref p):=by
 simp only[Rep];exact⟨p,vs,rfl,.inl ⟨λz=>hA p z n,.inl fM⟩,r.mono (.same (bL n _))⟩
theorem cY {K:Frag}{A:AS}{H H0:Hp}{p:Addr}{l:List D}{vs:List V}(s:cF H0 H)(n:H p=none)(r:aS K A H l vs):iB K A H0 (upd H p (.lst vs)) (.ow l) (.ref p):=
 ⟨p,vs,rfl,s.free n,fM,r.mono (.fresh (bL n _) n)⟩
theorem mX {t:UA}{x1}(h:PUA X es t):PU X (.Tuple es x1 pos) (t4 t):=
 dP (pe_tup h) λσ H Q ⟨C,ρ,Q0,I,h,k⟩=>⟨C,ρ,_,I,h,λl ρ1 vs H1 q f s r=>by
  obtain⟨hz,q⟩:=q;refine⟨by rw[<-r.length];exact hz,λp n=> ?_⟩
  have I1:=(I.frz f).same s;exact k _ ρ1 _ _ q f (s.trans (bL n _)) (cM (λa z=>I1.avSome z) n r)⟩
theorem cB {t:UA}(h:PUA X es t):PU X (.List es pos) (eS t):=
 dP (pe_lst h) λσ H Q ⟨C,ρ,Q0,I,h,k⟩=>⟨C,ρ,_,I,h,λl ρ1 vs H1 q f s r=>by
  obtain⟨hz,q⟩:=q;refine⟨by rw[<-r.length];exact hz,λp n=> ?_⟩
  exact k _ ρ1 _ _ q f (s.trans (bL n _)) (cY s n r)⟩
abbrev Φ:=List D->(B->Prop)->Prop
def spP (K:Frag)(φ:Φ):Sp:=λvs H Q _=> ∃A ds Q0,(∀a,A a->H a≠none)/\aS K A H ds vs/\φ ds Q0/\ ∀b v H',Q0 b->cF H H'->iB K A H H' b v->Q v H'
def b9 (φ:Φ)(t:UA):UE:=λρ Q=>t ρ λds ρ1=>φ ds λb=>Q b ρ1
theorem lCall {φ:Φ}{t:UA}{E:XK}(σ:L2.St)(H:Hp)(Q:VK)(h:lE X.K (b9 φ t) σ H Q):a86 (spP X.K φ) [] E (lA X.K t) σ H Q:=by
 obtain⟨C,ρ,Q0,I,h,k⟩:=h;refine⟨C,ρ,_,I,h,λds ρ1 vs H1 q f s r=> ?_⟩
 have I1:=(I.frz f).same s;show spP X.K φ (vs++[]) H1 Q E;rw[append_nil];exact⟨Av C ρ1 σ,ds,_,λa z=>I1.avSome z,r,q,λb v H' q' s' r'=>k b ρ1 v H' q' f (s.trans s') (r'.from s)⟩
theorem a47 {CX:CXT}{k:Nat}{f:Addr}{fd:FuncData}{ps:List Str}{φ:Φ}{E:XK}{x:Str}{p:Pos}{t:UA}(F:jU X.prog X.w X.K X.mg X.base CX k f fd ps (spP X.K φ))(hr:cT k X.A)(hg:Gl X x)(hm:X.mg x=some (.ref f))
  (hk:keepIn X.K (.ref f)=true) (hb:Binds X.K fd ps []) (hx:uL CX X E) (ha:PUA X (e::es) t) (hdb:(x==("__debug__":Str))=false:=by decide) (he:starEach (e::es) X.env=(false,eval e X.env)::starEach es X.env:=by rfl)
  (hpl:(backTo pos (starEach es X.env)).any (·.1)=false:=by rfl):PU X (.Call (.Name x p) (e::es) [] pos) (b9 φ t):=
 dP (a40 F hr hg hm hk hb .nil hx ha hdb he hpl) lCall
def nM (X:Cx)(f:Value)(g:List D->(B->Prop)->Prop):Prop:=
 ∀(A:AS) (H:Hp) (ds:List D) (vs:List V) (Q0:B->Prop) (Q:VK),(∀a,A a->H a≠none)->aS X.K A H ds vs->g ds Q0->
  (∀b v' H',Q0 b->cF H H'->iB X.K A H H' b v'->Q v' H')-> ∃r,fV X f r/\r vs H Q
theorem callAny {f:Value}:fV X f (λxs H Q=> ∃r,fV X f r/\r xs H Q):=λpins s σ H xs us Q I rx ⟨r,hr,q⟩=>hr pins s σ H xs us Q I rx q
theorem lCB {f:Value}{g:List D->(B->Prop)->Prop}{t:UA}(hc:nM X f g)(σ:L2.St)(H:Hp)(Q:VK)(h:lE X.K (b9 g t) σ H Q):tCB (λxs H Q=> ∃r,fV X f r/\r xs H Q) (lA X.K t) σ H Q:=by
 obtain⟨C,ρ,Q0,I,h,k⟩:=h;refine⟨C,ρ,_,I,h,λds ρ1 vs H1 q f s r=> ?_⟩
 have I1:=(I.frz f).same s;exact hc (Av C ρ1 σ) H1 ds vs _ Q (λa z=>I1.avSome z) r q λb v H' q' s' r'=>k b ρ1 v H' q' f (s.trans s') (r'.from s)
theorem iJ {id:String}{g:List D->(B->Prop)->Prop}{x:Str}{p:Pos}{t:UA}(hc:nM X (.builtin id) g)(hg:Gl X x)(hm:X.mg x=none)(hv:bootBuiltins x=some (.builtin id))(ha:PUA X (e::es) t)(hn:x≠"__name__":=by decide)(hdb:(x==("__debug__":Str))=false:=by decide)
  (he:starEach (e::es) X.env=(false,eval e X.env)::starEach es X.env:=by rfl) (hpl:(backTo pos (starEach es X.env)).any (·.1)=false:=by rfl):PU X (.Call (.Name x p) (e::es) [] pos) (b9 g t):=
 dP (sW callAny hg hm hv ha hn hdb he hpl) (lCB hc)
theorem bV {T:String}{g:List D->(B->Prop)->Prop}{x:Str}{p:Pos}{t:UA}(hc:nM X (.type T) g)(hg:Gl X x)(hm:X.mg x=none)(hv:bootBuiltins x=some (.type T))(ha:PUA X (e::es) t)(hn:x≠"__name__":=by decide)(hdb:(x==("__debug__":Str))=false:=by decide)
  (he:starEach (e::es) X.env=(false,eval e X.env)::starEach es X.env:=by rfl) (hpl:(backTo pos (starEach es X.env)).any (·.1)=false:=by rfl):PU X (.Call (.Name x p) (e::es) [] pos) (b9 g t):=
 dP (wY callAny hg hm hv ha hn hdb he hpl) (lCB hc)
end
structure UD where
 nx:Ev->Prop
 rt:B->Prop
 bk:Ev->Prop:=λ_=>False
 ct:Ev->Prop:=λ_=>False
abbrev US:=UD->Ev->Prop
structure DOk (K:Frag)(C:C0)(D0:UD)(D:uD):Prop where
 nx: ∀ρ σ H,D0.nx ρ->EOk K C ρ σ H->D.nx σ H
 rt: ∀b v H,D0.rt b->cF C.H0 H->iB K C.A0 C.H0 H b v->D.rt v H
 bk: ∀ρ σ H,D0.bk ρ->EOk K C ρ σ H->D.bk σ H
 ct: ∀ρ σ H,D0.ct ρ->EOk K C ρ σ H->D.ct σ H
def lS (K:Frag)(t:US):TS:=λD σ H=> ∃C ρ D0,EOk K C ρ σ H/\t D0 ρ/\DOk K C D0 D
def PUS (X:Cx)(st:Stmt)(t:US):Prop:=PS X st (lS X.K t)
def eT (X:Cx)(sts:List Stmt)(t:US):Prop:=PSs X sts (lS X.K t)
theorem hG {X:Cx}{st:Stmt}{t t':TS}(h:PS X st t)(i: ∀D σ H,t' D σ H->t D σ H):PS X st t':=λpins s σ H D I q=>h pins s σ H D I (i D σ H q)
theorem mY {X:Cx}{st:List Stmt}{t t':TS}(h:PSs X st t)(i: ∀D σ H,t' D σ H->t D σ H):PSs X st t':=λpins s σ H D I q=>h pins s σ H D I (i D σ H q)
section
variable {X:Cx}{st:Stmt}{sts:List Stmt}{e:Expr}{pos:Pos}{t u:US}{te:UE}{tc:UT}{K:Frag}
def fW:US:=λD ρ=>D.nx ρ
def aT (t u:US):US:=λD ρ=>t {D with nx:=u D} ρ
theorem gG:eT X [] fW:=mY vP λD σ H ⟨C,ρ,D0,I,h,k⟩=>k.nx ρ σ H h I
theorem aJ (h1:PUS X st t)(h2:eT X sts u):eT X (st::sts) (aT t u):=
 mY (lY h1 h2) λD σ H ⟨C,ρ,D0,I,h,k⟩=>⟨C,ρ,{D0 with nx:=u D0},I,h,⟨λρ' σ' H' q I'=>⟨C,ρ',D0,I',q,k⟩,k.rt,k.bk,k.ct⟩⟩
theorem aX (h1:PUS X st t):eT X [st] t:=vQ h1
def gX (t:UE):US:=λD ρ=>t ρ λb _=>D.rt b
theorem iB.back {A A':AS}{H0 H H':Hp}(s:cF H0 H)(h: ∀a,A' a->A a): ∀{b:B} {v:V},iB K A H H' b v->iB K A' H0 H' b v
 | .pu _,_,r=>Rep.mono (.sub (.refl _) h) r
 | .ow _,_,⟨a,vs,e,n,h1,r⟩=>⟨a,vs,e,s.free n,h1,r.mono (λb o nb q=>⟨λz=>nb (z.imp (h b) id),q⟩)⟩
 | .bo _,_,r=>r.elim
theorem dF (he:PU X e te):PUS X (.Return (some e) pos) (gX te):=
 hG (xZ he) λD σ H ⟨C,ρ,D0,I,h,k⟩=>⟨C,ρ,_,I,h,λb ρ' v H' q f s r=>k.rt b v H' q (I.ext.trans s) (r.back I.ext λa z=> .inl z)⟩
def uRetN:US:=λD _=>D.rt (.pu .non)
def nN (i:Nat):US:=λD ρ=>match ρ[i]? with
 | some (some (.pu d))=>D.rt (.pu d)
 | some (some (.ow l))=>D.rt (.ow l)
 | _=>False
theorem o0 (i:Nat){x:Str}{p:Pos}(h:PE X (.Name x p) (pZ i)):PUS X (.Return (some (.Name x p)) pos) (nN i):=
 hG (xZ h) λD σ H ⟨C,ρ,D0,I,h,k⟩=>by
  unfold nN at h;split at h
  ·rename_i d e
   obtain⟨v,h1,h2⟩:=I.pu i d e;exact⟨v,h1,k.rt _ v H h I.ext (Rep.mono (.sub (.refl _) λa z=> .inl z) h2)⟩
  ·rename_i l e
   obtain⟨a,vs,h1,h2,h3,h4⟩:=I.ow i l e;refine⟨_,h1,k.rt _ _ H h I.ext ⟨a,vs,rfl,h3,h2,h4.mono (λb o nb q=>⟨λz=>nb (z.elim .inl λz=> .inr ?_),q⟩)⟩⟩
   subst z;exact⟨i,l,e,h1⟩
  ·exact h.elim
def kU (c:UT)(t u:US):US:=λD ρ=>c ρ λb ρ1=>if b=true then t D ρ1 else u D ρ1
theorem iK {c:Expr}{a b:List Stmt}(hc:PUT X c tc)(ha:eT X a t)(hb:eT X b u):PUS X (.If c a b pos) (kU tc t u):=
 hG (a85 hc ha hb) λD σ H ⟨C,ρ,D0,I,h,k⟩=>⟨C,ρ,_,I,h,λc ρ1 H1 q f s=>by
  have I1:=(I.frz f).same s;cases c with
  | true=>
   dsimp only at q⊢;rw[if_pos rfl]at q⊢;exact⟨C,ρ1,D0,I1,q,k⟩
  | false=>
   dsimp only at q⊢;rw[if_neg Bool.false_ne_true]at q⊢;exact⟨C,ρ1,D0,I1,q,k⟩⟩
abbrev UG:=B->Ev->(Ev->Prop)->Prop
def lG (K:Frag)(T:List Nat)(g:UG):TG:=λv σ H Q=> ∃C ρ b H00 Q0,EOk K C ρ σ H00/\cF H00 H/\iB K (Av C ρ σ) H00 H b v/\g b ρ Q0/\ ∀ρ' σ' H',Q0 ρ'->EOk K C ρ' σ' H'->(∀j:Nat,j ∉ T->σ'[j]? =σ[j]?)->Q σ' H'
def PUG (X:Cx)(e:Expr)(T:List Nat)(g:UG):Prop:=PG X e (lG X.K T g)
theorem a89 {t t':TG}(h:PG X e t)(i: ∀v σ H Q,t' v σ H Q->t v σ H Q):PG X e t':=λpins s σ H v u Q I r q=>h pins s σ H v u Q I r (i v σ H Q q)
def cA (i:Nat):UG:=λb ρ Q=>i<ρ.length/\Q (ρ.set i (some b))
theorem bI (i:Nat)(h:PG X e (kX i)):PUG X e [i] (cA i):=a89 h λv σ H Q ⟨C,ρ,b,H00,Q0,I,s,r,⟨hi,q⟩,k⟩=>
 k _ _ _ q (I.store s r (by rw[<-I.len];exact hi)) λj hj=>get_set_ne λz=>hj (by simp[z])
abbrev UGs:=List D->Ev->(Ev->Prop)->Prop
def lGs (K:Frag)(T:List Nat)(g:UGs):TGs:=λvs σ H Q=> ∃C ρ ds Q0,EOk K C ρ σ H/\aS K (Av C ρ σ) H ds vs/\g ds ρ Q0/\ ∀ρ' σ' H',Q0 ρ'->EOk K C ρ' σ' H'->(∀j:Nat,j ∉ T->σ'[j]? =σ[j]?)->Q σ' H'
def a48 (X:Cx)(es:List Expr)(T:List Nat)(g:UGs):Prop:=PGs X es (lGs X.K T g)
def gH:UGs:=λds ρ Q=>ds=[]/\Q ρ
theorem Av.store_pu {C:C0}{ρ:Ev}{σ:L2.St}{i:Nat}{d:D}{v:V}{a:Addr}(h:Av C (ρ.set i (some (.pu d))) (σ.set i (some v)) a):Av C ρ σ a:=by
 rcases h with z| ⟨j,l,h1,h2⟩
 ·exact .inl z
 ·rcases aI h1 with⟨rfl,h3,_⟩| ⟨ne,h3⟩
  ·cases h3
  ·rw[get_set_ne ne]at h2;exact .inr ⟨j,l,h3,h2⟩
theorem yS {es:List Expr}{t t':TGs}(h:PGs X es t)(i: ∀v σ H Q,t' v σ H Q->t v σ H Q):PGs X es t':=λpins s σ H v u Q I r q=>h pins s σ H v u Q I r (i v σ H Q q)
theorem fZ:a48 X [] [] gH:=yS a35 λvs σ H Q ⟨C,ρ,ds,Q0,I,r,⟨e,q⟩,k⟩=>by
 subst e;exact⟨r.unnil,k ρ σ H q I λ_ _=>rfl⟩
def bR (i:Nat)(u:UGs):UGs:=λds ρ Q=>match ds with
 | d::r=>i<ρ.length/\u r (ρ.set i (some (.pu d))) Q
 | []=>False
theorem bO {es:List Expr}{u:UGs}{T:List Nat}(i:Nat)(h1:PG X e (kX i))(h2:a48 X es T u)
  (hs:(assignEach (e::es) X.env).map (·.2)=assign e X.env::(assignEach es X.env).map (·.2):=by rfl):a48 X (e::es) (i::T) (bR i u):=
 yS (y2 h1 h2 hs) λvs σ H Q ⟨C,ρ,ds,Q0,I,r,g,k⟩=>by
  cases ds with
  | nil=>exact(show False from g).elim
  | cons d dr=>
   obtain⟨hi,g⟩:i<ρ.length/\u dr (ρ.set i (some (.pu d))) Q0:=g;obtain⟨v,vr,rfl,rv,rr⟩:=r.uncons;have I1:EOk X.K C (ρ.set i (some (.pu d))) (σ.set i (some v)) H:=I.store (b:= .pu d) (.refl _) rv (by rw[<-I.len];exact hi)
   exact⟨v,vr,rfl,C,_,dr,Q0,I1,rr.mono (.sub (.refl _) λa z=>Av.store_pu z),g,λρ' σ' H' q I' hT=>k ρ' σ' H' q I' λj hj=>(hT j λz=>hj (mem_cons_of_mem _ z)).trans (get_set_ne λz=>hj (by simp[z]))⟩
def gI (u:UGs):UG:=λb ρ Q=>match b.d with
 | .tup ds=>u ds ρ Q
 | _=>False
theorem j9 {es:List Expr}{u:UGs}{T:List Nat}{n k:Nat}(hc:X.calm=true)(h:a48 X es T u)(hu: ∀ds ρ Q,u ds ρ Q->ds.length=n)
  (hn:(assignEach es X.env).length=n:=by rfl) (hst:(assignEach es X.env).findIdx? (·.1)=none:=by rfl):PUG X (.Tuple es k pos) T (gI u):=
 a89 (pg_tup hc h hn hst) λv σ H Q ⟨C,ρ,b,H00,Q0,I,s,r,g,k⟩=>by
  have R:=r.rep λa z=>I.avSome z
  unfold gI at g;split at g
  ·rename_i ds e
   rw[e]at R;simp only[Rep]at R;obtain⟨a,vs,rfl,c,rs⟩:=R;exact⟨a,vs,rfl,c.imp And.right id,by rw[<-rs.length];exact hu _ _ _ g,C,ρ,ds,Q0,I.same s,rs,g,k⟩
  ·exact g.elim
def a49 (t:UE)(g:UG):US:=λD ρ=>t ρ λb ρ1=>g b ρ1 D.nx
theorem yT {tg:Expr}{g:UG}{T:List Nat}(he:PU X e te)(hg:PUG X tg T g)(hs:swapsWithSole [tg] e pos.line X.env=pure false:=by rfl)(hw:swappedStores [tg] e X.env=pure none:=by rfl)
  (h1:(assignEach [tg] X.env).map (·.2)=[assign tg X.env]:=by rfl):PUS X (.Assign [tg] e pos) (a49 te g):=
 hG (rO he hg hs hw h1) λD σ H ⟨C,ρ,D0,I,h,k⟩=>⟨C,ρ,_,I,h,λb ρ1 v H1 q f s r=>⟨C,ρ1,b,H,D0.nx,I.frz f,s,r,q,λρ' σ' H' q I' _=>k.nx ρ' σ' H' q I'⟩⟩
def bJ (i:Nat)(t:UE):US:=λD ρ=>t ρ λb ρ1=>D.nx (ρ1.set i (some b))
theorem aW {x:Str}{pos':Pos}(i:Nat)(hN:X.N.Nodup)(hi:X.N[i]? =some x)(hx:Loc X.env.scope x)(he:PU X e te)(hs:swapsWith e (some (.Name x pos')) pos.line X.env=pure false:=by rfl)(hf:X.fn x=true\/X.env.scope.names.lookup x=some .local:=by first|exact .inl rfl|exact .inr rfl|assumption)
  (hl: ∀pins σ H s,Inv X pins σ H s->i<σ.length:=by intro pins σ H s I;rw[I.len];decide):PUS X (.Assign [.Name x pos'] e pos) (bJ i te):=by
 intro pins s σ H D I q;refine y3 hN hi hx he hs hf pins s σ H D I ?_;obtain⟨C,ρ,D0,J,h,k⟩:=q;exact⟨C,ρ,_,J,h,λb ρ1 v H1 q f s1 r=>k.nx _ _ _ q ((J.frz f).store s1 r (hl pins σ H s I))⟩
def yU (i j:Nat)(ta:UA):US:=λD ρ=>ta ρ λds ρ1=>match ds with
 | [d,d']=>D.nx ((ρ1.set i (some (.pu d))).set j (some (.pu d')))
 | _=>False
theorem uT {x y:Str}{a b:Expr}{ta:UA}{px py pt:Pos}{kt k2 pt2}(i j:Nat)(hc:X.calm=true)(hN:X.N.Nodup)(hi:X.N[i]? =some x)(hj:X.N[j]? =some y)(hij:i≠j)
  (hx:X.env.scope.names.lookup x=some .local) (hy:X.env.scope.names.lookup y=some .local) (ha:PUA X [a,b] ta)
  (hw:swappedStores [.Tuple [.Name x px,.Name y py] kt pt] (.Tuple [a,b] k2 pt2) X.env=pure (some [x,y]))
  (hs:swapsWithSole [.Tuple [.Name x px,.Name y py] kt pt] (.Tuple [a,b] k2 pt2) pos.line X.env=pure false:=by rfl)
  (hl: ∀pins σ H s,Inv X pins σ H s->i<σ.length/\j<σ.length:=by intro pins σ H s I;rw[I.len];decide) :
  PUS X (.Assign [.Tuple [.Name x px,.Name y py] kt pt] (.Tuple [a,b] k2 pt2) pos) (yU i j ta):=by
 intro pins s σ H D I q;refine ps_par hc hN hi hj hij hx hy ha hw hs pins s σ H D I ?_;obtain⟨C,ρ,D0,J,h,k⟩:=q;obtain⟨l1,l2⟩:=hl pins σ H s I;refine⟨C,ρ,_,J,h,λds ρ1 vs H1 q f s1 r=> ?_⟩
 split at q
 ·rename_i d d'
  obtain⟨v,vr,rfl,rv,rr⟩:=r.uncons;obtain⟨w,wr,rfl,rw',rr'⟩:=rr.uncons;have e:=rr'.unnil;subst e;have J1:EOk X.K C (ρ1.set i (some (.pu d))) (σ.set i (some v)) H1:=((J.frz f).same s1).store (b:= .pu d) (.refl _) rv l1
  have J2:EOk X.K C ((ρ1.set i (some (.pu d))).set j (some (.pu d'))) ((σ.set i (some v)).set j (some w)) H1:=J1.store (b:= .pu d') (.refl _) (Rep.mono (.sub (.refl _) λa z=>Av.store_pu z) rw') (by rw[length_set];exact l2)
  exact⟨v,w,rfl,k.nx _ _ _ q J2⟩
 ·exact q.elim
def uAug (i:Nat)(g:D->D->(B->Prop)->Prop)(te:UE):US:=λD ρ=>vZ ρ i λx ρ0=>te ρ0 λy ρ1=>g x.d y.d λb=>D.nx (ρ1.set i (some b))
def uU (c:UT)(tb:US):US:=λD ρ=> ∃W:Nat->Ev->Prop,(∃m,W m ρ)/\ ∀m ρ,W m ρ->
 c ρ λb ρ1=>if b=true then tb {D with nx:=λρ'=> ∃m',m'<m/\W m' ρ',ct:=λρ'=> ∃m',m'<m/\W m' ρ',bk:=D.nx} ρ1 else D.nx ρ1
theorem t5 {c:Expr}{body:List Stmt}{tb:US}(hp:PassesOwn (model X.prog X.w) X.A X.env X.xe)(hc:PUT X c tc)(hb:eT X body tb):PUS X (.While c body [] pos) (uU tc tb):=
 hG (yA hp hc hb) λD σ H ⟨C,ρ,D0,I,⟨W,⟨m0,w0⟩,turn⟩,k⟩=>by
  refine⟨λm σ H=> ∃ρ,EOk X.K C ρ σ H/\W m ρ,⟨m0,ρ,I,w0⟩,?_⟩
  rintro m σ H ⟨ρ,I,w⟩;refine⟨C,ρ,_,I,turn m ρ w,λb ρ1 H1 q f s=> ?_⟩
  have I1:=(I.frz f).same s;cases b with
  | true=>
   dsimp only at q⊢;rw[if_pos rfl]at q⊢;refine⟨λσ' H'=> ∃m',m'<m/\ ∃ρ',EOk X.K C ρ' σ' H'/\W m' ρ',λσ' H' z=>z,C,ρ1,_,I1,q,⟨?_,k.rt,k.nx,?_⟩⟩
   ·rintro ρ' σ' H' ⟨m',hm,w'⟩ I';exact⟨m',hm,ρ',I',w'⟩
   ·rintro ρ' σ' H' ⟨m',hm,w'⟩ I';exact⟨m',hm,ρ',I',w'⟩
  | false=>
   dsimp only at q⊢;rw[if_neg Bool.false_ne_true]at q⊢;exact k.nx _ _ _ q I1
end
abbrev UI:=Ev->(Nat->(Nat->D)->Ev->Prop)->Prop
structure uW (K:Frag)(A:AS)(H:Hp)(J:It)(n:Nat)(it:Nat->D):Prop where
 go: ∀A' H' i,e6 A H A' H'->i<n->J.go i H'
 yld: ∀A' H' i x H'',e6 A H A' H'->(∀a,A' a->H' a≠none)->i<n->J.yld i H' x H''->cF H' H''/\Rep K A' H'' (it i) x
 stop: ∀A' H',e6 A H A' H'->J.stop n H'
def lI (K:Frag)(t:UI):TI:=λσ H R=> ∃C ρ Q0,EOk K C ρ σ H/\t ρ Q0/\
 ∀n it ρ' J H',Q0 n it ρ'->Frz ρ ρ'->cF H H'->uW K (Av C ρ' σ) H' J n it->R J H'
def PUI (X:Cx)(tg iter:Expr)(t:UI):Prop:=PI X tg iter (lI X.K t)
def gY (ui:UI)(g:UG)(tb:US):US:=λD ρ=>ui ρ λn it ρ1=> ∃Pv:Nat->Ev->Prop,Pv 0 ρ1/\
 (∀i ρ,i<n->Pv i ρ->g (.pu (it i)) ρ λρ2=>tb {D with nx:=Pv (i+1),ct:=Pv (i+1),bk:=D.nx} ρ2)/\ ∀ρ,Pv n ρ->D.nx ρ
noncomputable def C0.rz (C:C0) (ρ:Ev) (σ:L2.St) (H:Hp):C0:=C.raise ρ σ H λ_=>Classical.propDecidable _
section
variable {X:Cx}{e:Expr}{pos:Pos}{te:UE}{K:Frag}{C:C0}{ρ ρ':Ev}{σ σ':L2.St}{H H':Hp}
theorem EOk.rz (I:EOk K C ρ σ H):EOk K (C.rz ρ σ H) ρ σ H/\cF C.H0 (C.rz ρ σ H).H0:=I.raise
theorem a50 (I':EOk K (C.rz ρ σ H) ρ' σ' H'):e6 (Av C ρ σ) H (Av (C.rz ρ σ H) ρ' σ') H':=λb o nb e=>by
 have e0:(C.rz ρ σ H).H0 b=some o:=by
  show @ite _ (Own ρ σ b) (Classical.propDecidable _) none (H b)=some o
  rw[if_neg (λz=>nb (.inr z))]
  exact e
 refine⟨?_,I'.ext b o e0⟩
 rintro(z| ⟨i,l,h1,h2⟩)
 ·exact nb (.inl z)
 ·obtain⟨a,vs,h3,h4,h5,_⟩:=I'.ow i l h1;rw[h2]at h3;cases h3;rw[e0]at h5;cases h5
theorem dR {tg iter:Expr}{body:List Stmt}{ui:UI}{g:UG}{T:List Nat}{tb:US}(hp:PassesOwn (model X.prog X.w) X.A X.env X.xe)(hc:X.calm=true)(hi:PUI X tg iter ui)(hg:PUG X tg T g)(hb:eT X body tb)
  (hs: ∀x,foldedSetIterable iter X.env x=pure x:=by intro _;rfl):PUS X (.For tg iter body [] pos) (gY ui g tb):=
 hG (yC hp hc hi hg hb hs) λD σ H ⟨C,ρ,D0,I,h,k⟩=>⟨C,ρ,_,I,h,λn it ρ1 J H1 q f s ok=>by
  obtain⟨Pv,p0,turn,fin⟩:=q;have I1:=(I.frz f).same s;obtain⟨Ir,sub⟩:=I1.rz;refine⟨λi m σ' H'=>m=n-i/\i<=n/\ ∃ρ',EOk X.K (C.rz ρ1 σ H1) ρ' σ' H'/\Pv i ρ',⟨n,rfl,zero_le _,ρ1,Ir,p0⟩,?_⟩
  rintro i m σ' H' ⟨rfl,hi,ρ',I',p'⟩;have P:=a50 I';have lo: ∀ρ2 σ2 H2,EOk X.K (C.rz ρ1 σ H1) ρ2 σ2 H2->EOk X.K C ρ2 σ2 H2:=λρ2 σ2 H2 J2=>J2.lower sub rfl I.a0
  by_cases hlt:i<n
  ·refine .inr ⟨ok.go _ _ i P hlt,λσ2 H2=> ∃ρ2,EOk X.K (C.rz ρ1 σ H1) ρ2 σ2 H2/\Pv (i+1) ρ2,λσ2 H2 z=>⟨n-(i+1),by omega,rfl,hlt,z⟩,λx H2 y=> ?_⟩
   obtain⟨s2,r2⟩:=ok.yld _ _ i x H2 P (λa z=>I'.avSome z) hlt y
   refine⟨C.rz ρ1 σ H1,ρ',.pu (it i),H',_,I',s2,r2,turn i ρ' hlt p',λρ2 σ2 H3 q I3 _=>⟨C.rz ρ1 σ H1,ρ2,_,I3,q,⟨?_,?_,?_,?_⟩⟩⟩
   ·exact λρ3 σ3 H4 q I4=>⟨ρ3,I4,q⟩
   ·exact λb v H4 q s4 r4=>k.rt b v H4 q (sub.trans s4) (r4.from sub)
   ·exact λρ3 σ3 H4 q I4=>k.nx ρ3 σ3 H4 q (lo _ _ _ I4)
   ·exact λρ3 σ3 H4 q I4=>⟨ρ3,I4,q⟩
  ·have e:i=n:=by omega
   subst e;exact .inl ⟨ok.stop _ _ P,k.nx _ _ _ (fin ρ' p') (lo _ _ _ I')⟩⟩
def hJ:D->Option (List D)
 | .tup l=>some l
 | .lst l=>some l
 | .rol l=>some l
 | _=>none
def jO (t:UE):UI:=λρ Q=>t ρ λb ρ1=>match hJ b.d with
 | some l=>Q l.length (λi=>l.getD i .non) ρ1
 | none=>False
theorem pi_any {l:Expr}{tl:TE}{tg:Expr}(hl:PE X l tl):PI X tg l (λσ H R=>tl σ H λx H1=> ∃a,x= .ref a/\((∃xs,SqL X.K H1 a xs/\R (Itl X.K a) H1)\/ ∃xs,SqT X.K H1 a xs/\R (Itt X.K a) H1)):=by
 intro pins s σ H R I h;refine thn (hl pins s σ H _ I h) λv s1 ⟨x,H1,I1,r1,q1⟩=> ?_
 obtain⟨a,e,q⟩:=q1;subst e;cases r1;rcases q with⟨xs,hq,q⟩| ⟨xs,hq,q⟩
 ·obtain⟨its,rv,p,hz⟩:=I1.list hq;refine wpAny_pyIter_list p.isList ?_;refine⟨s1.heap.objs.size,[s1.heap.objs.size],_,_,H1,rfl,I1.kept (t':=s1.toks) λb o e=>get?_push_of_some _ e,wV a _,⟨_,get?_push_size _ rfl,rfl,rfl⟩,λb hb=> ?_,q⟩
  have e:b=s1.heap.objs.size:=by simpa using hb
  subst e;exact I1.fpOk (le_refl _) (I1.hok.fresh (le_refl _))
 ·obtain⟨its,rv,p,hz⟩:=I1.tuple hq;refine wpAny_pyIter_tuple (show s1.heap.IsTuple a its.toArray from p) ?_
  refine⟨s1.heap.objs.size,[s1.heap.objs.size],_,_,H1,rfl,I1.kept (t':=s1.toks) λb o e=>get?_push_of_some _ e,uG a _,⟨_,get?_push_size _ rfl,rfl,rfl⟩,λb hb=> ?_,q⟩
  have e:b=s1.heap.objs.size:=by simpa using hb
  subst e;exact I1.fpOk (le_refl _) (I1.hok.fresh (le_refl _))
theorem qQ {tg iter:Expr}{t t':TI}(h:PI X tg iter t)(i: ∀σ H R,t' σ H R->t σ H R):PI X tg iter t':=λpins s σ H R I q=>h pins s σ H R I (i σ H R q)
theorem qR {A:AS}{a:Addr}{vs:List V}{l:List D}(c:(¬A a/\Rd H a (.lst vs))\/KL K a vs)(r:aS K A H l vs):uW K A H (Itl K a) l.length (λi=>l.getD i .non):=by
 have sq: ∀A' H',e6 A H A' H'->SqL K H' a vs:=λA' H' P=>by
  rcases c with⟨n,c⟩|c
  ·exact .inl (Rd.pres P n c).2
  ·exact .inr c
 have get: ∀i,i<l.length-> ∃x,vs[i]? =some x/\Rep K A H (l.getD i .non) x:=λi hi=>r.get (by rw[getD_eq_getElem?_getD,getElem?_eq_getElem hi];rfl)
 refine⟨λA' H' i P hi=> ?_,λA' H' i x H'' P hA hi y=> ?_,λA' H' P=>⟨vs,sq _ _ P,by rw[r.length];exact le_refl _⟩⟩
 ·obtain⟨x,e,_⟩:=get i hi;exact⟨vs,x,sq _ _ P,e⟩
 ·obtain⟨x',e,r'⟩:=get i hi;obtain⟨rfl,y⟩:=y;have:=y vs (sq _ _ P);rw[e]at this;cases this;exact⟨.refl _,r'.mono P⟩
theorem yV {A:AS}{a:Addr}{vs:List V}{l:List D}(c:(¬A a/\Rd H a (.tup vs))\/KT K a vs)(r:aS K A H l vs):uW K A H (Itt K a) l.length (λi=>l.getD i .non):=by
 have sq: ∀A' H',e6 A H A' H'->SqT K H' a vs:=λA' H' P=>by
  rcases c with⟨n,c⟩|c
  ·exact .inl (Rd.pres P n c).2
  ·exact .inr c
 have get: ∀i,i<l.length-> ∃x,vs[i]? =some x/\Rep K A H (l.getD i .non) x:=λi hi=>r.get (by rw[getD_eq_getElem?_getD,getElem?_eq_getElem hi];rfl)
 refine⟨λA' H' i P hi=> ?_,λA' H' i x H'' P hA hi y=> ?_,λA' H' P=>⟨vs,sq _ _ P,by rw[r.length];exact le_refl _⟩⟩
 ·obtain⟨x,e,_⟩:=get i hi;exact⟨vs,x,sq _ _ P,e⟩
 ·obtain⟨x',e,r'⟩:=get i hi;obtain⟨rfl,y⟩:=y;have:=y vs (sq _ _ P);rw[e]at this;cases this;exact⟨.refl _,r'.mono P⟩
theorem jA {tg:Expr}(h:PU X e te):PUI X tg e (jO te):=qQ (pi_any h) λσ H R ⟨C,ρ,Q0,I,h,k⟩=>⟨C,ρ,_,I,h,λb ρ1 v H1 q f s r=>by
 have rr:=r.rep λa z=>I.avF f z
 generalize b.d=d at q rr;cases d with
 | tup l=>
  simp only[Rep]at rr;obtain⟨a,vs,rfl,c,rs⟩:=rr;exact⟨a,rfl,.inr ⟨vs,c.imp And.right id,k _ _ ρ1 _ H1 q f s (yV c rs)⟩⟩
 | lst l=>
  simp only[Rep]at rr;obtain⟨a,vs,rfl,n,c,rs⟩:=rr;exact⟨a,rfl,.inl ⟨vs,.inl (.inl c),k _ _ ρ1 _ H1 q f s (qR (.inl ⟨n,.inl c⟩) rs)⟩⟩
 | rol l=>
  simp only[Rep]at rr;obtain⟨a,vs,rfl,c,rs⟩:=rr;exact⟨a,rfl,.inl ⟨vs,c.imp And.right id,k _ _ ρ1 _ H1 q f s (qR c rs)⟩⟩
 | _=>exact(show False from q).elim⟩
theorem uX {A:AS}{lo:Int}{n:Nat}:uW K A H (Itr lo n) n (λi=> .int (lo+i)):=
 ⟨λ_ _ _ _ h=>h,λ_ _ i x H'' _ _ _ ⟨e,y⟩=>by subst e;subst y;exact⟨.refl _,by simp only[Rep]⟩,λ_ _ _=>le_refl n⟩
def eW (ta:UA):UI:=λρ Q=>ta ρ λds ρ1=>match ds with
 | [.int j]=>(-(2^62)<=j/\j<2^62)/\Q j.toNat (λi=> .int (0+i)) ρ1
 | _=>False
def uRng2 (ta:UA):UI:=λρ Q=>ta ρ λds ρ1=>match ds with
 | [.int i,.int j]=>(-(2^62)<=i/\i<2^62/\ -(2^62)<=j/\j<2^62)/\Q (j-i).toNat (λk=> .int (i+k)) ρ1
 | _=>False
theorem b5 {A:AS}{i:Int}{v:V}(h:Rep K A H (.int i) v):v= .int i:=by simpa only[Rep]using h
theorem cI {tg a:Expr}{ta:UA}{p:Pos}(hg:Gl X "range")(hm:X.mg "range"=none)(ha:PUA X [a] ta)(hs:starEach [a] X.env=[(false,eval a X.env)]:=by rfl):PUI X tg (.Call (.Name "range" p) [a] [] pos) (eW ta):=
 qQ (qI hg hm ha hs) λσ H R ⟨C,ρ,Q0,I,h,k⟩=>⟨C,ρ,_,I,h,λds ρ1 vs H1 q f s r=>by
  split at q
  ·rename_i j
   obtain⟨v,vr,rfl,rv,rr⟩:=r.uncons;have:=rr.unnil;subst this;have:=b5 rv;subst this;obtain⟨⟨h1,h2⟩,q⟩:=q;exact⟨j,rfl,h1,h2,k _ _ ρ1 _ H1 q f s uX⟩
  ·exact q.elim⟩
end
section
variable {X:Cx}{a b e o:Expr}{es:List Expr}{pos:Pos}{ta tb te ti:UE}{K:Frag}{C:C0}{ρ ρ':Ev}{σ σ':L2.St}{H H':Hp}{A:AS}
theorem Frz.ow {i:Nat}{l:List D}(f:Frz ρ ρ')(h:ρ'[i]? =some (some (.ow l))):ρ[i]? =some (some (.ow l)):=by
 rcases f.2 i with q| ⟨l',_,q⟩
 ·exact q▸h
 ·rw[q]at h;cases h
def eX (ρ:Ev)(i:Nat)(Q:List D->Prop):Prop:=match ρ[i]? with
 | some (some (.ow l))=>Q l
 | _=>False
theorem fA {i:Nat}{Q:List D->Prop}(h:eX ρ i Q): ∃l,ρ[i]? =some (some (.ow l))/\Q l:=by
 unfold eX at h;split at h
 ·rename_i l e
  exact⟨l,e,h⟩
 ·exact h.elim
def jV (i:Nat)(t:UE):US:=λD ρ=>eX ρ i λ_=>t ρ λb ρ1=>eX ρ1 i λl=>l.length<sizeLine/\D.nx (ρ1.set i (some (.ow (l++[b.d]))))
theorem dL {x:Str}{p apos cpos:Pos}(i:Nat)(hx:PE X (.Name x p) (pZ i))(he:PU X e te)
  (hbase:attributeBase (.Name x p) "append" X.env (eval (.Name x p) X.env)=eval (.Name x p) X.env:=by rfl)
  (hfew:((backTo cpos (starEach [e] X.env)).all (λx=> !x.1)&&(backToKw cpos (keywordEach [] X.env)).all (λx=>x.1.isSome)
   &&decide ([e].length+([]:List Keyword).length+(if([]:List Keyword).isEmpty then 0 else 1)<30))=true:=by rfl)
  (hline:(apos.endLine==cpos.line)=true:=by rfl) (hs:starEach [e] X.env=(false,eval e X.env)::starEach [] X.env:=by rfl) (hplain:(backTo cpos (starEach [] X.env)).any (·.1)=false:=by rfl)
  (hw:swapsWith (.Call (.Attribute (.Name x p) "append" apos) [e] [] cpos) none pos.line X.env=pure false:=by rfl) :
  PUS X (.Expr (.Call (.Attribute (.Name x p) "append" apos) [e] [] cpos) pos) (jV i te):=
 hG (vR (pe_bm PySem.F.plainAttrs_list PySem.F.slot_list_append PySem.F.type_list_append qO hx (rQ he uJ hs) hbase hfew hline hs hplain) hw) λD σ H ⟨C,ρ,D0,I,h,k⟩=>by
  obtain⟨l,hl,h⟩:=fA h;obtain⟨a,vs,h1,h2,h3,h4⟩:=I.ow i l hl;refine⟨.ref a,h1,.inl ⟨rfl,vs,SqL.of h2⟩,C,ρ,_,I,h,λb ρ1 v H1 q f s r=> ?_⟩
  obtain⟨l',hl',hz,q⟩:=fA q;have e:=f.ow hl';rw[hl]at e;cases e;have I1:=(I.frz f).same s;obtain⟨a',vs',g1,g2,g3,g4⟩:=I1.ow i l hl';rw[h1]at g1;cases g1;refine⟨a,vs',v,rfl,rfl,g2,by rw[<-g4.length];exact hz,k.nx _ _ _ q ?_⟩
  exact I1.write hl' h1 (g4.append (.cons (r.rep λa z=>I.avF f z) .nil))
def nO (i:Nat)(t ti:UE):US:=λD ρ=>t ρ λb ρ1=>eX ρ1 i λ_=>ti ρ1 λj ρ2=>eX ρ2 i λl=>match j.d with
 | .int k=>(match ixN l.length k with
  | some n=>D.nx (ρ2.set i (some (.ow (l.set n b.d))))
  | none=>False)
 | _=>False
theorem gJ {x:Str}{p tpos:Pos}{ix:Expr}(i:Nat)(hx:PE X (.Name x p) (pZ i))(he:PU X e te)(hi:PU X ix ti)
  (ha: ∀v,assign (.Subscript (.Name x p) ix tpos) X.env v=(do
   let ov<-holding [v] (eval (.Name x p) X.env)
   let iv<-holding [v,ov] (eval ix X.env)
   standAt tpos
   holding [v,ov,iv] (setItem ov iv v)
   release [v,ov,iv] []):=by intro _;rfl)
  (hs:swapsWithSole [.Subscript (.Name x p) ix tpos] e pos.line X.env=pure false:=by rfl) (hw:swappedStores [.Subscript (.Name x p) ix tpos] e X.env=pure none:=by rfl)
  (h1:(assignEach [.Subscript (.Name x p) ix tpos] X.env).map (·.2)=[assign (.Subscript (.Name x p) ix tpos) X.env]:=by rfl):PUS X (.Assign [.Subscript (.Name x p) ix tpos] e pos) (nO i te ti):=
 hG (rO he (uE hx hi oH ha) hs hw h1) λD σ H ⟨C,ρ,D0,I,h,k⟩=>⟨C,ρ,_,I,h,λb ρ1 v H1 q f s r=>by
  obtain⟨l,hl,q⟩:=fA q;have I1:=(I.frz f).same s;obtain⟨a,vs,h1,h2,h3,h4⟩:=I1.ow i l hl;refine⟨.ref a,h1,C,ρ1,_,I1,q,λj ρ2 w H2 q2 f2 s2 r2=> ?_⟩
  obtain⟨l',hl',q2⟩:=fA q2;have e:=f2.ow hl';rw[hl]at e;cases e;have I2:=(I1.frz f2).same s2;obtain⟨a',vs',g1,g2,g3,g4⟩:=I2.ow i l hl';rw[h1]at g1;cases g1;have rj:=r2.rep λa z=>I1.avF f2 z
  generalize j.d=dj at q2 rj;split at q2
  ·rename_i kk
   have:=b5 rj;subst this;split at q2
   ·rename_i n hn
    refine⟨a,vs',kk,n,rfl,rfl,g2,by rw[<-g4.length];exact hn,k.nx _ _ _ q2 ?_⟩
    exact I2.write hl' h1 (g4.set n ((r.rep λa z=>I.avF f z).mono (.sub s2 λa=>f2.av)))
   ·exact q2.elim
  ·exact q2.elim⟩
def gIx (d i:D)(Q:D->Prop):Prop:=match hJ d,i with
 | some l,.int k=>(match atI l k with
  | some x=>Q x
  | none=>False)
 | _,_=>False
def uIx (t:UV)(ti:UE):UE:=λρ Q=>t ρ λd ρ1=>ti ρ1 λi ρ2=>gIx d i.d λx=>Q (.pu x) ρ2
theorem aS.atI {l:List D}{vs:List V}{k:Int}{x:D}(r:aS K A H l vs)(h:atI l k=some x): ∃v,L2.atI vs k=some v/\Rep K A H x v:=by
 unfold L2.atI at h⊢;cases e:ixN l.length k with
 | none=>rw[e]at h;cases h
 | some j=>
  rw[e]at h;rw[<-r.length,e];exact r.get h
theorem uQ.mono {A':AS}(s:cF H H')(h: ∀a,A' a->A a): ∀{d:D} {v:V},uQ K A H d v->uQ K A' H' d v
 | .non,_,r=>Rep.mono (.sub s h) r
 | .bl _,_,r=>Rep.mono (.sub s h) r
 | .int _,_,r=>Rep.mono (.sub s h) r
 | .str _,_,r=>Rep.mono (.sub s h) r
 | .ty _,_,r=>Rep.mono (.sub s h) r
 | .tup _,_,⟨a,vs,e,c,r⟩=>⟨a,vs,e,c.imp (λc=>c.imp (s _ _) λ⟨o,z⟩=>⟨o,s _ _ z⟩) id,r.mono (.sub s h)⟩
 | .lst _,_,⟨a,vs,e,c,r⟩=>⟨a,vs,e,s _ _ c,r.mono (.sub s h)⟩
 | .rol _,_,⟨a,vs,e,c,r⟩=>⟨a,vs,e,s.seq c,r.mono (.sub s h)⟩
 | .obj _ _ _,_,r=>Rep.mono (.sub s h) r
 | .adr _,_,r=>Rep.mono (.sub s h) r
 | .xob _ _ _ _,_,r=>Rep.mono (.sub s h) r
theorem uQ.seq {d:D}{v:V}{l:List D}(r:uQ K A H d v)(h:hJ d=some l): ∃a vs,v= .ref a/\(SqL K H a vs\/SqT K H a vs)/\aS K A H l vs:=by
 cases d with
 | tup l'=>cases h;obtain⟨a,vs,e,c,r⟩:=r;exact⟨a,vs,e,.inr c,r⟩
 | lst l'=>cases h;obtain⟨a,vs,e,c,r⟩:=r;exact⟨a,vs,e,.inl (SqL.of c),r⟩
 | rol l'=>cases h;obtain⟨a,vs,e,c,r⟩:=r;exact⟨a,vs,e,.inl c,r⟩
 | _=>cases h
theorem a51 {d i:D}{Q:D->Prop}(h:gIx d i Q): ∃l k x,hJ d=some l/\i= .int k/\atI l k=some x/\Q x:=by
 unfold gIx at h;split at h
 ·rename_i l k e
  split at h
  ·rename_i x ex
   exact⟨l,k,x,e,rfl,ex,h⟩
  ·exact h.elim
 ·exact h.elim
theorem aZ {t:UV}(ha:PUV X a t)(hb:PU X b ti)(hs:rS b):PU X (.Subscript a b pos) (uIx t ti):=
 dP (a87 ix_seq ha hb hs) λσ H Q ⟨C,ρ,Q0,I,h,k⟩=>⟨C,ρ,_,I,h,λd ρ1 v H1 q f s r=>by
  have I1:=(I.frz f).same s;refine⟨C,ρ1,_,I1,q,λi ρ2 w H2 q2 f2 s2 r2=> ?_⟩
  obtain⟨l,kk,x,e1,e2,e3,q2⟩:=a51 q2;have ri:=r2.rep λa z=>I1.avF f2 z
  rw[e2]at ri;have:=b5 ri;subst this;obtain⟨a,vs,rfl,c,rs⟩:=(r.mono (A':=Av C ρ2 σ) s2 λa=>f2.av).seq e1
  obtain⟨u,e4,r4⟩:=rs.atI e3;have fin:=k (.pu x) ρ2 u H2 q2 (f.trans f2) (s.trans s2) r4;rcases c with c|c
  ·exact .inl ⟨a,vs,kk,u,rfl,rfl,c,e4,fin⟩
  ·exact .inr (.inl ⟨a,vs,kk,u,rfl,rfl,c,e4,fin⟩)⟩
abbrev UO:=Ev->(Option Int->Ev->Prop)->Prop
def lO (K:Frag)(t:UO):TO:=λσ H Q=> ∃C ρ Q0,EOk K C ρ σ H/\t ρ Q0/\ ∀i ρ' H',Q0 i ρ'->Frz ρ ρ'->cF H H'->Q i H'
def PUO (X:Cx)(e:Option Expr)(t:UO):Prop:=PO X e (lO X.K t)
theorem a90 {e:Option Expr}{t t':TO}(h:PO X e t)(i: ∀σ H Q,t' σ H Q->t σ H Q):PO X e t':=λpins s σ H Q I q=>h pins s σ H Q I (i σ H Q q)
def eE:UO:=λρ Q=>Q none ρ
def iL (t:UE):UO:=λρ Q=>t ρ λb ρ1=>match b.d with
 | .int i=>Q (some i) ρ1
 | _=>False
theorem eF:PUO X none eE:=a90 a42 λσ H Q ⟨C,ρ,Q0,I,h,k⟩=>k _ _ _ h (.refl _) (.refl _)
theorem dG (h:PU X e te):PUO X (some e) (iL te):=a90 (a43 h) λσ H Q ⟨C,ρ,Q0,I,h,k⟩=>⟨C,ρ,_,I,h,λb ρ1 v H1 q f s r=>by
 have r':=r.rep λa z=>I.avF f z
 generalize b.d=d at q r';split at q
 ·exact⟨_,b5 r',k _ _ _ q f s⟩
 ·exact q.elim⟩
def cutD (l:List D)(lo hi:Option Int):List D:=(l.drop (HT.sIx l.length 0 lo)).take (HT.sIx l.length l.length hi-HT.sIx l.length 0 lo)
theorem aS.cut {l:List D}{vs:List V}(r:aS K A H l vs)(lo hi:Option Int):aS K A H (cutD l lo hi) (sY vs lo hi):=by
 unfold cutD sY;rw[r.length];exact(r.drop _).take _
def gSl (d:D)(lo hi:Option Int)(Q:B->Prop):Prop:=match d with
 | .tup l=> ¬(HT.sIx l.length 0 lo=0/\HT.sIx l.length l.length hi=l.length)/\Q (.pu (.tup (cutD l lo hi)))
 | .lst l=>Q (.ow (cutD l lo hi))
 | .rol l=>Q (.ow (cutD l lo hi))
 | _=>False
def uSl (t:UV)(tl th:UO):UE:=λρ Q=>t ρ λd ρ1=>tl ρ1 λlo ρ2=>th ρ2 λhi ρ3=>gSl d lo hi λb=>Q b ρ3
theorem jW {t:UV}{tl th:UO}{lo hi:Option Expr}{p2:Pos}(he:PUV X e t)(hl:PUO X lo tl)(hu:PUO X hi th):PU X (.Subscript e (.Slice lo hi none p2) pos) (uSl t tl th):=
 dP (sX (vX.or yG) he hl hu) λσ H Q ⟨C,ρ,Q0,I,h,k⟩=>⟨C,ρ,_,I,h,λd ρ1 v H1 q f s r=>by
  have I1:=(I.frz f).same s;refine⟨C,ρ1,_,I1,q,λl2 ρ2 H2 q2 f2 s2=> ?_⟩
  have I2:=(I1.frz f2).same s2;refine⟨C,ρ2,_,I2,q2,λh3 ρ3 H3 q3 f3 s3=> ?_⟩
  have I3:=(I2.frz f3).same s3;have s13:=s2.trans s3;have sAll:=s.trans s13;have fAll:=f.trans (f2.trans f3);have r':=r.mono (A':=Av C ρ3 σ) s13 λa z=>f2.av (f3.av z)
  cases d with
  | tup l=>
   obtain⟨hw,q3⟩:=q3;obtain⟨a,vs,rfl,c,rs⟩:=r';exact .inr ⟨a,vs,rfl,c,by rw[<-rs.length];exact hw,λp n=>k _ ρ3 _ _ q3 fAll (sAll.trans (bL n _)) (cM (λa z=>I3.avSome z) n (rs.cut l2 h3))⟩
  | lst l=>
   obtain⟨a,vs,rfl,c,rs⟩:=r';exact .inl ⟨a,vs,rfl,SqL.of c,λp n=>k _ ρ3 _ _ q3 fAll (sAll.trans (bL n _)) (cY sAll n (rs.cut l2 h3))⟩
  | rol l=>
   obtain⟨a,vs,rfl,c,rs⟩:=r';exact .inl ⟨a,vs,rfl,c,λp n=>k _ ρ3 _ _ q3 fAll (sAll.trans (bL n _)) (cY sAll n (rs.cut l2 h3))⟩
  | _=>exact(show False from q3).elim⟩
def Sm (i:Int):Prop:=i.natAbs<2^9000
theorem Sm.log {i:Int}(h:Sm i):i.natAbs.log2<9000:=by
 by_cases z:i.natAbs=0
 ·rw[z];decide
 ·exact(Nat.log2_lt z).mpr h
def bS (d e:D)(Q:B->Prop):Prop:=match d,e with
 | .int i,.int j=>Q (.pu (.int (i+j)))
 | .lst l,.lst m=>l.length+m.length<=sizeLine/\Q (.ow (l++m))
 | .tup l,.tup m=>l.length+m.length<=sizeLine/\Q (.pu (.tup (l++m)))
 | _,_=>False
theorem yW:OpR X (binaryOp .Add) (λx y H Q=> ∃a b ys,x= .ref a/\y= .ref b/\SqT X.K H a []/\SqT X.K H b ys/\Q (.ref b) H):=by
 intro pins s σ H x y v u Q I rx ry h;obtain⟨a,b,ys,rfl,rfl,ha,hb,q⟩:=h;cases rx;cases ry;obtain⟨its,r1,p1,_⟩:=I.tuple ha;obtain⟨its2,r2,p2,_⟩:=I.tuple hb;have e:its=[]:=by
  have:=r1.length;exact List.length_eq_zero_iff.mp this.symm
 subst e;obtain⟨⟨cls,dd,data,sl⟩,ho,hc,n,hd⟩:=id p1;obtain⟨⟨cls2,dd2,data2,sl2⟩,ho2,hc2,n2,hd2⟩:=id p2;simp only at hc hd hc2 hd2;subst hc hd hc2 hd2;exact concat_meets ⟨_,ho,rfl⟩ ⟨_,ho2,rfl⟩ noFill_tuple_add seq_tuple_add PySem.F.slot_tuple_add PySem.F.entry_tuple_add (PySem.F.args_tuple_add_2 _ _) (tuple_addW0 a b _ its2.toArray n n2 dd dd2 sl sl2 rfl) ⟨ho,ho2,⟨.ref b,H,I,rfl,q⟩⟩
theorem qB {i:Int}:iB K A H H' (.pu (.int i)) (.int i):=by
 show Rep K A H' (.int i) (.int i)
 simp only[Rep]
theorem b7:OpU X (binaryOp .Add) bS:=by
 intro A H d e v w Q0 Q hA r1 r2 g k;unfold bS at g;split at g
 ·rename_i i j
  exact⟨_,op_add,i,j,b5 r1,b5 r2,k _ _ H g (.refl _) qB⟩
 ·rename_i l m
  simp only[Rep]at r1 r2;obtain⟨a,vs,rfl,n1,c1,rs1⟩:=r1;obtain⟨b,ws,rfl,n2,c2,rs2⟩:=r2;exact⟨_,op_cat,a,b,vs,ws,rfl,rfl,c1,c2,by rw[<-rs1.length,<-rs2.length];exact g.1,λp n=>k _ _ _ g.2 (bL n _) (cY (.refl _) n (rs1.append rs2))⟩
 ·rename_i l m
  simp only[Rep]at r1 r2;obtain⟨a,vs,rfl,c1,rs1⟩:=r1;obtain⟨b,ws,rfl,c2,rs2⟩:=r2;obtain⟨hz,g⟩:=g
  by_cases hn:l=[]
  ·subst hn;have e1:vs=[]:=rs1.unnil;subst e1;refine⟨_,yW,a,b,ws,rfl,rfl,c1.imp And.right id,c2.imp And.right id,k _ _ H g (.refl _) ?_⟩;show Rep X.K A H (.tup m) (.ref b);simp only[Rep];exact⟨b,ws,rfl,c2,rs2⟩
  refine⟨_,a44,a,b,vs,ws,rfl,rfl,c1.imp And.right id,c2.imp And.right id,λz=>hn ?_,by rw[<-rs1.length,<-rs2.length];exact hz,λz=> ?_,λz p n=> ?_⟩
  ·have:=rs1.length;rw[z]at this;exact List.length_eq_zero_iff.mp this
  ·have e2:=rs2.length;rw[z]at e2;have e3:m=[]:=List.length_eq_zero_iff.mp e2;subst e3;rw[append_nil]at g;refine k _ _ H g (.refl _) ?_;show Rep X.K A H (.tup l) (.ref a);simp only[Rep];exact⟨a,vs,rfl,c1,rs1⟩
  ·exact k _ _ _ g (bL n _) (cM hA n (rs1.append rs2))
 ·exact g.elim
def gI2 (f:Int->Int->(B->Prop)->Prop)(d e:D)(Q:B->Prop):Prop:=match d,e with
 | .int i,.int j=>f i j Q
 | _,_=>False
theorem lZ {f:Int->Int->(B->Prop)->Prop}{d e:D}{Q:B->Prop}(h:gI2 f d e Q): ∃i j,d= .int i/\e= .int j/\f i j Q:=by
 unfold gI2 at h;split at h
 ·exact⟨_,_,rfl,rfl,h⟩
 ·exact h.elim
def gSub:D->D->(B->Prop)->Prop:=gI2 λi j Q=>Q (.pu (.int (i-j)))
theorem cH:OpU X (binaryOp .Sub) gSub:=by
 intro A H d e v w Q0 Q hA r1 r2 g k;obtain⟨i,j,rfl,rfl,g⟩:=lZ g;exact⟨_,op_sub,i,j,b5 r1,b5 r2,k _ _ H g (.refl _) qB⟩
theorem w8 {i:Int}(h:Sm i):Builtin.Int.intBits i<=2^20:=le_trans (PyProof.Rows.intBits_le h) (by decide)
def bQ (d e:D)(Q:B->Prop):Prop:=match d,e with
 | .int i,.int j=>(uI i j\/(Sm i/\Sm j))/\Q (.pu (.int (i*j)))
 | .lst l,.int k=>(-(2^63)<=k/\k<2^63/\l.length*k.toNat<=sizeLine)/\Q (.ow (replicate k.toNat l).flatten)
 | _,_=>False
theorem a52:OpR X (binaryOp .Mult) (rI (λi j=>uI i j\/(Sm i/\Sm j)) λi j=> .int (i*j)):=opI λ_ _ _ _ _ _ _ hc q=>mul_int q (hc.elim uI.ok λh=> .of_bits (w8 h.1) (w8 h.2))
theorem b8:OpU X (binaryOp .Mult) bQ:=by
 intro A H d e v w Q0 Q hA r1 r2 g k;unfold bQ at g;split at g
 ·rename_i i j
  exact⟨_,a52,i,j,b5 r1,b5 r2,g.1,k _ _ H g.2 (.refl _) qB⟩
 ·rename_i l kk
  have:=b5 r2;subst this;simp only[Rep]at r1;obtain⟨a,vs,rfl,n1,c1,rs1⟩:=r1;obtain⟨⟨h1,h2,h3⟩,g⟩:=g;exact⟨_,op_rep,a,kk,vs,rfl,rfl,c1,h1,h2,by rw[<-rs1.length];exact h3,λp n=>k _ _ _ g (bL n _) (cY (.refl _) n (rs1.rep _))⟩
 ·exact g.elim
def oI:D->D->(B->Prop)->Prop:=gI2 λi j Q=>(j≠0/\Sm j)/\Q (.pu (.int (i.fdiv j)))
def fU:D->D->(B->Prop)->Prop:=gI2 λi j Q=>j≠0/\Q (.pu (.int (i.fmod j)))
theorem a53:OpR X (binaryOp .FloorDiv) (rI (λ_ j=>j≠0/\Sm j) λi j=> .int (i.fdiv j)):=opI λ_ _ _ _ _ _ _ hc q=>floordiv_int hc.1 q (.inl (PyProof.noPylong_of_log2 hc.2.log))
theorem jX:OpU X (binaryOp .FloorDiv) oI:=by
 intro A H d e v w Q0 Q hA r1 r2 g k;obtain⟨i,j,rfl,rfl,g⟩:=lZ g;exact⟨_,a53,i,j,b5 r1,b5 r2,g.1,k _ _ H g.2 (.refl _) qB⟩
theorem cU:OpU X (binaryOp .Mod) fU:=by
 intro A H d e v w Q0 Q hA r1 r2 g k;obtain⟨i,j,rfl,rfl,g⟩:=lZ g;exact⟨_,a37,i,j,b5 r1,b5 r2,g.1,k _ _ H g.2 (.refl _) qB⟩
def kW:D->D->(B->Prop)->Prop:=gI2 λi j Q=>a36 i j/\Q (.pu (.int (i^j.toNat)))
theorem eG:OpU X (binaryOp .Pow) kW:=by
 intro A H d e v w Q0 Q hA r1 r2 g k;obtain⟨i,j,rfl,rfl,g⟩:=lZ g;exact⟨_,op_pow,i,j,b5 r1,b5 r2,g.1,k _ _ H g.2 (.refl _) qB⟩
def oJ (p:Int->Int->Bool):D->D->(B->Prop)->Prop:=gI2 λi j Q=>Q (.pu (.bl (p i j)))
theorem uY {op:CmpOp}{p:Int->Int->Bool}(ho:OpR X (compareOp op) (rI0 λi j=> .bl (p i j))):OpU X (compareOp op) (oJ p):=by
 intro A H d e v w Q0 Q hA r1 r2 g k;obtain⟨i,j,rfl,rfl,g⟩:=lZ g;exact⟨_,ho,i,j,b5 r1,b5 r2,k _ _ H g (.refl _) eZ⟩
theorem a91:OpU X (compareOp .Lt) (oJ λi j=>decide (i<j)):=uY op_lt
theorem a92:OpU X (compareOp .Gt) (oJ λi j=>decide (j<i)):=uY op_gt
theorem ou_ge:OpU X (compareOp .GtE) (oJ λi j=>decide (j<=i)):=uY op_ge
def jY (neg:Bool)(d e:D)(Q:B->Prop):Prop:=match d,e with
 | .int i,.int j=>Q (.pu (.bl (neg ^^ decide (i=j))))
 | .bl i,.bl j=>Q (.pu (.bl (neg ^^ decide (i=j))))
 | .str i,.str j=>Q (.pu (.bl (neg ^^ decide (i=j))))
 | _,_=>False
theorem hR {b:Bool}{v:V}(h:Rep K A H (.bl b) v):v= .bl b:=by simpa only[Rep]using h
theorem m9 {b:Str}{v:V}(h:Rep K A H (.str b) v):v= .str b:=by simpa only[Rep]using h
theorem qS:OpU X (compareOp .Eq) (jY false):=by
 intro A H d e v w Q0 Q hA r1 r2 g k;unfold jY at g;split at g
 ·rw[b5 r1,b5 r2];exact⟨_,yD,rfl,k _ _ H g (.refl _) (by rw[nY,false_xor,beq_eq_decide_eq];exact eZ)⟩
 ·rw[hR r1,hR r2];exact⟨_,yD,rfl,k _ _ H g (.refl _) (by rw[rP,false_xor,beq_eq_decide_eq];exact eZ)⟩
 ·rw[m9 r1,m9 r2];exact⟨_,yD,rfl,k _ _ H g (.refl _) (by rw[nZ,false_xor,beq_eq_decide_eq];exact eZ)⟩
 ·exact g.elim
theorem t7:OpU X (compareOp .NotEq) (jY true):=by
 intro A H d e v w Q0 Q hA r1 r2 g k;unfold jY at g;split at g
 ·rw[b5 r1,b5 r2];exact⟨_,yE,rfl,k _ _ H g (.refl _) (by rw[nY,true_xor,beq_eq_decide_eq];exact eZ)⟩
 ·rw[hR r1,hR r2];exact⟨_,yE,rfl,k _ _ H g (.refl _) (by rw[rP,true_xor,beq_eq_decide_eq];exact eZ)⟩
 ·rw[m9 r1,m9 r2];exact⟨_,yE,rfl,k _ _ H g (.refl _) (by rw[nZ,true_xor,beq_eq_decide_eq];exact eZ)⟩
 ·exact g.elim
end
section
variable {X:Cx}{a b e o:Expr}{es:List Expr}{pos:Pos}{ta tb te ti:UE}{K:Frag}{C:C0}{ρ ρ':Ev}{σ σ':L2.St}{H H':Hp}{A:AS}
def uZ (t:UE):UE:=λρ Q=>t ρ λb ρ1=>match b.d with
 | .int i=>Q (.pu (.int (-i))) ρ1
 | _=>False
theorem oK (h:PU X a ta):PU X (.UnaryOp .USub a pos) (uZ ta):=
 dP (pe_un un_neg h) λσ H Q ⟨C,ρ,Q0,I,h,k⟩=>⟨C,ρ,_,I,h,λb ρ1 v H1 q f s r=>by
  have r':=r.rep λa z=>I.avF f z
  generalize b.d=d at q r';split at q
  ·exact⟨_,b5 r',k _ _ _ _ q f s qB⟩
  ·exact q.elim⟩
def g1 (f:D->(B->Prop)->Prop)(ds:List D)(Q:B->Prop):Prop:=match ds with
 | [d]=>f d Q
 | _=>False
def g2 (f:D->D->(B->Prop)->Prop)(ds:List D)(Q:B->Prop):Prop:=match ds with
 | [d,e]=>f d e Q
 | _=>False
theorem sB {f:D->(B->Prop)->Prop}{ds:List D}{Q:B->Prop}{vs:List V}(h:g1 f ds Q)(r:aS K A H ds vs): ∃d v,ds=[d]/\vs=[v]/\Rep K A H d v/\f d Q:=by
 unfold g1 at h;split at h
 ·obtain⟨v,vr,rfl,rv,rr⟩:=r.uncons;have:=rr.unnil;subst this;exact⟨_,v,rfl,rfl,rv,h⟩
 ·exact h.elim
theorem g2_inv {f:D->D->(B->Prop)->Prop}{ds:List D}{Q:B->Prop}{vs:List V}(h:g2 f ds Q)(r:aS K A H ds vs): ∃d e v w,ds=[d,e]/\vs=[v,w]/\Rep K A H d v/\Rep K A H e w/\f d e Q:=by
 unfold g2 at h;split at h
 ·obtain⟨v,vr,rfl,rv,rr⟩:=r.uncons;obtain⟨w,wr,rfl,rw',rr'⟩:=rr.uncons;have:=rr'.unnil;subst this;exact⟨_,_,v,w,rfl,rfl,rv,rw',h⟩
 ·exact h.elim
def gInt (f:Int->(B->Prop)->Prop)(d:D)(Q:B->Prop):Prop:=match d with
 | .int i=>f i Q
 | _=>False
def gAbs:List D->(B->Prop)->Prop:=g1 (gInt λi Q=>Q (.pu (.int (if i<0 then -i else i))))
def gMax:List D->(B->Prop)->Prop:=g2 (gI2 λi j Q=>Q (.pu (.int (if j>i then j else i))))
def gMin:List D->(B->Prop)->Prop:=g2 (gI2 λi j Q=>Q (.pu (.int (if j<i then j else i))))
def v1:List D->(B->Prop)->Prop:=g1 λd Q=>match d with
 | .int i=>Q (.pu (.int i))
 | .bl k=>Q (.pu (.int (if k then 1 else 0)))
 | _=>False
theorem cu_int:nM X (.type "int") v1:=by
 intro A H ds vs Q0 Q hA r g k;obtain⟨d,v,rfl,rfl,rv,g⟩:=sB g r;cases d with
 | int i=>exact⟨_,qJ,.inl ⟨i,by rw[b5 rv],k _ _ H g (.refl _) qB⟩⟩
 | bl c=>exact⟨_,qJ,.inr ⟨c,by rw[hR rv],k _ _ H g (.refl _) qB⟩⟩
 | _=>exact(show False from g).elim
def d6:List D->(B->Prop)->Prop:=g1 λd Q=>match hJ d with
 | some l=>Q (.pu (.tup l))
 | none=>False
theorem dW:nM X (.type "tuple") d6:=by
 intro A H ds vs Q0 Q hA r g k;obtain⟨d,v,rfl,rfl,rv,g⟩:=sB g r;cases d with
 | tup l=>
  have rv':=rv;simp only[Rep]at rv;obtain⟨a,vs,rfl,c,rs⟩:=rv;exact⟨_,iA,a,vs,rfl,.inr ⟨c.imp And.right id,k _ _ H g (.refl _) rv'⟩⟩
 | lst l=>
  simp only[Rep]at rv;obtain⟨a,vs,rfl,n,c,rs⟩:=rv;exact⟨_,iA,a,vs,rfl,.inl ⟨SqL.of c,λp n=>k _ _ _ g (bL n _) (cM hA n rs)⟩⟩
 | rol l=>
  simp only[Rep]at rv;obtain⟨a,vs,rfl,c,rs⟩:=rv;exact⟨_,iA,a,vs,rfl,.inl ⟨c.imp And.right id,λp n=>k _ _ _ g (bL n _) (cM hA n rs)⟩⟩
 | _=>exact(show False from g).elim
def hV:List D->(B->Prop)->Prop:=g1 λd Q=>match hJ d with
 | some l=>Q (.ow l)
 | none=>False
theorem o7:nM X (.type "list") hV:=by
 intro A H ds vs Q0 Q hA r g k;obtain⟨d,v,rfl,rfl,rv,g⟩:=sB g r;cases e:hJ d with
 | none=>simp only[e]at g
 | some l=>
  simp only[e]at g;obtain⟨a,vs,rfl,c,rs⟩:=rv.one.seq e;exact⟨_,rW,a,vs,rfl,c,λp n=>k _ _ _ g (bL n _) (cY (.refl _) n rs)⟩
def mZ (t:UV):UE:=λρ Q=>t ρ λd ρ1=>match hJ d with
 | some l=>Q (.pu (.int l.length)) ρ1
 | none=>False
theorem iC {t:UV}{p:Pos}(ha:PUV X e t)(hg:Gl X "len")(hm:X.mg "len"=none)(hs:starEach [e] X.env=(false,eval e X.env)::starEach [] X.env:=by rfl)
  (hpl:(backTo pos (starEach [] X.env)).any (·.1)=false:=by rfl):PU X (.Call (.Name "len" p) [e] [] pos) (mZ t):=
 dP (sW rV hg hm PySem.boot_len (rQ ha uJ hs) (by decide) (by decide) hs hpl) λσ H Q ⟨C,ρ,Q0,I,h,k⟩=>⟨C,ρ,_,I,h,λd ρ1 v H1 q f s r=>by
  cases e:hJ d with
  | none=>simp only[e]at q
  | some l=>
   simp only[e]at q;obtain⟨a,vs,rfl,c,rs⟩:=r.seq e;exact⟨a,vs,rfl,c,k _ _ _ _ q f s (by rw[rs.length];exact qB)⟩⟩
def isI:D->String->Option Bool
 | .int _,"int"=>some true
 | .int _,"bool"=>some false
 | .int _,"tuple"=>some false
 | .int _,"list"=>some false
 | .bl _,"bool"=>some true
 | .bl _,"int"=>some true
 | .tup _,"tuple"=>some true
 | .tup _,"int"=>some false
 | .tup _,"list"=>some false
 | .lst _,"list"=>some true
 | .lst _,"tuple"=>some false
 | .lst _,"int"=>some false
 | _,_=>none
theorem lF {x:Value}{T:String}{prog:Program}{w:World}{A:Around}{E:Value->Shared->Prop}{s:Shared}{Q:Value->Shared->Prop}
  {P:(Result->Shared->Prop)->Shared->Prop} (hm:Meets (Builtin.«isinstance» ⟨[x,.type T],[]⟩) (λ_ R s=>P R s)) (h:P (λr s'=>match r with| .ok (.ret v)=>Q v s'| .ok _=>False| .error e=>E e s') s) :
  wpAny (model prog w) A (call (.builtin "isinstance") [x,.type T]) Q E s:=
 call_function_any kind_isinstance plain_isinstance entry_isinstance (args_isinstance _ _) (hm _ _ _ _ _ h)
theorem rep_ty {T:String}{v:V}(h:Rep K A H (.ty T) v):v= .ty T:=by simpa only[Rep]using h
def rIsi (K:Frag):List V->Hp->VK->Prop:=λxs H Q=> ∃x T k,xs=[x,.ty T]/\Q (.bl k) H/\
 ((∃i,x= .int i/\((T="int"/\k=true)\/((T="bool"\/T="tuple"\/T="list")/\k=false)))\/(∃c,x= .bl c/\(T="int"\/T="bool")/\k=true)\/
  (∃a ys,x= .ref a/\SqT K H a ys/\((T="tuple"/\k=true)\/((T="int"\/T="list")/\k=false)))\/(∃a ys,x= .ref a/\SqL K H a ys/\((T="list"/\k=true)\/((T="int"\/T="tuple")/\k=false))))
theorem tyT (T:String)(h:T="int"\/T="bool"\/T="tuple"\/T="list"):typeOf (.type T)=pure (.type "type"):=by
 rcases h with rfl|rfl|rfl|rfl<;>first|rfl|decide
theorem gK:fV X (.builtin "isinstance") (rIsi X.K):=by
 intro pins s σ H xs us Q I r h;obtain⟨x,T,k,rfl,q,h⟩:=h;obtain⟨u,w',rfl,rx,ry⟩:=vals2 r;have e:w'=Value.type T:=ry;subst e;rcases h with⟨i,rfl,h⟩| ⟨c,rfl,h,rfl⟩| ⟨a,ys,rfl,hs,h⟩| ⟨a,ys,rfl,hs,h⟩
 ·obtain⟨t,rfl⟩:=rx;rcases h with⟨rfl,rfl⟩| ⟨h,rfl⟩
  ·exact call_isinstance_yes (typeIs_int s i t) (tyT _ (by simp)) PyProof.Rows.sub_int_int ⟨.bl true,H,I,rfl,q⟩
  ·rcases h with rfl|rfl|rfl
   ·exact lF (isinstance_false_int (by decide) (tyT _ (by simp)) PyProof.Rows.sub_int_bool) ⟨.bl false,H,I.tok _,rfl,q⟩
   ·exact lF (isinstance_false_int (by decide) (tyT _ (by simp)) PyProof.Rows.sub_int_tuple) ⟨.bl false,H,I.tok _,rfl,q⟩
   ·exact lF (isinstance_false_int (by decide) (tyT _ (by simp)) PyProof.Rows.sub_int_list) ⟨.bl false,H,I.tok _,rfl,q⟩
 ·cases rx;rcases h with rfl|rfl
  ·exact call_isinstance_yes (PySem.typeIs_bool s c) (tyT _ (by simp)) PyProof.Rows.sub_bool_int ⟨.bl true,H,I,rfl,q⟩
  ·exact call_isinstance_yes (PySem.typeIs_bool s c) (tyT _ (by simp)) PyProof.Rows.sub_bool_bool ⟨.bl true,H,I,rfl,q⟩
 ·cases rx;obtain⟨its,rv,p,hz⟩:=I.tuple hs;obtain⟨o,ho,hc,_⟩:=id p;rcases h with⟨rfl,rfl⟩| ⟨h,rfl⟩
  ·exact call_isinstance_yes p.typeIs (tyT _ (by simp)) PyProof.Rows.sub_tuple_tuple ⟨.bl true,H,I,rfl,q⟩
  ·rcases h with rfl|rfl
   ·exact lF (isinstance_false_tuple (by decide) (tyT _ (by simp)) PyProof.Rows.sub_tuple_int) ⟨⟨o,ho,hc⟩,.bl false,H,I.tok _,rfl,q⟩
   ·exact lF (isinstance_false_tuple (by decide) (tyT _ (by simp)) PyProof.Rows.sub_tuple_list) ⟨⟨o,ho,hc⟩,.bl false,H,I.tok _,rfl,q⟩
 ·cases rx;obtain⟨its,rv,p,hz⟩:=I.list hs;obtain⟨o,n,ho,hc,_⟩:=id p;rcases h with⟨rfl,rfl⟩| ⟨h,rfl⟩
  ·exact call_isinstance_yes p.isList.typeIs (tyT _ (by simp)) PyProof.Rows.sub_list_list ⟨.bl true,H,I,rfl,q⟩
  ·rcases h with rfl|rfl
   ·exact lF (isinstance_false_list (by decide) (tyT _ (by simp)) PyProof.Rows.sub_list_int) ⟨⟨o,ho,hc⟩,.bl false,H,I.tok _,rfl,q⟩
   ·exact lF (isinstance_false_list (by decide) (tyT _ (by simp)) PyProof.Rows.sub_list_tuple) ⟨⟨o,ho,hc⟩,.bl false,H,I.tok _,rfl,q⟩
def xA:List D->(B->Prop)->Prop:=g2 λd e Q=>match e with
 | .ty T=>(match d with
  | .int _=>if T="int" then Q (.pu (.bl true))else if T="bool"\/T="tuple"\/T="list" then Q (.pu (.bl false))else False
  | .bl _=>if T="int"\/T="bool" then Q (.pu (.bl true))else False
  | .tup _=>if T="tuple" then Q (.pu (.bl true))else if T="int"\/T="list" then Q (.pu (.bl false))else False
  | .lst _=>if T="list" then Q (.pu (.bl true))else if T="int"\/T="tuple" then Q (.pu (.bl false))else False
  | _=>False)
 | _=>False
theorem sC:nM X (.builtin "isinstance") xA:=by
 intro A H ds vs Q0 Q hA r g k;obtain⟨d,e,v,w,rfl,rfl,rv,rw',g⟩:=g2_inv g r;have no: ∀{c:Bool},Q0 (.pu (.bl c))->Q (.bl c) H:=λz=>k _ _ H z (.refl _) eZ
 cases e with
 | ty T=>
  rw[rep_ty rw'];cases d with
  | int i=>
   rw[b5 rv]
   by_cases h1:T="int"
   ·simp only[h1,if_true]at g;exact⟨_,gK,_,T,true,rfl,no g,.inl ⟨i,rfl,.inl ⟨h1,rfl⟩⟩⟩
   ·by_cases h2:T="bool"\/T="tuple"\/T="list"
    ·simp only[h1,h2,if_true,if_false]at g;exact⟨_,gK,_,T,false,rfl,no g,.inl ⟨i,rfl,.inr ⟨h2,rfl⟩⟩⟩
    ·simp only[h1,h2,if_false]at g
  | bl c=>
   rw[hR rv]
   by_cases h1:T="int"\/T="bool"
   ·simp only[h1,if_true]at g;exact⟨_,gK,_,T,true,rfl,no g,.inr (.inl ⟨c,rfl,h1,rfl⟩)⟩
   ·simp only[h1,if_false]at g
  | tup l=>
   obtain⟨a,vs,rfl,c,rs⟩:=rv.one
   by_cases h1:T="tuple"
   ·simp only[h1,if_true]at g;exact⟨_,gK,_,T,true,rfl,no g,.inr (.inr (.inl ⟨a,vs,rfl,c,.inl ⟨h1,rfl⟩⟩))⟩
   ·by_cases h2:T="int"\/T="list"
    ·simp only[h1,h2,if_true,if_false]at g;exact⟨_,gK,_,T,false,rfl,no g,.inr (.inr (.inl ⟨a,vs,rfl,c,.inr ⟨h2,rfl⟩⟩))⟩
    ·simp only[h1,h2,if_false]at g
  | lst l=>
   obtain⟨a,vs,rfl,c,rs⟩:=rv.one
   by_cases h1:T="list"
   ·simp only[h1,if_true]at g;exact⟨_,gK,_,T,true,rfl,no g,.inr (.inr (.inr ⟨a,vs,rfl,SqL.of c,.inl ⟨h1,rfl⟩⟩))⟩
   ·by_cases h2:T="int"\/T="tuple"
    ·simp only[h1,h2,if_true,if_false]at g;exact⟨_,gK,_,T,false,rfl,no g,.inr (.inr (.inr ⟨a,vs,rfl,SqL.of c,.inr ⟨h2,rfl⟩⟩))⟩
    ·simp only[h1,h2,if_false]at g
  | _=>exact(show False from g).elim
 | _=>exact(show False from g).elim
theorem wA {x:Str}{T:String}{p:Pos}(hg:Gl X x)(hm:X.mg x=none)(hv:bootBuiltins x=some (.type T))(hn:x≠"__name__":=by decide)(hd:(x==("__debug__":Str))=false:=by decide):PU X (.Name x p) (uC (.ty T)):=
 a46 (a34 (v:= .ty T) hg hm hv rfl hn hd) λA H=>by simp only[Rep]
def init (N:List Str)(ds:List D):Ev:=ds.map (λd=>some (.pu d))++replicate (N.length-ds.length) none
theorem jZ {N:List Str}{ds:List D}{i:Nat}{z:B}(h:(init N ds)[i]? =some (some z)): ∃d,z= .pu d/\ds[i]? =some d:=by
 unfold init at h
 by_cases hi:i<ds.length
 ·rw[getElem?_append_left (by simpa using hi),getElem?_map]at h
  cases e:ds[i]? with
  | none=>rw[e]at h;cases h
  | some d=>rw[e]at h;cases h;exact⟨d,rfl,rfl⟩
 ·rw[getElem?_append_right (by simpa using hi),getElem?_replicate]at h
  split at h<;>cases h
theorem a54 {N:List Str}{ds:List D}{vs:List V}(hA: ∀a,A a->H a≠none)(r:aS K A H ds vs):EOk K ⟨H,A⟩ (init N ds) (L2.start N vs) H:=by
 have own: ∀a,¬Own (init N ds) (L2.start N vs) a:=λa ⟨i,l,h1,_⟩=>by
  obtain⟨d,e,_⟩:=jZ h1;cases e
 refine⟨?_,λi d h=> ?_,λi l h=> ?_,λi j l l' a h=> ?_,λi l h=> ?_,.refl _,hA⟩
 ·unfold init L2.start;simp[r.length]
 ·obtain⟨d',e,e2⟩:=jZ h;cases e;obtain⟨v,h1,h2⟩:=r.get e2;refine⟨v,?_,h2.mono (.sub (.refl _) λa z=>z.elim id λz=>absurd z (own a))⟩
  unfold L2.start;have hv:i<vs.length:=(List.getElem?_eq_some_iff.mp h1).1;rw[getElem?_append_left (by simpa using hv),getElem?_map,h1]
  rfl
 ·obtain⟨d',e,_⟩:=jZ h;cases e
 ·obtain⟨d',e,_⟩:=jZ h;cases e
 ·obtain⟨d',e,_⟩:=jZ h;cases e
theorem wB {P:Program}{w:World}{K:Frag}{mg:Str->Option Value}{base:Heap}{x qual:Str}{st:Stmt}{f:Addr}{fd:FuncData}{N ps:List Str}{k:Nat}{φ:Φ}(F:Fun K x qual st f fd)(S:bX N ps (aF st))
  (len: ∀ds Q,φ ds Q->ds.length=ps.length)
  (body: ∀(cdv:Value) (A:Around) (outer:List Env) (s:Shared) (H:Hp) (E:XK),cT k (A.deeper (envOfC qual (aF st) s.heap.objs.size f cdv))->
   ∃t,eT (fY CX0 P w K mg base N qual (aF st) f cdv A outer s H E).nox (aV st) t/\ ∀ds Q,φ ds Q->t {nx:=λ_=>Q (.pu .non),rt:=Q} (init N ds)) :
  jU P w K mg base CX0 (k+1) f fd ps (spP K φ):=by
 refine F.ok S (λvs H Q E h=> ?_) (λcdv A outer s H vs Q E hr h=> ?_)
 ·obtain⟨A,ds,Q0,_,r,h,_⟩:=h;rw[<-r.length];exact len ds Q0 h
 ·obtain⟨A',ds,Q0,hA,r,h,q⟩:=h;obtain⟨t,ht,hq⟩:=body cdv A outer s H E hr;refine⟨_,ht,⟨H,A'⟩,init N ds,_,a54 hA r,hq ds Q0 h,⟨λρ σ H' z I=> ?_,λb v H' z s r=>q b v H' z s r,λ_ _ _ z=>z.elim,λ_ _ _ z=>z.elim⟩⟩
  exact q _ _ H' z I.ext (show Rep _ _ _ _ _ by simp only[Rep])
end
structure Fn (P:Program)(w:World)(K:Frag)(mg:Str->Option Value)(base:Heap)(x:Str)(ps:List Str)(k:Nat)(φ:Φ):Prop where
 ex: ∃f fd,jU P w K mg base CX0 k f fd ps (spP K φ)/\Binds K fd ps []/\keepIn K (.ref f)=true/\mg x=some (.ref f)
section
variable {X:Cx}{e:Expr}{es:List Expr}{pos:Pos}
theorem cZ {k k':Nat}{ps:List Str}{φ:Φ}{x:Str}{p:Pos}{t:UA}(F:Fn X.prog X.w X.K X.mg X.base x ps k φ)(hr:cT k' X.A)(hk:k<=k')(hg:Gl X x)(ha:PUA X (e::es) t)(hdb:(x==("__debug__":Str))=false:=by decide)
  (he:starEach (e::es) X.env=(false,eval e X.env)::starEach es X.env:=by rfl) (hpl:(backTo pos (starEach es X.env)).any (·.1)=false:=by rfl):PU X (.Call (.Name x p) (e::es) [] pos) (b9 φ t):=by
 obtain⟨f,fd,G,b,kp,m⟩:=F.ex;exact a47 (E:=E0) G (hr.mono hk) hg m kp b (λ_ _ _ _ _ _ _ h=>h.elim) ha hdb he hpl
theorem il {n i:Nat}(hn:X.N.length=n)(h:i<n): ∀pins σ H s,Inv X pins σ H s->i<σ.length:=λ_ _ _ _ I=>by rw[I.len,hn];exact h
theorem il2 {n i j:Nat}(hn:X.N.length=n)(h:i<n)(h':j<n): ∀pins σ H s,Inv X pins σ H s->i<σ.length/\j<σ.length:=λ_ _ _ _ I=>by rw[I.len,hn];exact⟨h,h'⟩
end
theorem Fn.mk' {P:Program}{w:World}{K:Frag}{mg:Str->Option Value}{base:Heap}{x qual:Str}{st:Stmt}{f:Addr}{fd:FuncData}{N ps:List Str}{k:Nat}{φ:Φ}(F:Fun K x qual st f fd)(m:mg x=some (.ref f))(b:Binds K fd ps [])(S:bX N ps (aF st))
  (len: ∀ds Q,φ ds Q->ds.length=ps.length) {t:US}
  (der: ∀(cdv:Value) (A:Around) (outer:List Env) (s:Shared) (H:Hp) (E:XK),cT k (A.deeper (envOfC qual (aF st) s.heap.objs.size f cdv))->eT (fY CX0 P w K mg base N qual (aF st) f cdv A outer s H E).nox (aV st) t)
  (rd: ∀ds Q,φ ds Q->t {nx:=λ_=>Q (.pu .non),rt:=Q} (init N ds)):Fn P w K mg base x ps (k+1) φ:=
 ⟨f,fd,wB F S len λcdv A outer s H E hr=>⟨t,der cdv A outer s H E hr,rd⟩,b,F.kp,m⟩
def qT:Φ:=λds Q=> ∃ns:List Int,ds=[.rol (ns.map .int)]/\ns.length<=63/\Q (.pu (.bl true))
theorem qU {K:Frag}{A:AS}{H:Hp}: ∀ns:List Int,aS K A H (ns.map .int) (ns.map V.int)
 | []=> .nil
 | n::ns=> .cons (by simp only[Rep]) (qU ns)
theorem law_sp {K:Frag}{H:Hp}{a:Addr}{ns:List Int}(hl:ns.length<=63)(hS:SqL K H a (ns.map V.int)):spP K qT [.ref a] H (λv _=>v= .bl true) (λ_ _ _=>False):=by
 refine⟨λ_=>False,[.rol (ns.map .int)],λb=>b= .pu (.bl true),λ_ z=>z.elim,.cons ?_ .nil,⟨ns,rfl,hl,rfl⟩,λb v H' q s r=> ?_⟩
 ·simp only[Rep];exact⟨a,_,rfl,hS.imp (λz=>⟨λz=>z,z⟩) id,qU ns⟩
 ·subst q;have r':Rep K (λ_=>False) H' (.bl true) v:=r
  exact hR r'
theorem walkM {l:PySem.W.OpenLaw}{k:Nat}{x:Str}{q:Program}{loose:List Str}{XP:(Str->Option Value)->Heap->Prop}{YP:World->Heap->Prop}{d:DefRec}{K:Params->Frag}(hn:l.most=some 63)(hdf:d.params.defaults=[])(hr:cT k callerA)
  (hY: ∀(w:World) (h:Heap),YP w h->(K w.params).In h)
  (F: ∀(w:World) (mg:Str->Option Value) (fa:Addr) (h:Heap),(K w.params).In h->h.Ns mainGlobals mg->mg d.name=some (.ref fa)->
   ∃fd:FuncData,(∀(s:Shared) (u:Value),BindsTo s fd ⟨[u],[]⟩ [(x,u)])/\ ∀base:Heap,(K w.params).In base->base.Ns mainGlobals mg->jU l.prog w (K w.params) mg base CX0 k fa fd [x] (spP (K w.params) qT)) :
  PySem.W.WalkO q loose XP YP l.row.toRowW d [] (λf vs=>PySem.call f vs):=
 L2.walk_of (n:=63) (k:=k) (x:=x) (CX:=λ_=>CX0) (sp:=λw=>spP (K w.params) qT) hn (by decide) hdf hr hY F (λ_ _ a ns hl _ hS=>law_sp hl hS) λ_ _ _ _ _ z=>z
end M
end
section
namespace L2
open PySem PySem.Spec PyProof.Rows
def b6 (X:Cx)(N:List Str)(scope:Scope)(cl:List (Str×Addr))(C:Addr)(s:Shared)(H:Hp)(fp:List Addr)(pins:List (Addr×Obj)):Cx where
 prog:=X.prog
 w:=X.w
 K:=X.K
 mg:=X.mg
 base:=X.base
 A:=X.A
 N:=N
 s₀:=s
 H₀:=H
 env:=compEnvC scope cl C X.env
 outer:=X.stack
 stack:=X.stack
 ex:=fp
 fn:=λx=>scope.names.lookup x==some .cell
 calm:=X.calm
 pn:=X.pn++pins
 xe:=λ_ _=>False
theorem jB {env:Env}: ∀(names:List (Str×NameKind)),(∀y∈names,y.2= .free-> ∃c,env.cells.lookup y.1=some c)-> ∀cs:List (Str×Addr),(∀x c,cs.lookup x=some c->env.cells.lookup x=some c)->
  ∃cl,(forIn names cs fun(x:Str×NameKind) r=>(do if(x.2==NameKind.free)=true then do let c<-cellOf env x.1;pure (ForInStep.yield ((x.1,c)::r))else pure (ForInStep.yield r)):Sem (List (Str×Addr)))=pure cl/\
   (∀x c,cl.lookup x=some c->env.cells.lookup x=some c)/\(∀x c,cs.lookup x=some c-> ∃c',cl.lookup x=some c')/\ ∀y∈names,y.2= .free-> ∃c,cl.lookup y.1=some c
 | [],_,cs,hcs=>⟨cs,rfl,hcs,λx c h=>⟨c,h⟩,λy hy=>by simp at hy⟩
 | (n,k)::r,h,cs,hcs=>by
  have hr: ∀y∈r,y.2= .free-> ∃c,env.cells.lookup y.1=some c:=λy hy=>h y (mem_cons_of_mem _ hy)
  by_cases hk:k= .free
  ·subst hk;obtain⟨c,hc⟩:=h (n,.free) mem_cons_self rfl;have e1:cellOf env n=pure c:=by unfold cellOf;rw[hc]
   have hcs': ∀x c',List.lookup x ((n,c)::cs)=some c'->env.cells.lookup x=some c':=λx c' q=>by
    rw[lookup_cons]at q;split at q
    ·rename_i e
     have:x=n:=by simpa using e
     subst this;cases q;exact hc
    ·exact hcs x c' q
   obtain⟨cl,h1,h2,h3,h4⟩:=jB r hr ((n,c)::cs) hcs';have hn: ∃c',cl.lookup n=some c':=h3 n c (by rw[lookup_cons];simp)
   refine⟨cl,?_,h2,λx c' q=> ?_,λy hy hf=> ?_⟩
   ·rw[forIn_cons];show(do let c<-cellOf env n;pure (ForInStep.yield ((n,c)::cs))) >>= _=_;rw[e1];exact h1
   ·by_cases z:x=n
    ·subst z;exact hn
    ·refine h3 x c' ?_
     rw[lookup_cons];have:(x==n)=false:=by simpa using z
     rw[this];exact q
   ·rcases List.mem_cons.mp hy with rfl|hy
    ·exact hn
    ·exact h4 y hy hf
  ·obtain⟨cl,h1,h2,h3,h4⟩:=jB r hr cs hcs;refine⟨cl,?_,h2,h3,λy hy hf=> ?_⟩
   ·rw[forIn_cons];have:(k==NameKind.free)=false:=by simpa using hk
    show(if(k==NameKind.free)=true then _ else _) >>= _=_
    rw[this];exact h1
   ·rcases List.mem_cons.mp hy with rfl|hy
    ·exact absurd hf hk
    ·exact h4 y hy hf
structure bK (env:Env)(XN N:List Str)(cap:List (Option Nat))(scope:Scope):Prop where
 kind:scope.kind= .function
 owns: ∀y∈scope.names,y.2= .cell->scope.names.lookup y.1=some .cell
 freeK: ∀y∈scope.names,y.2= .free->scope.names.lookup y.1=some .free
 names: ∀y∈scope.names,y.2= .local->scope.names.lookup y.1=some .local
 frees: ∀y∈scope.names,y.2= .free->env.kindOf y.1=some .cell\/env.kindOf y.1=some .free
 caps: ∀(i j:Nat) (x:Str),N[i]? =some x->cap[i]? =some (some j)->XN[j]? =some x/\(x,NameKind.free)∈scope.names/\scope.names.lookup x=some .free
 len:cap.length=N.length
def fX (σ:L2.St)(cap:List (Option Nat))(last:Nat)(D:Addr):L2.St:=(cap.map λc=>c.bind λj=>(σ[j]?).join).set last (some (.ref D))
theorem kA {env:Env}{x:Str}{k:NameKind}: ∀{names:List (Str×NameKind)},names.lookup x=some k->
  (names.map fun(n,k)=>if(k==NameKind.free&&env.scope.kind== .function&&env.kindOf n==some .cell)then(n,NameKind.cell)else(n,k)).lookup x=
   some (if(k==NameKind.free&&env.scope.kind== .function&&env.kindOf x==some .cell)then NameKind.cell else k)
 | [],h=>by simp at h
 | (n,k')::r,h=>by
  rw[map_cons];rw[lookup_cons]at h;dsimp only
  by_cases e:(x==n)=true
  ·have e':x=n:=by simpa using e
   subst e';rw[e]at h;cases h;split<;>simp
  ·have e2:(x==n)=false:=by simpa using e
   rw[e2]at h;have ih:=kA (env:=env) h;split
   ·rw[lookup_cons,e2];exact ih
   ·rw[lookup_cons,e2];exact ih
theorem eH {env:Env}{x:Str}{k:NameKind}: ∀{names:List (Str×NameKind)},(names.map fun(n,k)=>if(k==NameKind.free&&env.scope.kind== .function&&env.kindOf n==some .cell)then(n,NameKind.cell)else(n,k)).lookup x=some k->
  ∃k',names.lookup x=some k'/\(x,k')∈names/\(k=k'\/k'= .free)
 | [],h=>by simp at h
 | (n,k')::r,h=>by
  rw[map_cons]at h;dsimp only at h
  by_cases e:(x==n)=true
  ·have e':x=n:=by simpa using e
   subst e';refine⟨k',by rw[lookup_cons,e],mem_cons_self,?_⟩
   split at h
   ·rename_i c
    right
    simp only[and_eq_true,beq_iff_eq]at c;exact c.1.1
   ·rw[lookup_cons,e]at h;cases h;exact .inl rfl
  ·have e2:(x==n)=false:=by simpa using e
   have h':(r.map fun(n,k)=>if(k==NameKind.free&&env.scope.kind== .function&&env.kindOf n==some .cell)then(n,NameKind.cell)else(n,k)).lookup x=some k:=by
    split at h
    ·rw[lookup_cons,e2]at h;exact h
    ·rw[lookup_cons,e2]at h;exact h
   obtain⟨k2,h1,h2,h3⟩:=eH h';exact⟨k2,by rw[lookup_cons,e2];exact h1,mem_cons_of_mem _ h2,h3⟩
theorem n4 {x:Str}{c:Addr}: ∀(names:List (Str×NameKind)) (h:Heap) (acc:List (Str×Addr)),(cellsFrom h.objs.size names acc).lookup x=some c->
  acc.lookup x=some c\/(h.objs.size<=c/\(x,NameKind.cell)∈names/\(pushCells h names).IsCell c none)
 | [],_,_,e=> .inl e
 | (y,k)::r,h,acc,e=>by
  unfold cellsFrom at e;unfold pushCells
  by_cases hk:(k==NameKind.cell)=true
  ·rw[if_pos hk]at e⊢;have hk':k= .cell:=by simpa using hk
   have sz:(h.push {cls:= .type "cell",data:= .cell none}).objs.size=h.objs.size+1:=size_push ..;rw[<-sz]at e;rcases n4 r _ _ e with q| ⟨q1,q2,q3⟩
   ·rw[lookup_cons]at q;split at q
    ·rename_i e1
     have:x=y:=by simpa using e1
     subst this;cases q;exact .inr ⟨le_refl _,by rw[hk'];exact mem_cons_self,⟨_,pushCells_keeps _ _ _ _ (get?_push_size _ rfl),rfl⟩⟩
    ·exact .inl q
   ·exact .inr ⟨by lia,mem_cons_of_mem _ q2,q3⟩
  ·rw[if_neg hk]at e⊢;rcases n4 r h acc e with q| ⟨q1,q2,q3⟩
   ·exact .inl q
   ·exact .inr ⟨q1,mem_cons_of_mem _ q2,q3⟩
theorem n5: ∀(names:List (Str×NameKind)) (n:Nat) (acc:List (Str×Addr)),(∀x c,acc.lookup x=some c->c<n)->(∀x y c,acc.lookup x=some c->acc.lookup y=some c->x=y)->
  ∀x y c,(cellsFrom n names acc).lookup x=some c->(cellsFrom n names acc).lookup y=some c->x=y
 | [],_,_,_,hi=>hi
 | (z,k)::r,n,acc,hl,hi=>by
  unfold cellsFrom
  by_cases hk:(k==NameKind.cell)=true
  ·rw[if_pos hk];refine n5 r (n+1) _ (λx c e=> ?_) (λx y c e1 e2=> ?_)
   ·rw[lookup_cons]at e;split at e
    ·cases e;exact Nat.lt_succ_self n
    ·exact Nat.lt_succ_of_lt (hl x c e)
   ·rw[lookup_cons]at e1 e2;split at e1
    ·rename_i q1
     cases e1;split at e2
     ·rename_i q2
      exact(by simpa using q1:x=z).trans (by simpa using q2:y=z).symm
     ·exact absurd (hl y _ e2) (lt_irrefl _)
    ·split at e2
     ·cases e2;exact absurd (hl x _ e1) (lt_irrefl _)
     ·exact hi x y c e1 e2
  ·rw[if_neg hk];exact n5 r n acc hl hi
theorem gC {x:Str}{c:Addr}: ∀(names:List (Str×NameKind)) (n:Nat) (acc:List (Str×Addr)),((x,NameKind.cell)∈names\/ ∀c,acc.lookup x=some c->n<=c)->(cellsFrom n names acc).lookup x=some c->n<=c
 | [],_,_,h,e=>by
  rcases h with h|h
  ·simp at h
  ·exact h c e
 | (z,k)::r,n,acc,h,e=>by
  unfold cellsFrom at e
  by_cases hk:(k==NameKind.cell)=true
  ·rw[if_pos hk]at e;have hk':k= .cell:=by simpa using hk
   rcases h with h|h
   ·rcases List.mem_cons.mp h with h|h
    ·cases h;have:n<=c:=by
      by_cases q: ∃c',(cellsFrom (n+1) r ((x,n)::acc)).lookup x=some c'/\(x,NameKind.cell)∈r
      ·obtain⟨c',e',m⟩:=q;have:=gC (c:=c) r (n+1) _ (.inl m) e
       lia
      ·have nm:(x,NameKind.cell) ∉ r:=λm=>q ⟨c,e,m⟩
       have:=cells_keep r (n+1) ((x,n)::acc) nm;rw[this,lookup_cons]at e;simp at e;exact Nat.le_of_eq e
     exact this
    ·have:=gC (c:=c) r (n+1) _ (.inl h) e
     lia
   ·by_cases q:(x,NameKind.cell)∈r
    ·have:=gC (c:=c) r (n+1) _ (.inl q) e
     lia
    ·have:=cells_keep r (n+1) ((z,n)::acc) q;rw[this,lookup_cons]at e;split at e
     ·cases e;exact le_refl _
     ·exact h c e
  ·rw[if_neg hk]at e;refine gC (c:=c) r n acc (h.imp (λm=> ?_) id) e
   rcases List.mem_cons.mp m with m|m
   ·cases m;exact absurd (by decide) hk
   ·exact m
where
 cells_keep {x:Str}: ∀(names:List (Str×NameKind)) (n:Nat) (acc:List (Str×Addr)),(x,NameKind.cell) ∉ names->(cellsFrom n names acc).lookup x=acc.lookup x
 | [],_,_,_=>rfl
 | (z,k)::r,n,acc,h=>by
  unfold cellsFrom
  by_cases hk:(k==NameKind.cell)=true
  ·rw[if_pos hk];have hk':k= .cell:=by simpa using hk
   rw[cells_keep r (n+1) _ λm=>h (mem_cons_of_mem _ m),lookup_cons]
   split
   ·rename_i e
    have:x=z:=by simpa using e
    subst this;exact absurd (by rw[hk'];exact mem_cons_self) h
   ·rfl
  ·rw[if_neg hk];exact cells_keep r n acc λm=>h (mem_cons_of_mem _ m)
theorem cells_keep {x:Str}(names:List (Str×NameKind))(n:Nat)(acc:List (Str×Addr))(h:(x,NameKind.cell) ∉ names):(cellsFrom n names acc).lookup x=acc.lookup x:=gC.cells_keep names n acc h
theorem sD {M:Model}{A:Around}{E:Value->Shared->Prop}{s:Shared}{scope:Scope}{globals:Addr}{cl:List (Str×Addr)}{qual:Str}{env0:Env}{Q:Env->Shared->Prop}
  (hQ:Q {scope:=scope,locals:=s.heap.objs.size,globals:=globals,cells:=cellsFrom (s.heap.objs.size+1) scope.names cl,qual:=qual,func:=none,code:=env0.code,frame:=env0.frame,builtins:=env0.builtins} {s with heap:=pushCells (s.heap.push {cls:= .type "dict",data:= .dict #[]}) scope.names}) :
  wpAny M A (newFunctionEnv scope globals cl [] qual none .none (some env0)) Q E s:=by
 simp only[newFunctionEnv,Option.isSome_some,if_true];refine wpAny_bind (wpAny_alloc ?_);refine wpAny_bind (wpAny_layCells _ (λname kind cells=>by cases hkc:kind==NameKind.cell<;>simp[hkc]) _ _ _ _ ?_)
 rw[show({s with heap:=s.heap.push {cls:= .type "dict",data:= .dict #[]}}:Shared).heap.objs.size=s.heap.objs.size+1 from size_push ..]
 rw[forIn_nil];exact wpAny_bind (wpAny_pure (wpAny_pure hQ))
section
variable {X:Cx}{pins:List (Addr×Obj)}{σ:L2.St}{H:Hp}{s:Shared}{N:List Str}{cap:List (Option Nat)}{scope:Scope}
theorem t9 {fp:List Addr}{last:Nat}{D:Addr}{cl0 cl:List (Str×Addr)}{h1:Heap}{m0:Str->Option Value}{tk:Nat}(S:bK X.env X.N N cap scope)(I:Inv X pins σ H s)(hf: ∀b∈fp,mW X pins H b)(hfs: ∀b∈fp,b<s.heap.objs.size)
  (hcl: ∀x c,cl0.lookup x=some c->X.env.cells.lookup x=some c) (hcl2: ∀y∈scope.names,y.2= .free-> ∃c,cl0.lookup y.1=some c) (hN: ∀x,N[last]? =some x->scope.names.lookup x=none)
  (hns:h1.Ns s.heap.objs.size m0) (hk: ∀b o,s.heap.get? b=some o->h1.get? b=some o)
  (c1: ∀x c,cl.lookup x=some c->cl0.lookup x=some c\/(s.heap.objs.size<c/\h1.IsCell c none)) (c2: ∀x y c,cl.lookup x=some c->cl.lookup y=some c->x=y)
  (c3: ∀x,(x,NameKind.free)∈scope.names->cl.lookup x=cl0.lookup x) (c4: ∀x,scope.names.lookup x=some .cell-> ∃c,cl.lookup x=some c) (c5: ∀x c,scope.names.lookup x=some .cell->cl.lookup x=some c->s.heap.objs.size<=c) :
  Inv (b6 X N scope cl s.heap.objs.size s H fp pins) [] (fX σ cap last D) H {s with heap:=h1,toks:=tk}:=by
 have sz:X.base.objs.size<=s.heap.objs.size:=le_trans I.ok.bsz I.sz;have kindF: ∀x,(b6 X N scope cl s.heap.objs.size s H fp pins).env.kindOf x=some .cell\/(b6 X N scope cl s.heap.objs.size s H fp pins).env.kindOf x=some .free->(x,NameKind.free)∈scope.names\/scope.names.lookup x=some .cell:=λx h=>by
  have: ∃k,(k= .cell\/k= .free)/\(relabel scope X.env).names.lookup x=some k:=by
   rcases h with h|h
   ·exact⟨_,.inl rfl,h⟩
   ·exact⟨_,.inr rfl,h⟩
  obtain⟨k,hk,h⟩:=this;obtain⟨k',h1,h2,h3⟩:=eH h;rcases h3 with rfl|rfl
  ·rcases hk with rfl|rfl
   ·exact .inr (S.owns _ h2 rfl)
   ·exact .inl h2
  ·exact .inl h2
 have cne: ∀x c,cl.lookup x=some c-> ∀b∈fp,c≠b:=λx c h b hb=>by
  rcases c1 x c h with q| ⟨q,_⟩
  ·exact(hf b hb).2.2.2.2.1 x c (hcl x c q)
  ·exact λz=>by subst z;exact absurd (Nat.lt_trans q (hfs c hb)) (lt_irrefl _)
 refine⟨⟨I.ok.mod,S.kind,I.ok.glob,I.ok.blt,le_refl _,c2,λx h=> ?_,λx c h e=> ?_,I.ok.hd,I.ok.frames,.inl rfl,λb hb=> ?_,I.bs,sz,λb o e hb=> ?_,λb hb=> ?_,I.stack,I.stkFree⟩,
  rfl,I.bare,Un.kept hk,⟨m0,hns,λi x v e1 e2 e3=> ?_⟩,λx c h=> ?_,I.hok.fresh (le_refl _),λx c h=> ?_,λp hp=> ?_,I.hok.kept hk,?_⟩
 ·rcases kindF x h with q|q
  ·obtain⟨c,e⟩:=hcl2 _ q rfl;exact⟨c,(c3 x q).trans e⟩
  ·exact c4 x q
 ·exact c5 x c (by simpa using(show(scope.names.lookup x==some NameKind.cell)=true from h)) e
 ·exact⟨ne_of_lt (hfs b hb),λx c h=>cne x c h b hb⟩
 ·rcases(hf b hb).2.2.2.1 with z|z
  ·exact I.ok.noex b o e z
  ·have:=lt_size e;exact absurd (lt_of_lt_of_le this (le_trans I.ok.bsz z)) (lt_irrefl _)
 ·intro z;rcases List.mem_cons.mp (I.stkSub b z)with z|z
  ·exact(hf b hb).2.1 z
  ·exact(hf b hb).2.2.1 z
 ·have e1':N[i]? =some x:=e1;unfold fX at e2
  by_cases hl:last=i
  ·subst hl;have z:=hN x e1';rcases e3 with e3|e3|e3
   ·obtain⟨k',h1,_⟩:=eH (show(relabel scope X.env).names.lookup x=_ from e3)
    rw[z]at h1;cases h1
   ·obtain⟨k',h1,_⟩:=eH (show(relabel scope X.env).names.lookup x=_ from e3)
    rw[z]at h1;cases h1
   ·obtain⟨k',h1,_⟩:=eH (show(relabel scope X.env).names.lookup x=_ from e3)
    rw[z]at h1;cases h1
  ·rw[M.get_set_ne hl,getElem?_map]at e2;cases e4:cap[i]? with
   | none=>rw[e4]at e2;cases e2
   | some c=>
    rw[e4]at e2;cases c with
    | none=>cases e2
    | some j=>
     have e2':(σ[j]?).join=some v:=by simpa using e2
     have e5:σ[j]? =some (some v):=by
      cases q:σ[j]? with
      | none=>rw[q]at e2';cases e2'
      | some w=>rw[q]at e2';cases w with
       | none=>cases e2'
       | some w'=>cases e2';rfl
     obtain⟨a1,a2,a3⟩:=S.caps i j x e1' e4;have kx:=S.frees _ a2 rfl;obtain⟨m,hn,hl'⟩:=I.loc;have vis:Vis X.env.scope x:=by
      rcases kx with kx|kx
      ·exact .inr (.inl kx)
      ·exact .inr (.inr kx)
     obtain⟨u,r,l⟩:=hl' j x v a1 e5 vis;refine⟨u,r,.inr ⟨?_,?_⟩⟩
     ·have q:=kA (env:=X.env) a3;show(relabel scope X.env).names.lookup x=_\/(relabel scope X.env).names.lookup x=_;unfold relabel;dsimp only;rw[q];split
      ·exact .inl rfl
      ·exact .inr rfl
     ·rcases l with⟨l,_⟩| ⟨_,c,hc,hcell⟩
      ·rcases kx with kx|kx<;>·rw[kx]at l;cases l
      ·obtain⟨c',hc'⟩:=hcl2 _ a2 rfl;have:=hcl x c' hc';rw[hc]at this;cases this;obtain⟨o,ho,hd⟩:=hcell;exact⟨c,(c3 x a2).trans hc',o,hk _ _ ho,hd⟩
 ·rcases c1 x c h with q| ⟨_,q⟩
  ·obtain⟨v,o,ho,hd⟩:=I.cell x c (hcl x c q);exact⟨v,o,hk _ _ ho,hd⟩
  ·exact⟨_,q⟩
 ·rcases c1 x c h with q| ⟨q,_⟩
  ·exact I.freeC x c (hcl x c q)
  ·exact I.hok.fresh (le_of_lt q)
 ·have hp':p∈X.pn++pins:=by
   have:p∈(X.pn++pins)++[]:=hp
   simpa using this
  obtain⟨a1,a2,a3,a4,a5⟩:=I.pin p hp';refine⟨hk _ _ a1,a2,ne_of_lt (lt_size a1),λz=> ?_,a5⟩
  rcases List.mem_cons.mp (I.stkSub p.1 z)with z|z
  ·exact a3 z
  ·exact a4 z
 ·unfold fX;rw[length_set,length_map];exact S.len
theorem qV {fp:List Addr}{cl:List (Str×Addr)}{C:Addr}{σ':L2.St}{H':Hp}{s':Shared}{h2:Heap}{pins':List (Addr×Obj)}(I:Inv X pins σ H s)(hf: ∀b∈fp,mW X pins H b)(hC:s.heap.objs.size<=C)
  (I':Inv (b6 X N scope cl C s H fp pins) pins' σ' H' s') (hs:SameBut C s'.heap h2):Inv X pins σ H' {s' with heap:=h2}:=by
 have nC: ∀b o,s.heap.get? b=some o->b≠C:=λb o e z=>by
  subst z;exact absurd (lt_of_lt_of_le (lt_size e) hC) (lt_irrefl _)
 have get: ∀b,b≠C->h2.get? b=s'.heap.get? b:=λb hb=>hs.2 b hb
 have U:=I'.base;have u:Un (frs X.stack) fp H H' s.heap h2:=by
  refine⟨λb o e n h1 hx=> ?_,λb o e n h1 hx=> ?_,U.free,λb o e hx=> ?_,U.tups,U.frzs,U.tbls⟩
  ·rw[get b (nC b o e)];exact U.keep b o e n h1 hx
  ·rw[get b (nC b o e)];exact U.slot b o e n h1 hx
  ·rw[get b (nC b o e)];exact U.there b o e hx
 have fC:H' C=none:=I'.free;have hok:HOk X.prog X.w H' h2:=λa o e=>by
  have na:a≠C:=λz=>by subst z;rw[fC]at e;cases e
  refine(I'.hok a o e).stay (λb u hb q=> ?_) (λ_ q=>q) λ_ _ q=>q
  have nb:b≠C:=by
   rcases hb with rfl|hb
   ·exact na
   ·exact λz=>by subst z;rw[fC]at hb;cases hb
  rw[get b nb];exact q
 obtain⟨hh,gg,dd,tt,oo⟩:=s';have eo:oo=s.os:=I'.os;subst eo;have fin:=I.call (h':=h2) (g':=gg) (d':=dd) (t':=tt) (ch:=fp) u hok I'.bare λb hb=>⟨(hf b hb).2.2.2.1,(hf b hb).2.1,(hf b hb).2.2.2.2.1,(hf b hb).2.2.2.2.2⟩
 exact fin
end
theorem kB {prog:Program}{w:World}{A:Around}{R:Result->Shared->Prop}{s:Shared}{elt target iter:Expr}{ifs:List Expr}{scope:Scope}{pos:Pos}{it acc:Value}{env:Env}(I:Nat->Shared->Prop)
  (turn: ∀n s,I n s->wpAny (model prog w) A (pyNext it) (λr s₁=>match r with
   | none=>R (.ok .next) s₁
   | some v=>wpAny (model prog w) A (letOwnedTupleGo target it v) (λ_ s₂=>wpAny (model prog w) A (assign target env v) (λ_ s₂=>
     wpAny (model prog w) A (forIn ifs true λc r=>if r=true then do let ok<-isTrue c env (eval c env);pure (ForInStep.yield ok)else pure (ForInStep.yield r)) (λok s₃=>
      if ok=true then wpAny (model prog w) A (eval elt env) (λx s₄=>
       wpAny (model prog w) A (call (.builtin "list.append") [acc,x]) (λ_ s₅=> ∃m,m<n/\I m s₅) (notedBy (model prog w) A env λe s'=>R (.error e) s') s₄) (notedBy (model prog w) A env λe s'=>R (.error e) s') s₃
      else ∃m,m<n/\I m s₃) (notedBy (model prog w) A env λe s'=>R (.error e) s') s₂) (notedBy (model prog w) A env λe s'=>R (.error e) s') s₂) (notedBy (model prog w) A env λe s'=>R (.error e) s') s₁) (notedBy (model prog w) A env λe s'=>R (.error e) s') s)
  (n:Nat) (h:I n s):codeAny (model prog w) A (.compLoop (.ListComp elt [⟨target,iter,ifs,0⟩] scope pos) 0 it acc env) R s:=by
 refine codeAny_loop rfl I (λn s hI=> ?_) n h
 show wpAny _ A ((compTurn (.ListComp elt [⟨target,iter,ifs,0⟩] scope pos) 0 it acc env).onRaise (λx=>do noteFrame x env;theTreesLotGoes x)) _ _ s
 refine wpAny_noted ?_
 rw[compTurn_list];refine wpAny_bind (wpAny_standAt (wpAny_bind (wpAny_mono (turn n s hI) (λr s₁ h₁=> ?_) λ_ _ h'=>h')))
 cases r with
 | none=>exact wpAny_pure h₁
 | some v=>
  refine wpAny_bind (wpAny_mono h₁ (λ_ s₂ h₂=>wpAny_bind (wpAny_mono h₂ (λ_ s₂ h₂=>wpAny_bind (wpAny_mono h₂ (λok s₃ h₃=> ?_) λ_ _ h'=>h')) λ_ _ h'=>h')) λ_ _ h'=>h')
  cases ok with
  | false=>exact wpAny_pure ⟨rfl,h₃⟩
  | true=>
   exact wpAny_bind (wpAny_bind (wpAny_mono h₃ (λx s₄ h₄=>wpAny_bind (wpAny_mono h₄ (λ_ s₅ h₅=>wpAny_pure (wpAny_pure ⟨rfl,h₅⟩)) λ_ _ h'=>h')) λ_ _ h'=>h'))
def PTs (X:Cx)(ifs:List Expr)(t:TT):Prop:=
 ∀(pins:List (Addr×Obj)) (s:Shared) (σ:L2.St) (H:Hp) (Q:Bool->Hp->Prop),Inv X pins σ H s->t σ H Q->
  wpAny (model X.prog X.w) X.A (forIn ifs true λc r=>if r=true then do let ok<-isTrue c X.env (eval c X.env);pure (ForInStep.yield ok)else pure (ForInStep.yield r)) (TP X pins σ Q) X.xe s
theorem a55 {X:Cx}:PTs X [] (λ_ H Q=>Q true H):=λpins s σ H Q I h=>wpAny_tests_nil ⟨H,I,h⟩
def wC (cap:List (Option Nat))(last:Nat)(wi:TI)(g:TG)(tt:TT)(te:TE):TE:=λσ H Q=>wi σ H λJ H1=> ∀D,H1 D=none-> ∃W:Nat->Nat->L2.St->Hp->Prop,(∃m,W 0 m (fX σ cap last D) (upd H1 D (.lst [])))/\ ∀i m σ' H',W i m σ' H'->
 (J.stop i H'/\Q (.ref D) H')\/(J.go i H'/\ ∃Nx:L2.St->Hp->Prop,(∀σ2 H2,Nx σ2 H2-> ∃m',m'<m/\W (i+1) m' σ2 H2)/\ ∀x H2,J.yld i H' x H2->g x σ' H2 λσ3 H3=>tt σ3 H3 λc H4=>
  if c=true then te σ3 H4 λy H5=> ∃ys,H5 D=some (.lst ys)/\ys.length<sizeLine/\Nx σ3 (upd H5 D (.lst (ys++[y])))else Nx σ3 H4)
theorem qW {X:Cx}{RR:Value->Addr->Result->Shared->Prop}{elt iter tg:Expr}{ifs:List Expr}{scope:Scope}{pos:Pos}{N:List Str}{cap:List (Option Nat)}{last:Nat}{wi:TI}{g:TG}{tt:TT}{te:TE}(hc:X.calm=true)(hi:PI X tg iter wi)(S:bK X.env X.N N cap scope)
  (hN: ∀x,N[last]? =some x->scope.names.lookup x=none)
  (hg: ∀cl C s H fp pins,PG (b6 X N scope cl C s H fp pins) tg g) (ht: ∀cl C s H fp pins,PTs (b6 X N scope cl C s H fp pins) ifs tt) (he: ∀cl C s H fp pins,PE (b6 X N scope cl C s H fp pins) elt te)
  {pins:List (Addr×Obj)} {s:Shared} {σ:L2.St} {H:Hp} {Q:VK} {cl:List (Str×Addr)} (I:Inv X pins σ H s) (h:wC cap last wi g tt te σ H Q) (hcl: ∀x c,cl.lookup x=some c->X.env.cells.lookup x=some c) (hcl2: ∀y∈scope.names,y.2= .free-> ∃c,cl.lookup y.1=some c)
  (fin: ∀(D:Addr) (fp:List Addr) (H3:Hp) (s3:Shared) (σ':L2.St) (H':Hp) (s':Shared),Inv X pins σ H3 s3->(∀b∈fp,mW X pins H3 b)->Inv (b6 X N scope (cellsFrom (s3.heap.objs.size+1) scope.names cl) s3.heap.objs.size s3 H3 fp pins) [] σ' H' s'->Q (.ref D) H'->RR (.ref D) s3.heap.objs.size (.ok .next) s') :
  wpAny (model X.prog X.w) X.A (eval iter X.env) (λx s₁=>wpAny (model X.prog X.w) X.A (pyIter x) (λit s₂=>wpAny (model X.prog X.w) X.A (newList []) (λacc s₃=>
   wpAny (model X.prog X.w) X.A (newFunctionEnv scope X.env.globals cl [] X.env.qual none .none (some X.env)) (λcenv s₄=>
    codeAny (model X.prog X.w) X.A (.compStart (.ListComp elt [⟨tg,iter,ifs,0⟩] scope pos) 0 it acc {cenv with scope:=relabel scope X.env}) (RR acc cenv.locals) s₄) X.xe s₃) X.xe s₂) X.xe s₁) X.xe s:=by
 refine thn (hi pins s σ H _ I h) λxv s1 h1=>thn h1 λit s2 h2=> ?_
 obtain⟨ita,fp,tn,J,H2,rfl,I2,T,st2,f2,q⟩:=h2;refine wpAny_newObj_type ?_ (by show 0<=sizeLine;decide)
 have fD:H2 s2.heap.objs.size=none:=I2.hok.fresh (le_refl _);obtain⟨W,⟨m0,w0⟩,turn⟩:=q s2.heap.objs.size fD;have I3:Inv X pins σ (upd H2 s2.heap.objs.size (.lst [])) {s2 with heap:=s2.heap.push {cls:= .type "list",data:= .seq ([]:List Value).toArray}}:=I2.lnew (t':=s2.toks) .nil (zero_le _);have fpne: ∀b∈fp,b≠s2.heap.objs.size:=λb hb=>by
  obtain⟨o,ho,_⟩:=T.obj 0 _ st2 b hb;exact ne_of_lt (lt_size ho)
 have f3: ∀b∈fp,mW X pins (upd H2 s2.heap.objs.size (.lst [])) b:=λb hb=>⟨by rw[bF (fpne b hb)];exact(f2 b hb).1,(f2 b hb).2⟩
 have k23: ∀b o,s2.heap.get? b=some o->(s2.heap.push {cls:= .type "list",data:= .seq ([]:List Value).toArray}).get? b=some o:=λb o e=>get?_push_of_some _ e
 have st3:tn 0 (s2.heap.push {cls:= .type "list",data:= .seq ([]:List Value).toArray}):=T.keep 0 _ _ st2 λb hb o e=>k23 b o e
 have fps: ∀b∈fp,b< (s2.heap.push {cls:= .type "list",data:= .seq ([]:List Value).toArray}).objs.size:=λb hb=>by
  obtain⟨o,ho,_⟩:=T.obj 0 _ st3 b hb;exact lt_size ho
 generalize hS3:({s2 with heap:=s2.heap.push {cls:= .type "list",data:= .seq ([]:List Value).toArray}}:Shared)=s3 at I3;have hh3:s3.heap=s2.heap.push {cls:= .type "list",data:= .seq ([]:List Value).toArray}:=by rw[<-hS3]
 rw[<-hh3]at st3 fps;refine sD ?_;have sz3:(s3.heap.push {cls:= .type "dict",data:= .dict #[]}).objs.size=s3.heap.objs.size+1:=size_push ..;have hns₁:(pushCells (s3.heap.push {cls:= .type "dict",data:= .dict #[]}) scope.names).Ns s3.heap.objs.size (λ_=>none):=(Heap.Ns.new s3.heap (.type "dict")).keeps (pushCells_keeps _ _)
 have k34: ∀b o,s3.heap.get? b=some o->(pushCells (s3.heap.push {cls:= .type "dict",data:= .dict #[]}) scope.names).get? b=some o:=λb o e=>pushCells_keeps _ _ _ _ (get?_push_of_some _ e)
 have I4:=t9 (tk:=s3.toks) (last:=last) (D:=s2.heap.objs.size) (cl:=cellsFrom (s3.heap.objs.size+1) scope.names cl) S I3 f3 fps hcl hcl2 hN hns₁ k34
  (λx c e=>by
   rw[<-sz3]at e;rcases n4 _ _ _ e with q| ⟨q1,_,q3⟩
   ·exact .inl q
   ·exact .inr ⟨by lia,q3⟩)
  (n5 _ _ _ (λx c e=>by
   obtain⟨v,q⟩:=I3.cell x c (hcl x c e);exact Nat.lt_succ_of_lt q.lt) λx y c e1 e2=>I3.ok.inj x y c (hcl x c e1) (hcl y c e2))
  (λx m=>cells_keep _ _ _ λm'=>by
   have h1:=S.owns _ m' rfl;have h2:=S.freeK _ m rfl;rw[h1]at h2;cases h2)
  (λx e=>Option.isSome_iff_exists.mp (cellsFrom_some _ _ _ (.inl e)))
  (λx c e1 e2=>by
   have:=gC scope.names (s3.heap.objs.size+1) cl (.inl (PySem.mem_of_lookup e1)) e2
   lia)
 have st4:tn 0 (pushCells (s3.heap.push {cls:= .type "dict",data:= .dict #[]}) scope.names):=T.keep 0 _ _ st3 λb hb o e=>k34 b o e
 generalize hcl':cellsFrom (s3.heap.objs.size+1) scope.names cl=cl' at I4;have loop:codeAny (model X.prog X.w) X.A (.compLoop (.ListComp elt [⟨tg,iter,ifs,0⟩] scope pos) 0 (.ref ita) (.ref s2.heap.objs.size) (compEnvC scope cl' s3.heap.objs.size X.env))
   (RR (.ref s2.heap.objs.size) s3.heap.objs.size) {s3 with heap:=pushCells (s3.heap.push {cls:= .type "dict",data:= .dict #[]}) scope.names,toks:=s3.toks}:=by
  have stat: ∀{H':Hp},(∀b∈fp,H' b=none)-> ∀b∈fp,mW (b6 X N scope cl' s3.heap.objs.size s3 (upd H2 s2.heap.objs.size (.lst [])) fp pins) [] H' b:=λ{H'} hn b hb=>by
   refine⟨hn b hb,ne_of_lt (fps b hb),λz=> ?_,.inl hb,λx c e=>(I4.ok.exf b hb).2 x c e,λp hp=> ?_⟩
   ·rcases List.mem_cons.mp (I3.stkSub b z)with z|z
    ·exact(f3 b hb).2.1 z
    ·exact(f3 b hb).2.2.1 z
   ·have:p∈(X.pn++pins)++[]:=hp;exact(f3 b hb).2.2.2.2.2 p (by simpa using this)
  have hcb:(b6 X N scope cl' s3.heap.objs.size s3 (upd H2 s2.heap.objs.size (.lst [])) fp pins).calm=true:=hc;refine kB (λn s'=> ∃i σ' H',Inv (b6 X N scope cl' s3.heap.objs.size s3 (upd H2 s2.heap.objs.size (.lst [])) fp pins) [] σ' H' s'/\tn i s'.heap/\(∀b∈fp,H' b=none)/\W i n σ' H') ?_ m0 ⟨0,_,_,I4,st4,λb hb=>(f3 b hb).1,w0⟩
  rintro n s5 ⟨i,σ5,H5,I5,st5,fr5,w5⟩;rcases turn i n σ5 H5 w5 with⟨stop,qn⟩| ⟨go,Nx,hNx,step⟩
  ·refine wpAny_mono (T.done (b6 X N scope cl' s3.heap.objs.size s3 (upd H2 s2.heap.objs.size (.lst [])) fp pins) rfl rfl rfl hcb i [] s5 σ5 H5 (λ_ _=>False) I5 (stat fr5) st5 stop) (λr s6 hr=> ?_) (λ_ _ z=>z.elim)
   obtain⟨rfl,I6⟩:=hr;exact fin _ fp _ s3 σ5 H5 s6 I3 f3 (hcl'▸I6) qn
  ·refine wpAny_mono (T.item (b6 X N scope cl' s3.heap.objs.size s3 (upd H2 s2.heap.objs.size (.lst [])) fp pins) rfl rfl rfl hcb i [] s5 σ5 H5 (λ_ _=>False) I5 (stat fr5) st5 go) (λr s6 hr=> ?_) (λ_ _ z=>z.elim)
   obtain⟨u,rfl,h6⟩:=hr;refine wpAny_mono h6 (λ_ s7 h7=> ?_) (λ_ _ z=>z.elim)
   obtain⟨x,H7,I7,r7,y7,st7,fr7⟩:=h7;have I7':=I7.pinned (stat fr7) (T.obj _ _ st7);refine wpAny_mono (hg _ _ _ _ _ _ _ s7 σ5 H7 x u _ I7' r7 (step x H7 y7)) (λ_ s8 h8=> ?_) (λ_ _ z=>False.elim z)
   obtain⟨σ8,H8,I8,q8⟩:=h8;have again: ∀{σ9:L2.St} {H9:Hp} {s9:Shared},Inv (b6 X N scope cl' s3.heap.objs.size s3 (upd H2 s2.heap.objs.size (.lst [])) fp pins) ([]++oE fp s7.heap) σ9 H9 s9->Nx σ9 H9-> ∃m,m<n/\ ∃i σ' H',Inv (b6 X N scope cl' s3.heap.objs.size s3 (upd H2 s2.heap.objs.size (.lst [])) fp pins) [] σ' H' s9/\tn i s9.heap/\(∀b∈fp,H' b=none)/\W i m σ' H':=λ{σ9 H9 s9} I9 n9=>by
    obtain⟨m',hm,w9⟩:=hNx σ9 H9 n9;refine⟨m',hm,i+1,σ9,H9,I9.unpinned,T.keep _ _ _ st7 λb hb o e=>(I9.pin (b,o) (mem_append_right _ (mem_append_right _ (j8 hb e)))).1,λb hb=> ?_,w9⟩
    obtain⟨o,e,d⟩:=T.obj _ _ st7 b hb;exact(I9.pin (b,o) (mem_append_right _ (mem_append_right _ (j8 hb e)))).2.1
   refine wpAny_mono (ht _ _ _ _ _ _ _ s8 σ8 H8 _ I8 q8) (λc s9 h9=> ?_) (λ_ _ z=>False.elim z)
   obtain⟨H9,I9,q9⟩:=h9;cases c with
   | false=>exact again I9 q9
   | true=>
    rw[if_pos rfl]at q9⊢;refine wpAny_mono (he _ _ _ _ _ _ _ s9 σ8 H9 _ I9 q9) (λv s10 h10=> ?_) (λ_ _ z=>False.elim z)
    obtain⟨y,H10,I10,r10,ys,e10,z10,q10⟩:=h10;refine wpAny_mono (qO (X:=(b6 X N scope cl' s3.heap.objs.size s3 (upd H2 s2.heap.objs.size (.lst [])) fp pins)) _ s10 σ8 H10 (.ref s2.heap.objs.size) [y] (.ref s2.heap.objs.size) [v] (λv H=>v= .non/\Nx σ8 H) I10 rfl (.cons r10 .nil) ⟨_,ys,y,rfl,rfl,e10,z10,rfl,q10⟩) (λ_ s11 h11=> ?_) (λ_ _ z=>False.elim z)
    obtain⟨_,H11,I11,_,_,q11⟩:=h11;exact again I11 q11
 exact codeAny_compStart_list loop (T.self _ 0 _ _ _ st4 loop)
theorem kY {X:Cx}{N:List Str}{cap:List (Option Nat)}{scope:Scope}{pins:List (Addr×Obj)}{s:Shared}{σ:L2.St}{H:Hp}(S:bK X.env X.N N cap scope)(I:Inv X pins σ H s) :
  ∃cl,closureFor scope X.env=pure cl/\(∀x c,cl.lookup x=some c->X.env.cells.lookup x=some c)/\ ∀y∈scope.names,y.2= .free-> ∃c,cl.lookup y.1=some c:=by
 obtain⟨cl,h1,h2,_,h4⟩:=jB (env:=X.env) scope.names (λy hy hf=>I.ok.has y.1 (S.frees y hy hf)) [] (λx c q=>by simp at q)
 refine⟨cl,?_,h2,h4⟩
 have e:closureFor scope X.env=(forIn scope.names [] fun(x:Str×NameKind) r=>(do if(x.2==NameKind.free)=true then do let c<-cellOf X.env x.1;pure (ForInStep.yield ((x.1,c)::r))else pure (ForInStep.yield r)):Sem (List (Str×Addr))) >>= λr=>pure r:=by
  rfl
 rw[e,h1];rfl
theorem a56 {X:Cx}{elt iter tg:Expr}{ifs:List Expr}{scope:Scope}{pos:Pos}{N:List Str}{cap:List (Option Nat)}{last:Nat}{wi:TI}{g:TG}{tt:TT}{te:TE}(hc:X.calm=true)(hi:PI X tg iter wi)(S:bK X.env X.N N cap scope)
  (hN: ∀x,N[last]? =some x->scope.names.lookup x=none)
  (hg: ∀cl C s H fp pins,PG (b6 X N scope cl C s H fp pins) tg g) (ht: ∀cl C s H fp pins,PTs (b6 X N scope cl C s H fp pins) ifs tt) (he: ∀cl C s H fp pins,PE (b6 X N scope cl C s H fp pins) elt te)
  (hs: ∀x,foldedSetIterable iter X.env x=pure x:=by intro _;rfl):PE X (.ListComp elt [⟨tg,iter,ifs,0⟩] scope pos) (wC cap last wi g tt te):=by
 intro pins s σ H Q I h;rw[eval_ListComp];obtain⟨cl,hcl0,hcl,hcl2⟩:=kY S I;refine wpAny_comprehension_free (use:=none) rfl hs hcl0 S.kind S.names ?_;refine qW (RR:=λacc C=>compPost (model X.prog X.w) X.A X.xe none (EP X pins σ Q) acc C) hc hi S hN hg ht he I h hcl hcl2 λD fp H3 s3 σ' H' s' I3 f3 I' q=> ?_
 obtain⟨m6,hn6,_⟩:=I'.loc;exact⟨m6,hn6,λh' hs'=>⟨.ref D,H',qV I3 f3 (le_refl _) I' hs',rfl,q⟩⟩
theorem oM {X:Cx}{elt iter tg:Expr}{ifs:List Expr}{scope:Scope}{pos spos py:Pos}{y:Str}{i:Nat}{N:List Str}{cap:List (Option Nat)}{last:Nat}{wi:TI}{g:TG}{tt:TT}{te:TE}(hc:X.calm=true)(hi:PI X tg iter wi)(S:bK X.env X.N N cap scope)
  (hN: ∀x,N[last]? =some x->scope.names.lookup x=none)
  (hg: ∀cl C s H fp pins,PG (b6 X N scope cl C s H fp pins) tg g) (ht: ∀cl C s H fp pins,PTs (b6 X N scope cl C s H fp pins) ifs tt) (he: ∀cl C s H fp pins,PE (b6 X N scope cl C s H fp pins) elt te)
  (hy:PG X (.Name y py) (kX i)) (hsw:swapsWith (.ListComp elt [⟨tg,iter,ifs,0⟩] scope pos) (some (.Name y py)) spos.line X.env=pure true:=by rfl)
  (hs: ∀x,foldedSetIterable iter X.env x=pure x:=by intro _;rfl):PS X (.Assign [.Name y py] (.ListComp elt [⟨tg,iter,ifs,0⟩] scope pos) spos) (tAsg (wC cap last wi g tt te) (kX i)):=by
 intro pins s σ H D I h;rw[exec_Assign_Name_used _ _ _ _ hsw];refine wpAny_bind (wpAny_standAt (wpAny_bind ?_));obtain⟨cl,hcl0,hcl,hcl2⟩:=kY S I;show wpAny _ X.A (do let _<-comprehension (.ListComp elt [⟨tg,iter,ifs,0⟩] scope pos) scope X.env _ (newList []) false (eval iter X.env) (some (assign (.Name y py) X.env))) _ _ s
 refine wpAny_bind (wpAny_mono (wpAny_comprehension_free (use:=some (assign (.Name y py) X.env)) (Q:=λ_ s'=>SP X pins D .next s') rfl hs hcl0 S.kind S.names ?_) (λ_ s' hq=>wpAny_pure (wpAny_pure hq)) λ_ _ e=>e)
 refine qW (RR:=λacc C=>compPost (model X.prog X.w) X.A X.xe (some (assign (.Name y py) X.env)) (λ_ s'=>SP X pins D .next s') acc C) hc hi S hN hg ht he I h hcl hcl2 λD' fp H3 s3 σ' H' s' I3 f3 I' q=> ?_
 obtain⟨m6,hn6,_⟩:=I'.loc;obtain⟨o6,es6,ep6,ho6,rest6⟩:=id hn6;have J:Inv X pins σ H' s':=qV (h2:=s'.heap) I3 f3 (le_refl _) I' (.refl ..);have fC:H' s3.heap.objs.size=none:=I'.free;have neL:s3.heap.objs.size≠X.env.locals:=ne_of_gt I3.lt;have neF:s3.heap.objs.size ∉ X.fs:=I3.nofs (le_refl _);have neC: ∀x c,X.env.cells.lookup x=some c->c≠s3.heap.objs.size:=λx c e z=>by
  obtain⟨v,qq⟩:=I3.cell x c e;exact absurd (lt_of_lt_of_le qq.lt (by rw[z];exact le_refl _)) (lt_irrefl _)
 have neP: ∀p∈X.pn++pins,p.1≠s3.heap.objs.size:=λp hp z=>by
  have:=lt_size (I3.pin p hp).1;rw[z]at this;exact lt_irrefl _ this
 have nd: ∀v,o6.data≠ .cell v:=λv z=>by
  have:o6.data= .dict es6 ep6:=rest6.1;rw[this]at z;cases z
 have J':Inv X (pins++[(s3.heap.objs.size,o6)]) σ H' s':=J.pins_of λp hp=>(List.mem_append.mp hp).elim (λz=>J.pin p (mem_append_right _ z)) λz=>by
  have e:p=(s3.heap.objs.size,o6):=by simpa using z
  subst e;exact⟨ho6,fC,neL,neF,nd⟩
 show wpAny _ X.A (assign (.Name y py) X.env (.ref D')) _ _ _
 refine thn (hy _ s' σ H' (.ref D') (.ref D') D.nx J' rfl q) λ_ s7 ⟨σ7,H7,I7,q7⟩=> ?_
 obtain⟨e7,n7,_⟩:=I7.pin (s3.heap.objs.size,o6) (mem_append_right _ (mem_append_right _ (by simp)))
 refine⟨m6,⟨o6,es6,ep6,e7,rest6⟩,λh' hs'=> ?_⟩
 have I8:=I7.unpinned;exact⟨σ7,H7,I8.turned (t':=s7.toks) (λb o hb e=>(hs'.2 b hb).trans e) n7 neL (.inr (le_trans I3.sz (le_refl _))) neC neP,q7⟩
end L2
namespace M
open PySem PySem.Spec PyProof.Rows L2
def a57:B->B
 | .pu d=> .pu d
 | .ow l=> .bo l
 | .bo l=> .bo l
def hW (ρ:Ev)(cap:List (Option Nat))(last:Nat):Ev:=(cap.map λc=>c.bind λj=>((ρ[j]?).join).map a57).set last (some (.ow []))
def a58 (ρ:Ev)(j:Nat):Ev:=match ρ[j]? with
 | some (some (.ow l))=>ρ.set j (some (.pu (.lst l)))
 | _=>ρ
def n6:Ev->List Nat->Ev
 | ρ,[]=>ρ
 | ρ,j::js=>n6 (a58 ρ j) js
theorem yX (ρ:Ev)(j:Nat):Frz ρ (a58 ρ j):=by
 unfold a58;split
 ·rename_i l e
  exact .set e
 ·exact .refl _
theorem tD: ∀(js:List Nat) (ρ:Ev),Frz ρ (n6 ρ js)
 | [],ρ=> .refl _
 | j::js,ρ=>(yX ρ j).trans (tD js _)
def d7 (js:List Nat)(cap:List (Option Nat))(last:Nat)(ui:UI)(g:UG)(tt:UT)(te:UE):UE:=λρ Q=>ui ρ λn it ρ1=> ∃Pv:Nat->Ev->Prop,Pv 0 (hW (n6 ρ1 js) cap last)/\
 (∀i ρ',i<n->Pv i ρ'->g (.pu (it i)) ρ' λρ2=>tt ρ2 λc ρ3=>if c=true then te ρ3 λb ρ4=>eX ρ4 last λl=>l.length<sizeLine/\Pv (i+1) (ρ4.set last (some (.ow (l++[b.d]))))else Pv (i+1) ρ3)/\
 ∀ρ',Pv n ρ'->eX ρ' last λl=>Q (.ow l) (n6 ρ1 js)
section
variable {X:Cx}{K:Frag}{C:C0}{ρ ρ':Ev}{σ σ':L2.St}{H H':Hp}
theorem yY {cap:List (Option Nat)}{last:Nat}{Dn:Addr}(I:EOk K C ρ σ H)(hl:last<cap.length)(n:H Dn=none) :
  EOk K ⟨H,Av C ρ σ⟩ (hW ρ cap last) (fX σ cap last Dn) (upd H Dn (.lst [])):=by
 have pu: ∀(i:Nat) (z:B),last≠i->(hW ρ cap last)[i]? =some (some z)-> ∃(j:Nat) (z':B),cap[i]? =some (some j)/\z=a57 z'/\ρ[j]? =some (some z'):=λi z ne h=>by
  unfold hW at h;rw[get_set_ne ne,getElem?_map]at h;cases e4:cap[i]? with
  | none=>rw[e4]at h;cases h
  | some c=>
   rw[e4]at h;cases c with
   | none=>cases h
   | some j=>
    have h':((ρ[j]?).join).map a57=some z:=by simpa using h
    cases q:ρ[j]? with
    | none=>rw[q]at h';cases h'
    | some w=>
     rw[q]at h';cases w with
     | none=>cases h'
     | some w'=>cases h';exact⟨j,w',rfl,rfl,q⟩
 have sgm: ∀(i j:Nat) (v:V),last≠i->cap[i]? =some (some j)->σ[j]? =some (some v)->(fX σ cap last Dn)[i]? =some (some v):=λi j v e e1 h1=>by
  unfold fX;rw[get_set_ne e,getElem?_map,e1];show some ((σ[j]?).join)=_;rw[h1];rfl
 have atl:(hW ρ cap last)[last]? =some (some (.ow [])):=by
  unfold hW;exact aU (by rw[length_map];exact hl)
 have sal:(fX σ cap last Dn)[last]? =some (some (.ref Dn)):=by
  unfold fX;exact aU (by rw[length_map];exact hl)
 have noOw: ∀(i:Nat) (l:List D),last≠i->(hW ρ cap last)[i]? ≠some (some (.ow l)):=λi l e h=>by
  obtain⟨j,z',_,z,_⟩:=pu i _ e h;cases z'<;>cases z
 have own: ∀a,Own (hW ρ cap last) (fX σ cap last Dn) a->a=Dn:=λa ⟨i,l,h1,h2⟩=>by
  by_cases e:last=i
  ·subst e;rw[sal]at h2;cases h2;rfl
  ·exact absurd h1 (noOw i l e)
 have P:e6 (Av C ρ σ) H (Av ⟨H,Av C ρ σ⟩ (hW ρ cap last) (fX σ cap last Dn)) (upd H Dn (.lst [])):=λb o nb e=>by
  have ne:b≠Dn:=λz=>by subst z;rw[n]at e;cases e
  refine⟨?_,by rw[bF ne];exact e⟩
  rintro(z|z)
  ·exact nb z
  ·exact ne (own b z)
 refine⟨by unfold hW fX;rw[length_set,length_set,length_map,length_map],λi d h=> ?_,λi l h=> ?_,λi j l l' a h1 h2 h3 h4=> ?_,λi l h=> ?_,bL n _,λa z=>I.avSome z⟩
 ·by_cases e:last=i
  ·subst e;rw[atl]at h;cases h
  ·obtain⟨j,z',e1,z,e2⟩:=pu i _ e h;cases z' with
   | pu d'=>
    cases z;obtain⟨v,h1,h2⟩:=I.pu j d e2;exact⟨v,sgm i j v e e1 h1,h2.mono P⟩
   | ow l=>cases z
   | bo l=>cases z
 ·by_cases e:last=i
  ·subst e;rw[atl]at h;cases h;exact⟨Dn,[],sal,fM,n,.nil⟩
  ·exact absurd h (noOw i l e)
 ·have e1:last=i:=Decidable.byContradiction λe=>absurd h1 (noOw i l e)
  have e2:last=j:=Decidable.byContradiction λe=>absurd h2 (noOw j l' e)
  exact e1.symm.trans e2
 ·by_cases e:last=i
  ·subst e;rw[atl]at h;cases h
  ·obtain⟨j,z',e1,z,e2⟩:=pu i _ e h;cases z' with
   | pu d'=>cases z
   | ow l'=>
    cases z;obtain⟨a,vs,h1,h2,h3,h4⟩:=I.ow j l e2;exact⟨a,vs,sgm i j _ e e1 h1,.inr ⟨j,l,e2,h1⟩,h2,h4.mono P⟩
   | bo l'=>
    cases z;obtain⟨a,vs,h1,h2,h3,h4⟩:=I.bo j l e2;exact⟨a,vs,sgm i j _ e e1 h1,.inl h2,I.ext _ _ h3,h4.mono P⟩
theorem a93 {js:List Nat}{cap:List (Option Nat)}{last:Nat}{ui:UI}{g:UG}{T:List Nat}{tt:UT}{te:UE}(hl:last<cap.length)(hT:last ∉ T)(σ:L2.St)(H:Hp)(Q:VK)(h:lE K (d7 js cap last ui g tt te) σ H Q) :
  wC cap last (lI K ui) (lG K T g) (lT K tt) (lE K te) σ H Q:=by
 obtain⟨C,ρ,Q0,I,h,k⟩:=h;refine⟨C,ρ,_,I,h,λn it ρ1 J H1 q f s ok Dn nD=> ?_⟩
 obtain⟨Pv,p0,turn,fin⟩:=q;have fz:=tD js ρ1;have I1:EOk K C (n6 ρ1 js) σ H1:=((I.frz f).same s).frz fz;generalize n6 ρ1 js=ρ2 at fz I1 p0 fin;have P12: ∀{A':AS} {H':Hp},e6 (Av C ρ2 σ) H1 A' H'->e6 (Av C ρ1 σ) H1 A' H':=λp b o nb e=>p b o (λz=>nb (fz.av z)) e
 have I2:=yY I1 hl nD;have own0: ∀{ρ':Ev} {σ':L2.St} {H':Hp},EOk K ⟨H1,Av C ρ2 σ⟩ ρ' σ' H'->e6 (Av C ρ2 σ) H1 (Av ⟨H1,Av C ρ2 σ⟩ ρ' σ') H':=λ{ρ' σ' H'} J' b o nb e=>by
  refine⟨?_,J'.ext b o e⟩
  rintro(z| ⟨i,l,h1,h2⟩)
  ·exact nb z
  ·obtain⟨a,vs,h3,h4,h5,_⟩:=J'.ow i l h1;rw[h2]at h3;cases h3;have e':(⟨H1,Av C ρ2 σ⟩:C0).H0 b=some o:=e;rw[h5]at e';cases e'
 have sal:(fX σ cap last Dn)[last]? =some (some (.ref Dn)):=by
  unfold fX;exact aU (by rw[length_map];exact hl)
 refine⟨λi m σ' H'=>m=n-i/\i<=n/\σ'[last]? =some (some (.ref Dn))/\ ∃ρ',EOk K ⟨H1,Av C ρ2 σ⟩ ρ' σ' H'/\Pv i ρ',⟨n,rfl,zero_le _,sal,_,I2,p0⟩,?_⟩
 rintro i m σ' H' ⟨rfl,hi,hlast,ρ',J',p'⟩;have P:=P12 (own0 J')
 by_cases hlt:i<n
 ·refine .inr ⟨ok.go _ _ i P hlt,λσ2 H2=>σ2[last]? =some (some (.ref Dn))/\ ∃ρ3,EOk K ⟨H1,Av C ρ2 σ⟩ ρ3 σ2 H2/\Pv (i+1) ρ3,λσ2 H2 z=>⟨n-(i+1),by omega,rfl,hlt,z⟩,λx H2 y=> ?_⟩
  obtain⟨s2,r2⟩:=ok.yld _ _ i x H2 P (λa z=>J'.avSome z) hlt y
  refine⟨_,ρ',.pu (it i),H',_,J',s2,r2,turn i ρ' hlt p',λρ3 σ3 H3 q3 J3 same3=> ?_⟩
  have l3:σ3[last]? =some (some (.ref Dn)):=(same3 last hT).trans hlast;refine⟨_,ρ3,_,J3,q3,λc ρ4 H4 q4 f4 s4=> ?_⟩
  have J4:=(J3.frz f4).same s4;cases c with
  | false=>
   dsimp only at q4⊢;rw[if_neg Bool.false_ne_true]at q4⊢;exact⟨l3,ρ4,J4,q4⟩
  | true=>
   dsimp only at q4⊢;rw[if_pos rfl]at q4⊢;refine⟨_,ρ4,_,J4,q4,λb ρ5 v H5 q5 f5 s5 r5=> ?_⟩
   have J5:=(J4.frz f5).same s5;obtain⟨l,hl5,hz,q5⟩:=fA q5;obtain⟨a,vs,g1,g2,g3,g4⟩:=J5.ow last l hl5;rw[l3]at g1;cases g1;refine⟨vs,g2,by rw[<-g4.length];exact hz,l3,_,J5.write hl5 l3 (g4.append (.cons (r5.rep λa z=>J4.avF f5 z) .nil)),q5⟩
 ·have e:i=n:=by omega
  subst e;obtain⟨l,hl5,q5⟩:=fA (fin ρ' p');obtain⟨a,vs,g1,g2,g3,g4⟩:=J'.ow last l hl5;rw[hlast]at g1;cases g1;refine .inl ⟨ok.stop _ _ P,k _ _ _ _ q5 (f.trans fz) (s.trans J'.ext) ⟨Dn,vs,rfl,s.free nD,g2,?_⟩⟩;refine g4.mono λb o nb e=>⟨?_,e⟩
  rintro(z|z)
  ·exact nb (.inl z)
  ·subst z;exact nb (.inr ⟨last,l,hl5,hlast⟩)
theorem cR: ∀{X:Cx},PTs X [] (lT X.K λρ Q=>Q true ρ):=λ{X} pins s σ H Q I ⟨C,ρ,Q0,J,h,k⟩=>a55 pins s σ H Q I (k _ ρ H h (.refl _) (.refl _))
theorem a59 {elt iter tg:Expr}{ifs:List Expr}{scope:Scope}{pos:Pos}{N:List Str}{js:List Nat}{cap:List (Option Nat)}{last:Nat}{ui:UI}{g:UG}{T:List Nat}{tt:UT}{te:UE}(hc:X.calm=true)(hi:PUI X tg iter ui)(S:bK X.env X.N N cap scope)
  (hN: ∀x,N[last]? =some x->scope.names.lookup x=none) (hl:last<cap.length) (hT:last ∉ T)
  (hg: ∀cl C s H fp pins,PUG (b6 X N scope cl C s H fp pins) tg T g) (ht: ∀cl C s H fp pins,PTs (b6 X N scope cl C s H fp pins) ifs (lT X.K tt)) (he: ∀cl C s H fp pins,PU (b6 X N scope cl C s H fp pins) elt te)
  (hs: ∀x,foldedSetIterable iter X.env x=pure x:=by intro _;rfl):PU X (.ListComp elt [⟨tg,iter,ifs,0⟩] scope pos) (d7 js cap last ui g tt te):=
 dP (a56 (g:=lG X.K T g) (tt:=lT X.K tt) (te:=lE X.K te) hc hi S hN hg ht he hs) (a93 hl hT)
theorem v2 {elt iter tg:Expr}{ifs:List Expr}{scope:Scope}{pos spos py:Pos}{y:Str}{N:List Str}{js:List Nat}{cap:List (Option Nat)}{last:Nat}{ui:UI}{g:UG}{T:List Nat}{tt:UT}{te:UE}(i:Nat)(hc:X.calm=true)(hi:PUI X tg iter ui)(S:bK X.env X.N N cap scope)
  (hN: ∀x,N[last]? =some x->scope.names.lookup x=none) (hl:last<cap.length) (hT:last ∉ T)
  (hg: ∀cl C s H fp pins,PUG (b6 X N scope cl C s H fp pins) tg T g) (ht: ∀cl C s H fp pins,PTs (b6 X N scope cl C s H fp pins) ifs (lT X.K tt)) (he: ∀cl C s H fp pins,PU (b6 X N scope cl C s H fp pins) elt te)
  (hy:PG X (.Name y py) (kX i)) (hi': ∀pins σ H s,Inv X pins σ H s->i<σ.length) (hsw:swapsWith (.ListComp elt [⟨tg,iter,ifs,0⟩] scope pos) (some (.Name y py)) spos.line X.env=pure true:=by rfl)
  (hs: ∀x,foldedSetIterable iter X.env x=pure x:=by intro _;rfl):PUS X (.Assign [.Name y py] (.ListComp elt [⟨tg,iter,ifs,0⟩] scope pos) spos) (bJ i (d7 js cap last ui g tt te)):=by
 intro pins s σ H D I q;refine oM (g:=lG X.K T g) (tt:=lT X.K tt) (te:=lE X.K te) hc hi S hN hg ht he hy hsw hs pins s σ H D I ?_;obtain⟨C,ρ,D0,J,h,k⟩:=q;exact a93 hl hT σ H _ ⟨C,ρ,_,J,h,λb ρ1 v H1 q f s1 r=>k.nx _ _ _ q ((J.frz f).store s1 r (hi' pins σ H s I))⟩
end
end M
end
section
namespace L2
open PySem PySem.Spec PyProof.Rows
section
variable {X:Cx}
theorem a60 {bs:List Bool}: ∀{its:List Value},bC (bs.map V.bl) its->LSm.BoolsAre its bs:=by
 induction bs with
 | nil=>intro its r;cases r;exact .nil
 | cons b bs ih=>
  intro its r;cases r with
  | cons r1 r2=>
   cases r1;exact .cons b (ih r2)
theorem v3 (hc:X.calm=true):fV X (.builtin "all") (λxs H Q=> ∃(p:Addr) (bs:List Bool),xs=[.ref p]/\SqL X.K H p (bs.map V.bl)/\Q (.bl (bs.all id)) H):=by
 intro pins s σ H xs us Q I r h;obtain⟨p,bs,rfl,hq,q⟩:=h;obtain⟨u,rfl,rx⟩:=vals1 r;cases rx;obtain⟨its,rv,pl,hz⟩:=I.list hq;have ba:=a60 rv;refine call_all_walk (wpAny_pyIter_list pl.isList ?_);have hne:p≠s.heap.objs.size:=by
  obtain⟨o,n,e,_⟩:=pl;exact ne_of_lt (lt_size e)
 refine⟨s.heap.objs.size,_,_,_,_,_,λi=>(bs[i]?).getD true,rfl,Walks.list (A:=X.A.in1) (I.ok.hd hc) s.heap.objs.size p (λz=>hne z) its.toArray,⟨⟨_,get?_push_size _ rfl,rfl,rfl⟩,pl.isList.push _⟩,?_,λh' tk hk=> ?_⟩
 ·intro i v s' Q' E' hP hQ;obtain⟨b,hb,rfl⟩:=ba.get i v (by simpa using hP)
  refine wpAny_truthy_bool ?_
  have e:(λi=>(bs[i]?).getD true) i=b:=by simp[hb]
  dsimp only at hQ;rw[hb]at hQ;exact hQ
 ·have e:=LSm.range_all bs;have hl:=ba.length;have e2:its.toArray.size=bs.length:=by rw[size_toArray,hl]
  rw[e2,e];exact⟨.bl (bs.all id),H,I.kept λb o e=>hk b o (by simpa using ne_of_lt (lt_size e)) (get?_push_of_some _ e),rfl,q⟩
def iM (esc:List (Str×NameKind))(XN N:List Str)(cap:List (Option Nat))(scope:Scope)(last:Nat):Bool:=
 (scope.kind== .function)&&scope.names.all (λy=>y.2 != .cell||scope.names.lookup y.1==some .cell)&&scope.names.all (λy=>y.2 != .free||scope.names.lookup y.1==some .free)&&scope.names.all (λy=>y.2 != .local||scope.names.lookup y.1==some .local)&&
 scope.names.all (λy=>y.2 != .free||esc.lookup y.1==some .cell||esc.lookup y.1==some .free)&&
 (N.zip cap).all (λz=>match z.2 with|none=>true|some j=>XN[j]? ==some z.1&&scope.names.contains (z.1,.free)&&scope.names.lookup z.1==some .free)&&
 (cap.length==N.length)&&(match N[last]? with|some x=>(scope.names.lookup x).isNone|none=>true)
theorem bK.of {env:Env}{esc:List (Str×NameKind)}{XN N:List Str}{cap:List (Option Nat)}{scope:Scope}{last:Nat}(he:env.scope.names=esc)(h:iM esc XN N cap scope last=true) :
  bK env XN N cap scope/\ ∀x,N[last]? =some x->scope.names.lookup x=none:=by
 unfold iM at h;simp only[and_eq_true,List.all_eq_true,beq_iff_eq]at h;obtain⟨⟨⟨⟨⟨⟨⟨h1,h2⟩,h2'⟩,h3⟩,h4⟩,h5⟩,h6⟩,h7⟩:=h;have hk: ∀x,env.kindOf x=esc.lookup x:=λx=>by unfold Env.kindOf;rw[he]
 refine⟨⟨h1,λy hy hl=>by have:=h2 y hy;rw[hl]at this;simpa using this,λy hy hl=>by have:=h2' y hy;rw[hl]at this;simpa using this,λy hy hl=> ?_,λy hy hf=> ?_,λi j x e1 e2=> ?_,h6⟩,λx e=> ?_⟩
 ·have:=h3 y hy;rw[hl]at this
  simpa using this
 ·have:=h4 y hy;rw[hf]at this;rw[hk]
  simpa using this
 ·have hm:(x,some j)∈N.zip cap:=by
   refine mem_of_getElem? (i:=i) ?_
   rw[List.getElem?_zip_eq_some];exact⟨e1,e2⟩
  have:=h5 _ hm;simp only[and_eq_true,beq_iff_eq]at this;obtain⟨⟨a,b⟩,c⟩:=this;exact⟨a,by simpa using b,c⟩
 ·rw[e]at h7
  simpa using h7
end
end L2
namespace M
open PySem PySem.Spec PyProof.Rows L2
section
variable {X:Cx}{K:Frag}{A:AS}{H:Hp}
def gL:List D->Option (List Bool)
 | []=>some []
 | .bl b::r=>(gL r).map (b::·)
 | _=>none
def yZ:List D->Option (List Int)
 | []=>some []
 | .int b::r=>(yZ r).map (b::·)
 | _=>none
theorem oN: ∀{l:List D} {bs:List Bool} {vs:List V},gL l=some bs->aS K A H l vs->vs=bs.map V.bl
 | [],bs,vs,h,r=>by cases h;exact r.unnil
 | d::r,bs,vs,h,q=>by
  obtain⟨v,vr,rfl,rv,rr⟩:=q.uncons;cases d with
  | bl b=>
   have h':(gL r).map (b::·)=some bs:=h;cases e:gL r with
   | none=>rw[e]at h';cases h'
   | some bs'=>
    rw[e]at h';cases h';rw[hR rv,oN e rr];rfl
  | _=>cases h
def z0:List D->(B->Prop)->Prop:=g1 λd Q=>match d with
 | .lst l=>(match gL l with
  | some bs=>Q (.pu (.bl (bs.all id)))
  | none=>False)
 | _=>False
theorem zA (hc:X.calm=true):nM X (.builtin "all") z0:=by
 intro A H ds vs Q0 Q hA r g k;obtain⟨d,v,rfl,rfl,rv,g⟩:=sB g r;cases d with
 | lst l=>
  dsimp only at g;cases e:gL l with
  | none=>rw[e]at g;exact g.elim
  | some bs=>
   rw[e]at g;simp only[Rep]at rv;obtain⟨a,vs,rfl,n,c,rs⟩:=rv;rw[oN e rs]at c;exact⟨_,v3 hc,a,bs,rfl,SqL.of c,k _ _ H g (.refl _) eZ⟩
 | _=>exact(show False from g).elim
def gSum:List D->(B->Prop)->Prop:=g1 λd Q=>match d with
 | .lst l=>(match yZ l with
  | some ns=>Q (.pu (.int ns.sum))
  | none=>False)
 | _=>False
theorem zB:bootBuiltins "all"=some (.builtin "all"):=by decide +kernel
theorem dX {elt iter tg:Expr}{ifs:List Expr}{scope:Scope}{pos:Pos}{esc:List (Str×NameKind)}{N:List Str}{js:List Nat}{cap:List (Option Nat)}{last:Nat}{ui:UI}{g:UG}{T:List Nat}{tt:UT}{te:UE}{XN:List Str}(he0:X.env.scope.names=esc)(hx0:X.N=XN)(lk:iM esc XN N cap scope last=true)(hl:last<cap.length)(hT:last ∉ T)(hc:X.calm=true)(hi:PUI X tg iter ui)
  (hg: ∀cl C s H fp pins,PUG (b6 X N scope cl C s H fp pins) tg T g) (ht: ∀cl C s H fp pins,PTs (b6 X N scope cl C s H fp pins) ifs (lT X.K tt)) (he: ∀cl C s H fp pins,PU (b6 X N scope cl C s H fp pins) elt te)
  (hs: ∀x,foldedSetIterable iter X.env x=pure x:=by intro _;rfl):PU X (.ListComp elt [⟨tg,iter,ifs,0⟩] scope pos) (d7 js cap last ui g tt te):=
 a59 hc hi (bK.of he0 (hx0▸lk)).1 (bK.of he0 (hx0▸lk)).2 hl hT hg ht he hs
theorem fO {elt iter tg:Expr}{ifs:List Expr}{scope:Scope}{pos spos py:Pos}{y:Str}{esc:List (Str×NameKind)}{N:List Str}{js:List Nat}{cap:List (Option Nat)}{last:Nat}{ui:UI}{g:UG}{T:List Nat}{tt:UT}{te:UE}(i:Nat){XN:List Str}(he0:X.env.scope.names=esc)(hx0:X.N=XN)(lk:iM esc XN N cap scope last=true)(hl:last<cap.length)(hT:last ∉ T)(hc:X.calm=true)(hi:PUI X tg iter ui)
  (hg: ∀cl C s H fp pins,PUG (b6 X N scope cl C s H fp pins) tg T g) (ht: ∀cl C s H fp pins,PTs (b6 X N scope cl C s H fp pins) ifs (lT X.K tt)) (he: ∀cl C s H fp pins,PU (b6 X N scope cl C s H fp pins) elt te)
  (hy:PG X (.Name y py) (kX i)) (hi': ∀pins σ H s,Inv X pins σ H s->i<σ.length) (hsw:swapsWith (.ListComp elt [⟨tg,iter,ifs,0⟩] scope pos) (some (.Name y py)) spos.line X.env=pure true:=by rfl)
  (hs: ∀x,foldedSetIterable iter X.env x=pure x:=by intro _;rfl):PUS X (.Assign [.Name y py] (.ListComp elt [⟨tg,iter,ifs,0⟩] scope pos) spos) (bJ i (d7 js cap last ui g tt te)):=
 v2 i hc hi (bK.of he0 (hx0▸lk)).1 (bK.of he0 (hx0▸lk)).2 hl hT hg ht he hy hi' hsw hs
def uDrop (te:UE):US:=λD ρ=>te ρ λ_ ρ1=>D.nx ρ1
theorem eI: ∀ds ρ Q,gH ds ρ Q->ds.length=0:=λds ρ Q h=>by rw[h.1];rfl
theorem bG {i n:Nat}{u:UGs}(h: ∀ds ρ Q,u ds ρ Q->ds.length=n): ∀ds ρ Q,bR i u ds ρ Q->ds.length=n+1:=λds ρ Q q=>by
 cases ds with
 | nil=>exact(show False from q).elim
 | cons d r=>rw[length_cons,h r _ Q q.2]
end
end M
end
section
namespace HT
open PySem PyProof.Rows
end HT
namespace L2
open PySem PySem.Spec PyProof.Rows
end L2
namespace M
open PySem PySem.Spec PyProof.Rows L2
section
variable {X:Cx}{K:Frag}{A:AS}{H:Hp}{e e3:Expr}{t3:UE}{pos p2:Pos}
def gRev (d:D)(Q:B->Prop):Prop:=match d with
 | .tup l=>Q (.pu (.tup l.reverse))
 | _=>False
def uRev (t:UV)(t3:UE):UE:=λρ Q=>t ρ λd ρ1=>t3 ρ1 λb ρ2=>b.d= .int (-1)/\gRev d λb=>Q b ρ2
end
end M
end
section
namespace L2
open PySem PySem.Spec PyProof.Rows
def Itd (lo:Int)(n:Nat):It:={go:=λi _=>i<n,yld:=λi H x H'=>H'=H/\x=V.int (lo-(i:Int)),stop:=λi _=>n<=i}
theorem qX {P:Program}{w:World}{K:Frag}{tg:Expr}(it:Addr)(lo:Int)(n:Nat):uF P w K tg (Itd lo n) [it] it (λi h=>IsRangeIter h it (lo+(i:Nat)*(-1)) ((n:Int)-(i:Nat)) (-1)) where
 mem:=by simp
 obj:=λi h st b hb=>by
  have e:b=it:=by simpa using hb
  subst e;exact⟨_,st,λv z=>by
   have z':Data.fields _=Data.cell v:=z;cases z'⟩
 keep:=λi h h' st k=>k it (by simp) _ st
 item:=by
  intro X hP hw hK hc i pins s σ H E I hf st hg;subst hP hw hK;obtain⟨f0,f1,f2,f3,f4,f5⟩:=hf it (by simp)
  have W:=Walks.range (prog:=X.prog) (w:=X.w) (I.ok.hd hc) it lo (-1) n;refine W.item i s _ _ hg st λv h' tk hv st' kk=> ?_
  obtain⟨t,rfl⟩:=hv;have I1:Inv X pins σ H {s with heap:=h',toks:=tk}:=I.turned (λb o hb e=>kk b o (by simpa using hb) e) f0 f1 f3 f4 f5
  refine⟨_,rfl,vS (s:={s with heap:=h',toks:=tk}) (n:="range_iterator") st' rfl rfl (by decide) ⟨.int (lo-i),H,I1,⟨t,?_⟩,⟨rfl,rfl⟩,st',λb hb=>(hf b hb).1⟩⟩
  rw[show lo+((i:Nat):Int)*(-1)=lo-(i:Int)by lia]
 done:=by
  intro X hP hw hK hc i pins s σ H E I hf st hg;subst hP hw hK;obtain⟨f0,f1,f2,f3,f4,f5⟩:=hf it (by simp)
  exact wpAny_pyNext_range_end (I.ok.hd hc) st (by have:n<=i:=hg;lia) λh' eb=>⟨rfl,I.turned (t':=s.toks) (λb o hb e=>eb b o hb e) f0 f1 f3 f4 f5⟩
 self:=λ_ _ _ _ _ st h=>wpAny_pyIter_rangeiter st h
section
variable {X:Cx}{tg:Expr}
theorem qY (a b:Int):Builtin.Range.rangeSize a b (-1)=(((a-b).toNat:Nat):Int):=by
 unfold Builtin.Range.rangeSize;rw[if_neg (by decide)]
 split<;>simp<;>lia
theorem small_down {a b:Int}(h1: -(2^31)<=a)(h2:a<2^31)(h3: -(2^31)<=b)(h4:b<2^31):Builtin.Range.small a b (-1)=true:=by
 unfold Builtin.Range.small;rw[qY];simp[Builtin.Range.rangeFitsLong];omega
theorem v4 {pins:List (Addr×Obj)}{σ:St}{H:Hp}{s:Shared}{R:It->Hp->Prop}{E:Value->Shared->Prop}{lo hi:Int}{t u v:Tok}{tk:Nat}(I:Inv X pins σ H s)(h1: -(2^31)<=lo)(h2:lo<2^31)(h3: -(2^31)<=hi)(h4:hi<2^31)
  (q:R (Itd lo (lo-hi).toNat) H):wpAny (model X.prog X.w) X.A (pyIter (.ref s.heap.objs.size)) (PIE X pins σ tg R) E {s with heap:=s.heap.push {cls:= .type "range",data:= .fields #[.int lo t,.int hi u,.int (-1) v]},toks:=tk}:=by
 refine wpAny_pyIter_range (IsRange.new ..) (small_down h1 h2 h3 h4) ?_
 have I1:Inv X pins σ H {s with heap:=s.heap.push {cls:= .type "range",data:= .fields #[.int lo t,.int hi u,.int (-1) v]},toks:=tk}:=I.kept λb o e=>get?_push_of_some _ e
 refine⟨(s.heap.push {cls:= .type "range",data:= .fields #[.int lo t,.int hi u,.int (-1) v]}).objs.size,[(s.heap.push {cls:= .type "range",data:= .fields #[.int lo t,.int hi u,.int (-1) v]}).objs.size],_,_,H,rfl,
  I1.kept (t':=tk) λb o e=>get?_push_of_some _ e,qX _ lo (lo-hi).toNat,?_,λb hb=> ?_,q⟩
 ·have e1:lo+((0:Nat):Int)*(-1)=lo:=by simp
  have e2:(((lo-hi).toNat:Nat):Int)-((0:Nat):Int)=Builtin.Range.rangeSize lo hi (-1):=by rw[qY];simp
  show IsRangeIter _ _ (lo+((0:Nat):Int)*(-1)) ((((lo-hi).toNat:Nat):Int)-((0:Nat):Int)) (-1)
  rw[e1,e2];exact get?_push_size _ rfl
 ·have e:b=(s.heap.push {cls:= .type "range",data:= .fields #[.int lo t,.int hi u,.int (-1) v]}).objs.size:=by simpa using hb
  subst e;exact I1.fpOk (le_refl _) (I1.hok.fresh (le_refl _))
def iRngD (ta:TA):TI:=λσ H R=>ta σ H λvs H1=> ∃i j:Int,vs=[.int i,.int j,.int (-1)]/\(-(2^31)<=i/\i<2^31/\ -(2^31)<=j/\j<2^31)/\R (Itd i (i-j).toNat) H1
theorem xB {a b c:Expr}{ta:TA}{p pos:Pos}(hg:Gl X "range")(hm:X.mg "range"=none)(ha:PA X [a,b,c] ta)(hs:starEach [a,b,c] X.env=[(false,eval a X.env),(false,eval b X.env),(false,eval c X.env)]:=by rfl)(hs2:starEach [b,c] X.env=[(false,eval b X.env),(false,eval c X.env)]:=by rfl) :
  PI X tg (.Call (.Name "range" p) [a,b,c] [] pos) (iRngD ta):=by
 intro pins s σ H R I h;refine Call_ (j7 I hg hm boot_range (PyProof.Rows.callWith_type1 (thn (ha pos pins s σ H _ I h) λus s1 ⟨vs,H1,I1,r1,q1⟩=> ?_) (by rw[hs,hs2]) (by rw[hs2];rfl)))
 obtain⟨i,j,e,⟨q1,q2,q3,q4⟩,q⟩:=q1;subst e;cases r1 with
 | cons r rr=>
  cases rr with
  | cons r' rr=>
   cases rr with
   | cons r'' rr=>
    cases rr;obtain⟨t,rfl⟩:=r;obtain⟨t',rfl⟩:=r';obtain⟨t'',rfl⟩:=r'';exact call_range_3 (by decide) (v4 I1 q1 q2 q3 q4 q) (.inl (by
     unfold Builtin.divisionGoesByPylong;simp;intro hz;have:Nat.log2 1=0:=by decide
     lia))
end
end L2
namespace M
open PySem PySem.Spec PyProof.Rows L2
section
variable {X:Cx}{K:Frag}{H:Hp}{pos:Pos}
theorem qZ {A:AS}{lo:Int}{n:Nat}:uW K A H (Itd lo n) n (λi=> .int (lo-i)):=
 ⟨λ_ _ _ _ h=>h,λ_ _ i x H'' _ _ _ ⟨e,y⟩=>by subst e;subst y;exact⟨.refl _,by simp only[Rep]⟩,λ_ _ _=>le_refl n⟩
def wD (ta:UA):UI:=λρ Q=>ta ρ λds ρ1=>match ds with
 | [.int i,.int j,.int m]=>m= -1/\(-(2^31)<=i/\i<2^31/\ -(2^31)<=j/\j<2^31)/\Q (i-j).toNat (λk=> .int (i-k)) ρ1
 | _=>False
theorem r6 {tg a b c:Expr}{ta:UA}{p:Pos}(hg:Gl X "range")(hm:X.mg "range"=none)(ha:PUA X [a,b,c] ta)(hs:starEach [a,b,c] X.env=[(false,eval a X.env),(false,eval b X.env),(false,eval c X.env)]:=by rfl)(hs2:starEach [b,c] X.env=[(false,eval b X.env),(false,eval c X.env)]:=by rfl) :
  PUI X tg (.Call (.Name "range" p) [a,b,c] [] pos) (wD ta):=
 qQ (xB hg hm ha hs hs2) λσ H R ⟨C,ρ,Q0,I,h,k⟩=>⟨C,ρ,_,I,h,λds ρ1 vs H1 q f s r=>by
  split at q
  ·rename_i i j m
   obtain⟨v,vr,rfl,rv,rr⟩:=r.uncons;obtain⟨w,wr,rfl,rw',rr'⟩:=rr.uncons;obtain⟨z,zr,rfl,rz,rr''⟩:=rr'.uncons;have:=rr''.unnil;subst this;have:=b5 rv;subst this;have:=b5 rw';subst this;have:=b5 rz;subst this;obtain⟨hm,hb,q⟩:=q;subst hm;exact⟨i,j,rfl,hb,k _ _ ρ1 _ H1 q f s qZ⟩
  ·exact q.elim⟩
end
end M
end
section
namespace L2
open PySem PySem.Spec PyProof.Rows
section
variable {X:Cx}{pins:List (Addr×Obj)}{σ:St}{H:Hp}{s:Shared}{h':Heap}
theorem Inv.turnedNew {t':Nat}{ch:List Addr}{a:Addr}{o:HO}(I:Inv X pins σ H s)(k: ∀b u,b ∉ ch->s.heap.get? b=some u->h'.get? b=some u)(hf: ∀b∈ch,mW X pins H b)
  (hp:s.heap.objs.size<=a) (new:gF X.prog X.w (upd H a o) h' a o):Inv X pins σ (upd H a o) {s with heap:=h',toks:=t'}:=by
 have hn:H a=none:=I.hok.fresh hp;have nch: ∀b u,H b=some u->b ∉ ch:=λb u e z=>by have:=(hf b z).1;rw[e]at this;cases this
 refine I.step (g':=s.gens) (d':=s.drawn) (ch:=ch) (λb hb=>⟨(hf b hb).2.2.2.1,(hf b hb).2.1,(hf b hb).2.2.2.2.1,(hf b hb).2.2.2.2.2⟩) (λb u _ _ hc e _=>k b u hc e) (λb u _ _ hc e _=>⟨u.slots,k b u hc e⟩)
  (λb u _ e n=>by rw[bF (ne_of_lt (lt_of_lt_of_le (lt_size e) hp))];exact n) (λb u hc e=>⟨u,k b u hc e⟩)
  (λb xs e=>by rw[bF (cD e hn)];exact e) (λb ob u e=>by rw[bF (cD e hn)];exact e) (λb ps e=>⟨#[],by rw[bF (cD e hn),e];simp⟩) (λm hm=> ?_) (λb u e=> ?_) I.bare
 ·obtain⟨ob,es,ep,ho,r⟩:=hm;exact⟨ob,es,ep,k _ ob (λz=>(hf _ z).2.1 rfl) ho,r⟩
 ·by_cases hb:b=a
  ·subst hb;rw[fM]at e;cases e;exact new
  ·rw[bF hb]at e;refine(I.hok b u e).stay (λc v hc q=>k c v ?_ q) (λc q=>by rw[bF (cD q hn)];exact q) λc xs q=>by rw[bF (cD q hn)];exact q
   rcases hc with z|z
   ·rw[z];exact nch b u e
   ·exact nch c _ z
theorem Inv.turnedL {t':Nat}{ch:List Addr}(I:Inv X pins σ H s)(k: ∀b u,b ∉ ch->s.heap.get? b=some u->h'.get? b=some u)(hf: ∀b∈ch,mW X pins H b):Inv X pins σ H {s with heap:=h',toks:=t'}:=by
 have nch: ∀b u,H b=some u->b ∉ ch:=λb u e z=>by have:=(hf b z).1;rw[e]at this;cases this
 refine I.step (g':=s.gens) (d':=s.drawn) (ch:=ch) (λb hb=>⟨(hf b hb).2.2.2.1,(hf b hb).2.1,(hf b hb).2.2.2.2.1,(hf b hb).2.2.2.2.2⟩) (λb u _ _ hc e _=>k b u hc e) (λb u _ _ hc e _=>⟨u.slots,k b u hc e⟩)
  (λb u _ e n=>n) (λb u hc e=>⟨u,k b u hc e⟩) (λb xs e=>e) (λb ob u e=>e) (λb ps e=>⟨#[],by rw[e];simp⟩) (λm hm=> ?_) (λb u e=> ?_) I.bare
 ·obtain⟨ob,es,ep,ho,r⟩:=hm;exact⟨ob,es,ep,k _ ob (λz=>(hf _ z).2.1 rfl) ho,r⟩
 ·refine(I.hok b u e).stay (λc v hc q=>k c v ?_ q) (λc q=>q) λc xs q=>q
  rcases hc with z|z
  ·rw[z];exact nch b u e
  ·exact nch c _ z
end
def gZ (T:Bool)(h:Heap)(a:Addr)(xs:Array Value):Prop:=match T with
 | false=>h.IsList a xs
 | true=>h.IsTuple a xs
def g9 (T:Bool)(h:Heap)(it a:Addr)(i:Nat):Prop:=match T with
 | false=>h.IsListIter it a i
 | true=>h.IsTupleIter it a i
def kC (T:Bool)(a:Addr):Obj:=match T with
 | false=>{cls:= .type "list_iterator",data:= .fields #[.ref a,.int 0 0]}
 | true=>{cls:= .type "tuple_iterator",data:= .fields #[.ref a,.int 0 0]}
def SqV (K:Frag)(T:Bool)(H:Hp)(a:Addr)(xs:List V):Prop:=match T with
 | false=>SqL K H a xs
 | true=>SqT K H a xs
theorem gZ.at {T:Bool}{h h':Heap}{a:Addr}{xs:Array Value}(x:gZ T h a xs)(e: ∀o,h.get? a=some o->h'.get? a=some o):gZ T h' a xs:=by
 cases T<;>(obtain⟨o,ho,r⟩:=x;exact⟨o,e o ho,r⟩)
theorem g9.at {T:Bool}{h h':Heap}{it a:Addr}{i:Nat}(x:g9 T h it a i)(e: ∀o,h.get? it=some o->h'.get? it=some o):g9 T h' it a i:=by
 cases T<;>(obtain⟨o,ho,r⟩:=x;exact⟨o,e o ho,r⟩)
theorem gZ.lt {T:Bool}{h:Heap}{a:Addr}{xs:Array Value}(x:gZ T h a xs):a<h.objs.size:=by
 cases T<;>(obtain⟨o,ho,r⟩:=x;exact lt_size ho)
theorem g9.lt {T:Bool}{h:Heap}{it a:Addr}{i:Nat}(x:g9 T h it a i):it<h.objs.size:=by
 cases T<;>(obtain⟨o,ho,r⟩:=x;exact lt_size ho)
theorem g9.rec' {T:Bool}{h:Heap}{it a:Addr}{i:Nat}(x:g9 T h it a i): ∃o,h.get? it=some o/\ ∀v,o.data≠ .cell v:=by
 cases T<;>(obtain⟨o,ho,hc,hd⟩:=x;exact⟨o,ho,λv z=>by rw[hd]at z;cases z⟩)
theorem g9.new {T:Bool}(h:Heap)(a:Addr):g9 T (h.push (kC T a)) h.objs.size a 0:=by
 cases T<;>exact⟨_,get?_push_size _ rfl,rfl,rfl⟩
section
variable {X:Cx}{pins:List (Addr×Obj)}{σ:St}{H:Hp}{s:Shared}
theorem Inv.sq {T:Bool}{a:Addr}{xs:List V}(I:Inv X pins σ H s)(h:SqV X.K T H a xs): ∃its:List Value,bC xs its/\gZ T s.heap a its.toArray/\xs.length<=sizeLine:=by
 cases T with
 | false=>obtain⟨its,rv,p,hz⟩:=I.list h;exact⟨its,rv,p.isList,hz⟩
 | true=>obtain⟨its,rv,p,hz⟩:=I.tuple h;exact⟨its,rv,p,hz⟩
theorem Inv.sq_inj {T:Bool}{a:Addr}{xs ys:List V}(I:Inv X pins σ H s)(h:SqV X.K T H a xs)(h':SqV X.K T H a ys):xs=ys:=by
 cases T with
 | false=>exact I.list_inj h h'
 | true=>exact I.tuple_inj h h'
end
section
variable {prog:Program}{w:World}{A:Around}{E:Value->Shared->Prop}{s:Shared}
theorem kO {T:Bool}{a:Addr}{xs:Array Value}{Q:Value->Shared->Prop}(hl:gZ T s.heap a xs)(hQ:Q (.ref s.heap.objs.size) {s with heap:=s.heap.push (kC T a)}) :
  wpAny (model prog w) A (pyIter (.ref a)) Q E s:=by
 cases T with
 | false=>exact wpAny_pyIter_list hl hQ
 | true=>exact wpAny_pyIter_tuple hl hQ
theorem zC {it t:Addr}{i:Nat}{items:Array Value}{x:Value}{Q:Value->Shared->Prop}(hit:s.heap.IsTupleIter it t i)(ht:s.heap.IsTuple t items)(hx:items[i]? =some x)
  (hQ: ∀h',h'.IsTupleIter it t (i+1)->SameBut it s.heap h'->Q x {s with heap:=h'}):wpAny (model prog w) A (Builtin.SmallTypes.nextOf (.ref it)) Q E s:=by
 obtain⟨oi,hoi,hci,hdi⟩:=id hit;obtain⟨ot,hot,_,nt,hdt⟩:=ht;unfold Builtin.SmallTypes.nextOf;refine wpAny_bind (wpAny_callSpecial?_slot (name:=Str.ofString "__next__") hit.typeIs PySem.F.slot_tuple_iterator_next (wpAny_call_entry PySem.F.slot_tuple_iterator_next hit.typeIs PySem.F.entry_tuple_iterator_next ?_ (PySem.F.args_tuple_iterator_next_1 _)))
 show wpAny _ _ (field (.ref it) 0 >>= _) _ _ s;refine wpAny_bind (wpAny_field hoi hdi (x:= .ref t) rfl ?_)
 show wpAny _ _ (if(Value.ref t==Value.none)=true then _ else _) _ _ s;rw[if_neg (show ¬((Value.ref t==Value.none)=true)from Bool.false_ne_true)]
 show wpAny _ _ (field (.ref it) 1 >>= _) _ _ s;refine wpAny_bind (wpAny_field hoi hdi (x:= .int i 0) rfl ?_)
 show wpAny _ _ (seqItems? (.ref t) >>= _) _ _ s;refine wpAny_bind (wpAny_seqItems hot hdt ?_)
 simp only[toNat_natCast,hx];refine wpAny_bind (wpAny_setField hoi hdi (by simp) (wpAny_pure ⟨x,rfl,wpAny_pure (hQ _ ⟨_,Heap.get?_update_self _ hoi (Obj.isFreed_of_fields (Obj.data_mapFields hdi _)),(Obj.cls_mapFields ..).trans hci,?_⟩ (Heap.SameBut.update ..))⟩))
 rw[Obj.data_mapFields hdi];simp[rawInt]
theorem xC {it t:Addr}{i:Nat}{items:Array Value}{Q:Value->Shared->Prop}(hh:A.handled=none)(hit:s.heap.IsTupleIter it t i)(ht:s.heap.IsTuple t items)(hx:items[i]? =none)
  (hE: ∀h' e,ExtBut it s.heap h'->(∃o,h'.get? e=some o/\o.cls= .type "StopIteration")->E (.ref e) {s with heap:=h'}):wpAny (model prog w) A (Builtin.SmallTypes.nextOf (.ref it)) Q E s:=by
 obtain⟨oi,hoi,hci,hdi⟩:=id hit;obtain⟨ot,hot,_,nt,hdt⟩:=ht;unfold Builtin.SmallTypes.nextOf;refine wpAny_bind (wpAny_callSpecial?_slot (name:=Str.ofString "__next__") hit.typeIs PySem.F.slot_tuple_iterator_next (wpAny_call_entry PySem.F.slot_tuple_iterator_next hit.typeIs PySem.F.entry_tuple_iterator_next ?_ (PySem.F.args_tuple_iterator_next_1 _)))
 show wpAny _ _ (field (.ref it) 0 >>= _) _ _ s;refine wpAny_bind (wpAny_field hoi hdi (x:= .ref t) rfl ?_)
 show wpAny _ _ (if(Value.ref t==Value.none)=true then _ else _) _ _ s;rw[if_neg (show ¬((Value.ref t==Value.none)=true)from Bool.false_ne_true)]
 show wpAny _ _ (field (.ref it) 1 >>= _) _ _ s;refine wpAny_bind (wpAny_field hoi hdi (x:= .int i 0) rfl ?_)
 show wpAny _ _ (seqItems? (.ref t) >>= _) _ _ s;refine wpAny_bind (wpAny_seqItems hot hdt ?_)
 simp only[toNat_natCast,hx];refine wpAny_bind (wpAny_rule (wpAny_bind (wpAny_setField hoi hdi (by simp) ?_)))
 show wpAny _ _ (newExc (.type "StopIteration") [] >>= _) _ _ _;refine wpAny_bind ?_;simp only[newExc,newTuple];refine wpAny_bind (wpAny_newObj_type ?_ (by size_fits))
 refine wpAny_bind (m:=firstArgMember _ _) (wpAny_of_eq (a:=Value.none) (by first|rfl| (simp only[firstArgMember];rfl)) ?_);refine wpAny_newObj_type ?_ (by size_fits)
 simp only[raiseNew];refine wpAny_bind (wpAny_handled ?_);first|rw[show A.in1.handled=none from hh]|rw[hh]
 exact wpAny_bind (wpAny_pure (wpAny_throw (hE _ _ (((Heap.SameBut.update ..).extBut.push _).push _) ⟨_,get?_push_size _ rfl,rfl⟩)))
theorem o8 {T:Bool}{it a:Addr}{i:Nat}{xs:Array Value}{x:Value}{Q:Value->Shared->Prop}(hit:g9 T s.heap it a i)(hl:gZ T s.heap a xs)(hx:xs[i]? =some x)
  (hQ: ∀h',g9 T h' it a (i+1)->SameBut it s.heap h'->Q x {s with heap:=h'}):wpAny (model prog w) A (Builtin.SmallTypes.nextOf (.ref it)) Q E s:=by
 cases T with
 | false=>exact wpAny_nextOf_list_item hit hl hx hQ
 | true=>exact zC hit hl hx hQ
theorem oO {T:Bool}{it a:Addr}{i:Nat}{xs:Array Value}{Q:Value->Shared->Prop}(hh:A.handled=none)(hit:g9 T s.heap it a i)(hl:gZ T s.heap a xs)(hx:xs[i]? =none)
  (hE: ∀h' e,ExtBut it s.heap h'->(∃o,h'.get? e=some o/\o.cls= .type "StopIteration")->E (.ref e) {s with heap:=h'}):wpAny (model prog w) A (Builtin.SmallTypes.nextOf (.ref it)) Q E s:=by
 cases T with
 | false=>exact wpAny_nextOf_list_end hh hit hl hx hE
 | true=>exact xC hh hit hl hx hE
end
structure ZSt (T1 T2:Bool)(z TI TO i1 i2 l1 l2:Addr)(f0:Value)(i:Nat)(h:Heap):Prop where
 hz:IsZip h z TI TO f0
 hI:IsPair h TI (.ref i1) (.ref i2)
 hO: ∃a b,IsPair h TO a b
 h1:g9 T1 h i1 l1 i
 h2:g9 T2 h i2 l2 i
structure ZAp (z TI TO i1 i2:Addr):Prop where
 a:TI≠z
 b:TO≠z
 c:i1≠z
 d:i2≠z
 e:TI≠TO
 f:TI≠i1
 g:TI≠i2
 h:TO≠i1
 i:TO≠i2
 j:i1≠i2
section
variable {prog:Program}{w:World}{A:Around}{E:Value->Shared->Prop}{s:Shared}{T1 T2:Bool}{z TI TO i1 i2 l1 l2:Addr}{k:Nat}{xs ys:Array Value}
theorem zD {x y:Value}{Q:Value->Shared->Prop}(D:ZAp z TI TO i1 i2)(n1:l1 ∉ [z,TI,TO,i1,i2])(n2:l2 ∉ [z,TI,TO,i1,i2])(st:ZSt T1 T2 z TI TO i1 i2 l1 l2 .none k s.heap)
  (hl1:gZ T1 s.heap l1 xs) (hl2:gZ T2 s.heap l2 ys) (hx:xs[k]? =some x) (hy:ys[k]? =some y)
  (hQ: ∀h',ZSt T1 T2 z TI TO i1 i2 l1 l2 (rawInt s.heap.objs.size) (k+1) h'->IsPair h' s.heap.objs.size x y->(∀c o,c ∉ [z,TI,TO,i1,i2]->s.heap.get? c=some o->h'.get? c=some o)->Q (.ref s.heap.objs.size) {s with heap:=h'}) :
  wpAny (model prog w) A (Builtin.«zip.__next__» ⟨[.ref z],[]⟩) (λfin s'=> ∃v,fin= .done (.ret v)/\Q v s') E s:=by
 obtain⟨hz,hI,⟨a0,b0,hO⟩,h1,h2⟩:=st;simp only[mem_cons,not_mem_nil,or_false,not_or]at n1 n2;show wpAny _ _ (field (.ref z) 2 >>= _) _ _ _;refine wpAny_bind (wpAny_field hz rfl (x:= .bool false) rfl ?_);show wpAny _ _ (field (.ref z) 3 >>= _) _ _ _;refine wpAny_bind (wpAny_field hz rfl (x:= .ref TI) rfl ?_)
 refine wpAny_bind (wpAny_seqItems hI rfl ?_);show wpAny _ _ (Builtin.SmallTypes.ownedTupleIsFree (.ref z) >>= _) _ _ _
 refine wpAny_bind ?_;unfold Builtin.SmallTypes.ownedTupleIsFree;refine wpAny_bind (wpAny_field hz rfl (x:= .none) rfl (wpAny_pure ?_))
 simp only[if_true];refine wpAny_bind (wpAny_rule ?_);refine wpAny_bind (wpAny_field hz rfl (x:= .ref TO) rfl ?_);refine wpAny_bind (wpAny_setField_rec hz (by simp) λg1 z1 m1=> ?_);replace z1:IsZip g1 z TI TO .ellipsis:=z1
 refine wpAny_bind ?_;simp only[List.zipIdx_cons,List.zipIdx_nil,forIn_cons,forIn_nil]
 refine wpAny_bind (wpAny_bind (wpAny_onRaise ?_));show wpAny _ _ (Builtin.SmallTypes.nextOf (.ref i1) >>= _) _ _ _
 refine wpAny_bind (o8 (s:={s with heap:=g1}) (h1.at λo e=>m1.extBut _ _ D.c e) (hl1.at λo e=>m1.extBut _ _ n1.1 e) hx λg2 p2 m2=>wpAny_pure ?_)
 have o2:IsPair g2 TO a0 b0:=m2.extBut _ _ D.h (m1.extBut _ _ D.b hO);refine wpAny_bind (wpAny_seqItems o2 rfl ?_);refine wpAny_bind (wpAny_updateSeq_pair o2 λg3 o3 m3=> ?_);replace o3:IsPair g3 TO x b0:=o3
 refine wpAny_bind (wpAny_letGo (wpAny_pure ?_))
 refine wpAny_bind (wpAny_bind (wpAny_onRaise ?_));show wpAny _ _ (Builtin.SmallTypes.nextOf (.ref i2) >>= _) _ _ _
 refine wpAny_bind (o8 (s:={s with heap:=g3}) (h2.at λo e=>m3.extBut _ _ D.i.symm (m2.extBut _ _ D.j.symm (m1.extBut _ _ D.d e))) (hl2.at λo e=>m3.extBut _ _ n2.2.2.1 (m2.extBut _ _ n2.2.2.2.1 (m1.extBut _ _ n2.1 e))) hy λg4 p4 m4=>wpAny_pure ?_)
 have o4:IsPair g4 TO x b0:=m4.extBut _ _ D.i o3;refine wpAny_bind (wpAny_seqItems o4 rfl ?_);refine wpAny_bind (wpAny_updateSeq_pair o4 λg5 o5 m5=> ?_);replace o5:IsPair g5 TO x y:=o5
 refine wpAny_bind (wpAny_letGo (wpAny_pure (wpAny_pure ?_)))
 refine wpAny_bind (wpAny_seqItems o5 rfl ?_);refine wpAny_bind (wpAny_newTuple ?_)
 have sz:g5.objs.size=s.heap.objs.size:=by rw[m5.1,m4.1,m3.1,m2.1,m1.1]
 have z5:IsZip g5 z TI TO .ellipsis:=m5.extBut _ _ D.b.symm (m4.extBut _ _ D.d.symm (m3.extBut _ _ D.b.symm (m2.extBut _ _ D.c.symm z1)));have keep5: ∀c o,c≠z->c≠TO->c≠i1->c≠i2->s.heap.get? c=some o->g5.get? c=some o:=λc o c1 c2 c3 c4 e=>m5.extBut _ _ c2 (m4.extBut _ _ c4 (m3.extBut _ _ c2 (m2.extBut _ _ c3 (m1.extBut _ _ c1 e))))
 have q1:g9 T1 g5 i1 l1 (k+1):=p2.at λo e=>m5.extBut _ _ D.h.symm (m4.extBut _ _ D.j (m3.extBut _ _ D.h.symm e))
 have q2:g9 T2 g5 i2 l2 (k+1):=p4.at λo e=>m5.extBut _ _ D.i.symm e
 have zl:z<g5.objs.size:=lt_size z5;show wpAny _ _ (Builtin.SmallTypes.ownedTupleHandOut (.ref z) (.ref g5.objs.size) >>= _) _ _ _;refine wpAny_bind ?_;unfold Builtin.SmallTypes.ownedTupleHandOut;have z6:IsZip (g5.push {cls:= .type "tuple",data:= .seq #[x,y]}) z TI TO .ellipsis:=get?_push_of_some _ z5
 refine wpAny_bind (wpAny_setField_rec z6 (by simp) λg7 z7 m7=> ?_);replace z7:IsZip g7 z TI TO (rawInt g5.objs.size):=z7
 refine wpAny_setField_rec z7 (by simp) λg8 z8 m8=> ?_;replace z8:IsZip g8 z TI TO (rawInt g5.objs.size):=z8
 have up: ∀c o,c≠z->g5.get? c=some o->g8.get? c=some o:=λc o c1 e=>m8.extBut _ _ c1 (m7.extBut _ _ c1 (get?_push_of_some _ e))
 have t8:IsPair g8 g5.objs.size x y:=m8.extBut _ _ (ne_of_gt zl) (m7.extBut _ _ (ne_of_gt zl) (get?_push_size _ rfl));rw[sz]at z8 t8;refine wpAny_pure ⟨_,rfl,?_⟩;show Q (.ref g5.objs.size) _;rw[sz];refine hQ g8 ⟨z8,up _ _ D.a (keep5 _ _ D.a D.e D.f D.g hI),⟨x,y,up _ _ D.b o5⟩,q1.at λo e=>up _ _ D.c e,q2.at λo e=>up _ _ D.d e⟩ t8 λc o nc e=> ?_
 simp only[mem_cons,not_mem_nil,or_false,not_or]at nc;exact up c o nc.1 (keep5 c o nc.1 nc.2.2.1 nc.2.2.2.1 nc.2.2.2.2 e)
theorem xD {Q:Fin->Shared->Prop}(hh:A.handled=none)(D:ZAp z TI TO i1 i2)(n1:l1 ∉ [z,TI,TO,i1,i2])(n2:l2 ∉ [z,TI,TO,i1,i2])(st:ZSt T1 T2 z TI TO i1 i2 l1 l2 .none k s.heap)
  (hl1:gZ T1 s.heap l1 xs) (hl2:gZ T2 s.heap l2 ys) (hend:xs[k]? =none\/ys[k]? =none)
  (hE: ∀h' e,(∀c o,c ∉ [z,TI,TO,i1,i2]->s.heap.get? c=some o->h'.get? c=some o)->(∃o,h'.get? e=some o/\o.cls= .type "StopIteration")->E (.ref e) {s with heap:=h'}) :
  wpAny (model prog w) A (Builtin.«zip.__next__» ⟨[.ref z],[]⟩) Q E s:=by
 obtain⟨hz,hI,⟨a0,b0,hO⟩,h1,h2⟩:=st;simp only[mem_cons,not_mem_nil,or_false,not_or]at n1 n2;have nin: ∀c,c ∉ [z,TI,TO,i1,i2]->c≠z/\c≠TI/\c≠TO/\c≠i1/\c≠i2:=λc h=>by simpa only[mem_cons,not_mem_nil,or_false,not_or]using h
 show wpAny _ _ (field (.ref z) 2 >>= _) _ _ _;refine wpAny_bind (wpAny_field hz rfl (x:= .bool false) rfl ?_)
 show wpAny _ _ (field (.ref z) 3 >>= _) _ _ _;refine wpAny_bind (wpAny_field hz rfl (x:= .ref TI) rfl ?_)
 refine wpAny_bind (wpAny_seqItems hI rfl ?_);show wpAny _ _ (Builtin.SmallTypes.ownedTupleIsFree (.ref z) >>= _) _ _ _
 refine wpAny_bind ?_;unfold Builtin.SmallTypes.ownedTupleIsFree;refine wpAny_bind (wpAny_field hz rfl (x:= .none) rfl (wpAny_pure ?_))
 simp only[if_true];refine wpAny_bind (wpAny_rule ?_);refine wpAny_bind (wpAny_field hz rfl (x:= .ref TO) rfl ?_);refine wpAny_bind (wpAny_setField_rec hz (by simp) λg1 z1 m1=> ?_);replace z1:IsZip g1 z TI TO .ellipsis:=z1
 refine wpAny_bind ?_;simp only[List.zipIdx_cons,List.zipIdx_nil,forIn_cons,forIn_nil]
 refine wpAny_bind (wpAny_bind (wpAny_onRaise ?_));show wpAny _ _ (Builtin.SmallTypes.nextOf (.ref i1) >>= _) _ _ _
 cases hx:xs[k]? with
 | none=>
  refine wpAny_bind (oO (s:={s with heap:=g1}) hh (h1.at λo e=>m1.extBut _ _ D.c e) (hl1.at λo e=>m1.extBut _ _ n1.1 e) hx λg2 e m2 he=> ?_)
  obtain⟨oe,hoe,hce⟩:=he;have z2:IsZip g2 z TI TO .ellipsis:=m2 _ _ D.c.symm z1;have ez:e≠z:=λq=>by subst q;rw[z2]at hoe;cases hoe;simp at hce
  refine wpAny_setField_rec z2 (by simp) λg3 _ m3=>hE g3 e (λc o nc q=> ?_) ⟨oe,m3.extBut _ _ ez hoe,hce⟩
  obtain⟨c1,c2,c3,c4,c5⟩:=nin c nc;exact m3.extBut _ _ c1 (m2 _ _ c4 (m1.extBut _ _ c1 q))
 | some x=>
  have hy:ys[k]? =none:=by rcases hend with q|q;(rw[hx]at q;cases q);exact q
  refine wpAny_bind (o8 (s:={s with heap:=g1}) (h1.at λo e=>m1.extBut _ _ D.c e) (hl1.at λo e=>m1.extBut _ _ n1.1 e) hx λg2 p2 m2=>wpAny_pure ?_)
  have o2:IsPair g2 TO a0 b0:=m2.extBut _ _ D.h (m1.extBut _ _ D.b hO);refine wpAny_bind (wpAny_seqItems o2 rfl ?_);refine wpAny_bind (wpAny_updateSeq_pair o2 λg3 o3 m3=> ?_)
  refine wpAny_bind (wpAny_letGo (wpAny_pure ?_));refine wpAny_bind (wpAny_bind (wpAny_onRaise ?_));show wpAny _ _ (Builtin.SmallTypes.nextOf (.ref i2) >>= _) _ _ _
  refine wpAny_bind (oO (s:={s with heap:=g3}) hh (h2.at λo e=>m3.extBut _ _ D.i.symm (m2.extBut _ _ D.j.symm (m1.extBut _ _ D.d e))) (hl2.at λo e=>m3.extBut _ _ n2.2.2.1 (m2.extBut _ _ n2.2.2.2.1 (m1.extBut _ _ n2.1 e))) hy λg4 e m4 he=> ?_)
  obtain⟨oe,hoe,hce⟩:=he;have z4:IsZip g4 z TI TO .ellipsis:=m4 _ _ D.d.symm (m3.extBut _ _ D.b.symm (m2.extBut _ _ D.c.symm z1));have ez:e≠z:=λq=>by subst q;rw[z4]at hoe;cases hoe;simp at hce
  refine wpAny_setField_rec z4 (by simp) λg5 _ m5=>hE g5 e (λc o nc q=> ?_) ⟨oe,m5.extBut _ _ ez hoe,hce⟩
  obtain⟨c1,c2,c3,c4,c5⟩:=nin c nc;exact m5.extBut _ _ c1 (m4 _ _ c5 (m3.extBut _ _ c3 (m2.extBut _ _ c4 (m1.extBut _ _ c1 q))))
end
def Itz (K:Frag)(T1 T2:Bool)(l1 l2:Addr):It where
 go:=λi H=> ∃xs ys x y,SqV K T1 H l1 xs/\SqV K T2 H l2 ys/\xs[i]? =some x/\ys[i]? =some y
 yld:=λi H v H'=> ∃T x y,v= .ref T/\H T=none/\H'=upd H T (.tup [x,y])/\(∀xs,SqV K T1 H l1 xs->xs[i]? =some x)/\ ∀ys,SqV K T2 H l2 ys->ys[i]? =some y
 stop:=λi H=> ∃xs ys,SqV K T1 H l1 xs/\SqV K T2 H l2 ys/\(xs.length<=i\/ys.length<=i)
theorem ZSt.objs {T1 T2:Bool}{z TI TO i1 i2 l1 l2:Addr}{f0:Value}{i:Nat}{h:Heap}(st:ZSt T1 T2 z TI TO i1 i2 l1 l2 f0 i h): ∀b∈[z,TI,TO,i1,i2],∃o,h.get? b=some o/\ ∀v,o.data≠ .cell v:=λb hb=>by
 obtain⟨hz,hI,⟨a,c,hO⟩,h1,h2⟩:=st;simp only[mem_cons,not_mem_nil,or_false]at hb;rcases hb with rfl|rfl|rfl|rfl|rfl
 ·exact⟨_,hz,λv q=>by cases q⟩
 ·exact⟨_,hI,λv q=>by cases q⟩
 ·exact⟨_,hO,λv q=>by cases q⟩
 ·exact h1.rec'
 ·exact h2.rec'
theorem tE:2<=sizeLine:=by decide
theorem zE {P:Program}{w:World}{K:Frag}{elts:List Expr}{kt:Nat}{tp:Pos}{T1 T2:Bool}{z TI TO i1 i2 l1 l2:Addr}(D:ZAp z TI TO i1 i2)(n1:l1 ∉ [z,TI,TO,i1,i2])(n2:l2 ∉ [z,TI,TO,i1,i2]) :
  uF P w K (.Tuple elts kt tp) (Itz K T1 T2 l1 l2) [z,TI,TO,i1,i2] z (ZSt T1 T2 z TI TO i1 i2 l1 l2 .none) where
 mem:=by simp
 obj:=λi h st b hb=>st.objs b hb
 keep:=λi h h' st k=>by
  obtain⟨hz,hI,⟨a,c,hO⟩,h1,h2⟩:=st;exact⟨k z (by simp) _ hz,k TI (by simp) _ hI,⟨a,c,k TO (by simp) _ hO⟩,h1.at λo e=>k i1 (by simp) o e,h2.at λo e=>k i2 (by simp) o e⟩
 item:=by
  intro X hP hw hK hc i pins s σ H E I hf st hg;subst hP hw hK;obtain⟨xs,ys,x,y,q1,q2,e1,e2⟩:=hg;obtain⟨is1,r1,p1,_⟩:=I.sq q1;obtain⟨is2,r2,p2,_⟩:=I.sq q2;obtain⟨u1,hu1,ru1⟩:=r1.get e1;obtain⟨u2,hu2,ru2⟩:=r2.get e2;have hT:s.TypeIs (.ref z) "zip":=⟨_,st.hz,rfl⟩;unfold pyNext
  refine wpAny_bind (wpAny_attempt (wpAny_callSpecial?_slot (name:=Str.ofString "__next__") hT PySem.F.slot_zip_next (wpAny_call_entry PySem.F.slot_zip_next hT PySem.F.entry_zip_next (zD D n1 n2 st p1 p2 (by simpa using hu1) (by simpa using hu2) λh' st' ht k=>wpAny_pure ?_) (PySem.F.args_zip_next_1 _))))
  refine⟨_,rfl,wpAny_letOwnedTupleGo_zip st'.hz λh2 hz2 m=> ?_⟩
  have kk: ∀b u,b ∉ [z,TI,TO,i1,i2]->s.heap.get? b=some u->h2.get? b=some u:=λb u nb e=>m.extBut _ _ (λq=>nb (by simp[q])) (k b u nb e)
  have hne:s.heap.objs.size≠z:=ne_of_gt (lt_size st.hz);have ht2:IsPair h2 s.heap.objs.size u1 u2:=m.extBut _ _ hne ht;obtain⟨a',c',hO'⟩:=st'.hO;refine⟨.ref s.heap.objs.size,upd H s.heap.objs.size (.tup [x,y]),I.turnedNew (t':=s.toks) kk hf (le_refl _) ⟨tE,[u1,u2],.cons ru1 (.cons ru2 .nil),⟨_,ht2,rfl,_,rfl⟩⟩,rfl,
   ⟨_,x,y,rfl,I.hok.fresh (le_refl _),rfl,λxs' q=>by rw[I.sq_inj q q1];exact e1,λys' q=>by rw[I.sq_inj q q2];exact e2⟩,⟨hz2,m.extBut _ _ D.a st'.hI,⟨a',c',m.extBut _ _ D.b hO'⟩,st'.h1.at λo e=>m.extBut _ _ D.c e,st'.h2.at λo e=>m.extBut _ _ D.d e⟩,λb hb=> ?_⟩
  obtain⟨o,ho,_⟩:=st.objs b hb;rw[bF (ne_of_lt (lt_size ho))];exact(hf b hb).1
 done:=by
  intro X hP hw hK hc i pins s σ H E I hf st hg;subst hP hw hK;obtain⟨xs,ys,q1,q2,hs⟩:=hg;obtain⟨is1,r1,p1,_⟩:=I.sq q1;obtain⟨is2,r2,p2,_⟩:=I.sq q2;have l1':=r1.length;have l2':=r2.length;have hT:s.TypeIs (.ref z) "zip":=⟨_,st.hz,rfl⟩;unfold pyNext
  refine wpAny_bind (wpAny_attempt (wpAny_callSpecial?_slot (name:=Str.ofString "__next__") hT PySem.F.slot_zip_next (wpAny_call_entry PySem.F.slot_zip_next hT PySem.F.entry_zip_next (xD (I.ok.hd hc) D n1 n2 st p1 p2 (by simp;omega) λh' e k he=> ?_) (PySem.F.args_zip_next_1 _))))
  obtain⟨o,ho,hc'⟩:=he;exact wpAny_bind (wpAny_isInstance (T:="StopIteration") (b:=true) ⟨o,ho,hc'⟩ isSubtype_stop (wpAny_pure ⟨rfl,I.turnedL (t':=s.toks) k hf⟩))
 self:=λ_ _ _ _ _ st h=>wpAny_pyIter_zip st.hz h
abbrev zg1 (T1:Bool)(h:Heap)(l1:Addr):Heap:=h.push (kC T1 l1)
abbrev zg2 (T1 T2:Bool)(h:Heap)(l1 l2:Addr):Heap:=(zg1 T1 h l1).push (kC T2 l2)
abbrev zg3 (T1 T2:Bool)(h:Heap)(l1 l2:Addr):Heap:=(zg2 T1 T2 h l1 l2).push {cls:= .type "tuple",data:= .seq #[.ref h.objs.size,.ref (zg1 T1 h l1).objs.size]}
abbrev zg4 (T1 T2:Bool)(h:Heap)(l1 l2:Addr):Heap:=(zg3 T1 T2 h l1 l2).push {cls:= .type "tuple",data:= .seq #[.none,.none]}
abbrev zg5 (T1 T2:Bool)(h:Heap)(l1 l2:Addr):Heap:=(zg4 T1 T2 h l1 l2).push {cls:= .type "zip",data:= .fields #[.none,.bool false,.bool false,.ref (zg2 T1 T2 h l1 l2).objs.size,.ref (zg3 T1 T2 h l1 l2).objs.size]}
theorem a61 (T1 T2:Bool)(l1 l2:Addr)(xs ys:Array Value):Meets (Builtin.«zip.__new__» ⟨[.type "zip",.ref l1,.ref l2],[]⟩) (λ_ R s=>gZ T1 s.heap l1 xs/\gZ T2 s.heap l2 ys/\
  R (.ok (.ret (.ref (zg4 T1 T2 s.heap l1 l2).objs.size))) {s with heap:=zg5 T1 T2 s.heap l1 l2}):= .of_wp λprog w A R s h=>by
 obtain⟨hp,g,d,tk,os⟩:=s;obtain⟨hl1,hl2,h⟩:=h;have hsub:=sub_zip;have e1:gZ T1 (Shared.heap ⟨hp,g,d,tk,os⟩) l1 xs:=hl1;have e2:gZ T2 (Shared.heap ⟨hp.push (kC T1 l1),g,d,tk,os⟩) l2 ys:=hl2.at λo e=>get?_push_of_some _ e
 wp_walk using kO e1,kO e2
 exact⟨_,rfl,h⟩
section
variable {prog:Program}{w:World}{A:Around}{E:Value->Shared->Prop}{s:Shared}
theorem zF {T1 T2:Bool}{l1 l2:Addr}{xs ys:Array Value}{Q:Value->Shared->Prop}(hl1:gZ T1 s.heap l1 xs)(hl2:gZ T2 s.heap l2 ys)
  (h: ∀h' z TI TO i1 i2,ZAp z TI TO i1 i2->(∀b∈[z,TI,TO,i1,i2],s.heap.objs.size<=b)->ZSt T1 T2 z TI TO i1 i2 l1 l2 .none 0 h'->(∀c o,s.heap.get? c=some o->h'.get? c=some o)->Q (.ref z) {s with heap:=h'}) :
  wpAny (model prog w) A (call (.type "zip") [.ref l1,.ref l2]) Q E s:=by
 refine callType_new PySem.F.called_zip (by decide) (PySem.F.typeCall_zip_2 _ _) (PySem.F.newCall_zip_2 _ _) (λobj=>PySem.F.args_object_init_3 obj _ _) PySem.F.entry_zip_new (a61 T1 T2 l1 l2 xs ys) ⟨hl1,hl2,?_⟩
 have z1:(zg1 T1 s.heap l1).objs.size=s.heap.objs.size+1:=size_push ..;have z2:(zg2 T1 T2 s.heap l1 l2).objs.size=s.heap.objs.size+2:=by rw[size_push,z1]
 have z3:(zg3 T1 T2 s.heap l1 l2).objs.size=s.heap.objs.size+3:=by rw[size_push,z2]
 have z4:(zg4 T1 T2 s.heap l1 l2).objs.size=s.heap.objs.size+4:=by rw[size_push,z3]
 have g5:(zg5 T1 T2 s.heap l1 l2).get? (zg4 T1 T2 s.heap l1 l2).objs.size=some _:=get?_push_size _ rfl;have g4:(zg5 T1 T2 s.heap l1 l2).get? (zg3 T1 T2 s.heap l1 l2).objs.size=some _:=get?_push_of_some _ (get?_push_size _ rfl);have g3:(zg5 T1 T2 s.heap l1 l2).get? (zg2 T1 T2 s.heap l1 l2).objs.size=some _:=get?_push_of_some _ (get?_push_of_some _ (get?_push_size _ rfl))
 have s2:g9 T2 (zg5 T1 T2 s.heap l1 l2) (zg1 T1 s.heap l1).objs.size l2 0:=(g9.new (zg1 T1 s.heap l1) l2).at λo e=>get?_push_of_some _ (get?_push_of_some _ (get?_push_of_some _ e))
 have s1:g9 T1 (zg5 T1 T2 s.heap l1 l2) s.heap.objs.size l1 0:=(g9.new s.heap l1).at λo e=>get?_push_of_some _ (get?_push_of_some _ (get?_push_of_some _ (get?_push_of_some _ e)))
 have ap:ZAp (zg4 T1 T2 s.heap l1 l2).objs.size (zg2 T1 T2 s.heap l1 l2).objs.size (zg3 T1 T2 s.heap l1 l2).objs.size s.heap.objs.size (zg1 T1 s.heap l1).objs.size:=by
  rw[z1,z2,z3,z4];have k: ∀n a b:Nat,a≠b->n+a≠n+b:=λn a b h=>by omega
  exact⟨k _ 2 4 (by decide),k _ 3 4 (by decide),k _ 0 4 (by decide),k _ 1 4 (by decide),k _ 2 3 (by decide),k _ 2 0 (by decide),k _ 2 1 (by decide),k _ 3 0 (by decide),k _ 3 1 (by decide),k _ 0 1 (by decide)⟩
 refine⟨⟨_,g5,rfl⟩,h _ _ _ _ _ _ ap (λb hb=> ?_) ⟨g5,g3,⟨_,_,g4⟩,s1,s2⟩ λc o e=>get?_push_of_some _ (get?_push_of_some _ (get?_push_of_some _ (get?_push_of_some _ (get?_push_of_some _ e))))⟩
 rw[z1,z2,z3,z4]at hb;simp only[mem_cons,not_mem_nil,or_false]at hb;rcases hb with rfl|rfl|rfl|rfl|rfl<;>omega
end
section
variable {X:Cx}
def iZip (K:Frag)(ta:TA):TI:=λσ H R=>ta σ H λvs H1=> ∃l1 l2 T1 T2 xs ys,vs=[.ref l1,.ref l2]/\SqV K T1 H1 l1 xs/\SqV K T2 H1 l2 ys/\R (Itz K T1 T2 l1 l2) H1
theorem pi_zip {a b:Expr}{elts:List Expr}{kt:Nat}{tp:Pos}{ta:TA}{p pos:Pos}(hg:Gl X "zip")(hm:X.mg "zip"=none)(ha:PA X [a,b] ta)(hs:starEach [a,b] X.env=[(false,eval a X.env),(false,eval b X.env)]:=by rfl)(hs2:starEach [b] X.env=[(false,eval b X.env)]:=by rfl) :
  PI X (.Tuple elts kt tp) (.Call (.Name "zip" p) [a,b] [] pos) (iZip X.K ta):=by
 intro pins s σ H R I h;refine Call_ (j7 I hg hm PyProof.Rows.boot_zip (PyProof.Rows.callWith_type1 (thn (ha pos pins s σ H _ I h) λus s1 ⟨vs,H1,I1,r1,q1⟩=> ?_) (by rw[hs,hs2]) (by rw[hs2];rfl)))
 obtain⟨l1,l2,T1,T2,xs,ys,e,q1,q2,q⟩:=q1;subst e;obtain⟨u,v,rfl,r,r'⟩:=bC.two r1;cases r;cases r';obtain⟨is1,_,p1,_⟩:=I1.sq q1;obtain⟨is2,_,p2,_⟩:=I1.sq q2;refine zF p1 p2 λh' z TI TO i1 i2 ap fr st k=>wpAny_pyIter_zip st.hz ?_
 have nl: ∀l,l<s1.heap.objs.size->l ∉ [z,TI,TO,i1,i2]:=λl hl hb=>absurd (lt_of_lt_of_le hl (fr l hb)) (lt_irrefl _)
 exact⟨z,[z,TI,TO,i1,i2],_,_,H1,rfl,I1.kept (t':=s1.toks) k,zE ap (nl l1 p1.lt) (nl l2 p2.lt),st,λb hb=>I1.fpOk (fr b hb) (I1.hok.fresh (fr b hb)),q⟩
end
theorem tF {prog:Program}{w:World}{A:Around}{T:Bool}(hh:A.handled=none)(it a:Addr)(hne:a≠it)(xs:Array Value):Draws prog w A it [it,a] xs.size (λi v=>xs[i]? =some v) (λi h=>g9 T h it a i/\gZ T h a xs) where
 live:=λ_ _ st=>let ⟨o,ho,_⟩:=st.1.rec';⟨o,ho⟩
 frame:=λ_ _ _ st k=>⟨st.1.at λo e=>k it (by simp) o e,st.2.at λo e=>k a (by simp) o e⟩
 item:=λi s Q E hi st hQ=>o8 st.1 st.2 (x:=xs[i]) (by simp[hi]) λh' hit' m=>hQ _ h' s.toks (by simp[hi]) ⟨hit',st.2.at λo e=>m.extBut _ _ hne e⟩ m
 done:=λs Q E st hE=>oO hh st.1 st.2 (by simp) hE
def Ite (K:Frag)(T:Bool)(l:Addr):It where
 go:=λi H=> ∃xs x,SqV K T H l xs/\xs[i]? =some x
 yld:=λi H v H'=> ∃Tn x,v= .ref Tn/\H Tn=none/\H'=upd H Tn (.tup [.int (i:Int),x])/\ ∀xs,SqV K T H l xs->xs[i]? =some x
 stop:=λi H=> ∃xs,SqV K T H l xs/\xs.length=i
def ESt (T:Bool)(e it l:Addr)(i:Nat)(h:Heap):Prop:=(∃old,IsEnum h e it i old)/\g9 T h it l i
theorem ESt.objs {T:Bool}{e it l:Addr}{i:Nat}{h:Heap}(st:ESt T e it l i h): ∀b∈[e,it],∃o,h.get? b=some o/\ ∀v,o.data≠ .cell v:=λb hb=>by
 obtain⟨⟨old,he⟩,h1⟩:=st;simp only[mem_cons,not_mem_nil,or_false]at hb;rcases hb with rfl|rfl
 ·exact⟨_,he,λv q=>by cases q⟩
 ·exact h1.rec'
theorem xE {P:Program}{w:World}{K:Frag}{elts:List Expr}{kt:Nat}{tp:Pos}{T:Bool}{e it l:Addr}(hei:e≠it)(nl:l ∉ [e,it]):uF P w K (.Tuple elts kt tp) (Ite K T l) [e,it] e (ESt T e it l) where
 mem:=by simp
 obj:=λi h st b hb=>st.objs b hb
 keep:=λi h h' st k=>by
  obtain⟨⟨old,he⟩,h1⟩:=st;exact⟨⟨old,k e (by simp) _ he⟩,h1.at λo q=>k it (by simp) o q⟩
 item:=by
  intro X hP hw hK hc i pins s σ H E I hf st hg;subst hP hw hK;obtain⟨xs,x,q1,e1⟩:=hg;obtain⟨is1,r1,p1,_⟩:=I.sq q1;obtain⟨u1,hu1,ru1⟩:=r1.get e1;simp only[mem_cons,not_mem_nil,or_false,not_or]at nl;obtain⟨⟨old,he⟩,h1⟩:=id st;have hi:i<is1.toArray.size:=by rw[size_toArray];exact(List.getElem?_eq_some_iff.mp hu1).1
  have D:=tF (prog:=X.prog) (w:=X.w) (A:=X.A.in1) (T:=T) (I.ok.hd hc) it l nl.2 is1.toArray;refine wpAny_pyNext_enum_itemD D he ⟨h1,p1⟩ hi hei (by simp[hei,Ne.symm nl.1]) λv h' tk hv ho hs' ht hsz k=>⟨_,rfl,wpAny_letOwnedTupleGo_enum ho λh2 he2 m=> ?_⟩
  have ev:v=u1:=by
   have:is1.toArray[i]? =some u1:=by simpa using hu1
   rw[this]at hv;cases hv;rfl
  subst ev;have hne:s.heap.objs.size≠e:=ne_of_gt (lt_size he);have kk: ∀b u,b ∉ [e,it]->s.heap.get? b=some u->h2.get? b=some u:=λb u nb q=>by
   simp only[mem_cons,not_mem_nil,or_false,not_or]at nb;exact m.extBut _ _ nb.1 (k b u nb.1 nb.2 q)
  have ht2:h2.get? s.heap.objs.size=some {cls:= .type "tuple",data:= .seq #[.int i tk,v]}:=m.extBut _ _ hne ht;refine⟨.ref s.heap.objs.size,upd H s.heap.objs.size (.tup [.int (i:Int),x]),I.turnedNew (t':=tk+1) kk hf (le_refl _) ⟨tE,[.int i tk,v],.cons ⟨tk,rfl⟩ (.cons ru1 .nil),⟨_,ht2,rfl,_,rfl⟩⟩,rfl,
   ⟨_,x,rfl,I.hok.fresh (le_refl _),rfl,λxs' q=>by rw[I.sq_inj q q1];exact e1⟩,⟨⟨_,by simpa using he2⟩,hs'.1.at λo q=>m.extBut _ _ (Ne.symm hei) q⟩,λb hb=> ?_⟩
  obtain⟨o,ho',_⟩:=st.objs b hb;rw[bF (ne_of_lt (lt_size ho'))];exact(hf b hb).1
 done:=by
  intro X hP hw hK hc i pins s σ H E I hf st hg;subst hP hw hK;obtain⟨xs,q1,hl⟩:=hg;obtain⟨is1,r1,p1,_⟩:=I.sq q1;have l1':=r1.length;simp only[mem_cons,not_mem_nil,or_false,not_or]at nl;obtain⟨⟨old,he⟩,h1⟩:=id st;have D:=tF (prog:=X.prog) (w:=X.w) (A:=X.A.in1) (T:=T) (I.ok.hd hc) it l nl.2 is1.toArray
  refine wpAny_pyNext_enum_endD D he ⟨by rw[size_toArray,<-l1',hl];exact h1,p1⟩ λh' ex=>⟨rfl,I.turnedL (t':=s.toks) (λb u nb q=>ex b u (λz=>nb (by simp[z])) q) hf⟩
 self:=λ_ _ _ _ _ st h=>by
  obtain⟨⟨old,he⟩,_⟩:=st;exact wpAny_pyIter_enum he h
theorem xF (l:Addr)(xs:Array Value):Meets (Builtin.«enumerate.__new__» ⟨[.type "enumerate",.ref l],[]⟩) (λ_ R s=>s.heap.IsTuple l xs/\
  R (.ok (.ret (.ref (s.heap.push (kC true l)).objs.size))) {s with heap:=(s.heap.push (kC true l)).push {cls:= .type "enumerate",data:= .fields #[.none,.bool false,.ref s.heap.objs.size,rawInt 0,.none,.none]}}):= .of_wp λprog w A R s h=>by
 obtain⟨hp,g,d,tk,os⟩:=s;obtain⟨hl,h⟩:=h;obtain⟨⟨c,dct,dt,sl⟩,hg,hc,n,hd⟩:=id hl
 replace hc:c= .type "tuple":=hc
 replace hd:dt= .seq xs n:=hd
 subst hc hd;have hsub:=sub_enumerate;have e1:gZ true (Shared.heap ⟨hp,g,d,tk,os⟩) l xs:=hl
 wp_walk using AutoSeq1.wpAny_loadPart' hg
 refine wpAny_stack_any λst=>wpAny_pure ?_
 split
 ·rename_i c _ _ _ _ _
  cases (c==Value.type "enumerate")<;>(wp_walk using AutoSeq1.wpAny_loadPart' hg,kO e1;exact⟨_,rfl,h⟩)
 ·wp_walk using AutoSeq1.wpAny_loadPart' hg,kO e1
  exact⟨_,rfl,h⟩
section
variable {prog:Program}{w:World}{A:Around}{E:Value->Shared->Prop}{s:Shared}
theorem xG {T:Bool}{l:Addr}{xs:Array Value}{Q:Value->Shared->Prop}(hl:gZ T s.heap l xs)
  (h: ∀h' e it,e≠it->s.heap.objs.size<=e->s.heap.objs.size<=it->ESt T e it l 0 h'->(∀c o,s.heap.get? c=some o->h'.get? c=some o)->Q (.ref e) {s with heap:=h'}) :
  wpAny (model prog w) A (call (.type "enumerate") [.ref l]) Q E s:=by
 cases T with
 | false=>exact call_enumerate_list hl λh' he hit hsz k=>h h' _ _ (by omega) (by omega) (by omega) ⟨⟨_,he⟩,hit⟩ k
 | true=>
  refine callType_new PySem.F.called_enumerate (by decide) (PySem.F.typeCall_enumerate_1 _) (PySem.F.newCall_enumerate_1 _) (λobj=>PySem.F.args_object_init_2 obj _) PySem.F.entry_enumerate_new (xF l xs) ⟨hl,?_⟩
  have z1:(s.heap.push (kC true l)).objs.size=s.heap.objs.size+1:=size_push ..;have he:IsEnum ((s.heap.push (kC true l)).push {cls:= .type "enumerate",data:= .fields #[.none,.bool false,.ref s.heap.objs.size,rawInt 0,.none,.none]}) (s.heap.push (kC true l)).objs.size s.heap.objs.size 0 .none:=get?_push_size _ rfl
  have hi:g9 true ((s.heap.push (kC true l)).push {cls:= .type "enumerate",data:= .fields #[.none,.bool false,.ref s.heap.objs.size,rawInt 0,.none,.none]}) s.heap.objs.size l 0:=(g9.new (T:=true) s.heap l).at λo e=>get?_push_of_some _ e
  exact⟨⟨_,he,rfl⟩,h _ _ _ (by rw[z1];omega) (by rw[z1];omega) (le_refl _) ⟨⟨_,he⟩,hi⟩ λc o e=>get?_push_of_some _ (get?_push_of_some _ e)⟩
end
section
variable {X:Cx}
def iEnum (K:Frag)(ta:TA):TI:=λσ H R=>ta σ H λvs H1=> ∃l T xs,vs=[.ref l]/\SqV K T H1 l xs/\R (Ite K T l) H1
theorem a62 {a:Expr}{elts:List Expr}{kt:Nat}{tp:Pos}{ta:TA}{p pos:Pos}(hg:Gl X "enumerate")(hm:X.mg "enumerate"=none)(ha:PA X [a] ta)(hs:starEach [a] X.env=[(false,eval a X.env)]:=by rfl) :
  PI X (.Tuple elts kt tp) (.Call (.Name "enumerate" p) [a] [] pos) (iEnum X.K ta):=by
 intro pins s σ H R I h;refine Call_ (j7 I hg hm PyProof.Rows.boot_enumerate (PyProof.Rows.callWith_type1 (thn (ha pos pins s σ H _ I h) λus s1 ⟨vs,H1,I1,r1,q1⟩=> ?_) hs rfl))
 obtain⟨l,T,xs,e,q1,q⟩:=q1;subst e;obtain⟨u,rfl,r⟩:=vals1 r1;cases r;obtain⟨is1,_,p1,_⟩:=I1.sq q1;refine xG p1 λh' e it ne f1 f2 st k=> ?_
 obtain⟨⟨old,he⟩,_⟩:=id st;refine wpAny_pyIter_enum he ?_;have lt:=p1.lt;have fr: ∀b∈[e,it],s1.heap.objs.size<=b:=λb hb=>by
  simp only[mem_cons,not_mem_nil,or_false]at hb;rcases hb with rfl|rfl
  ·exact f1
  ·exact f2
 exact⟨e,[e,it],_,_,H1,rfl,I1.kept (t':=s1.toks) k,xE ne (λhb=>absurd (lt_of_lt_of_le lt (fr l hb)) (lt_irrefl _)),st,λb hb=>I1.fpOk (fr b hb) (I1.hok.fresh (fr b hb)),q⟩
end
end L2
end
section
namespace L2
open PySem PySem.Spec PyProof.Rows
theorem nU:isSubtype (.type "range_iterator") (.type "reversed")=pure false:=by rw[isSubtype_type];kernel_rfl
theorem nA {n:Int}(h1: -(2^31)<=n)(h2:n<2^31):Builtin.Range.rangeFitsLong n=true:=by
 simp[Builtin.Range.rangeFitsLong]
 lia
def mB (n:Int):Obj:={cls:= .type "range_iterator",data:= .fields #[rawInt ((n.toNat:Int)-1),rawInt (n.toNat:Int),rawInt (-1)]}
theorem qC (r:Addr)(a b c:Int)(t u v:Tok)(hc0: ¬(!(Builtin.Range.rangeFitsLong a&&Builtin.Range.rangeFitsLong b&&Builtin.Range.rangeFitsLong c&&Builtin.Range.rangeFitsLong (-c)&&Builtin.Range.rangeFitsLong (a-c)&&Builtin.Range.rangeFitsLong (Builtin.Range.rangeSize a b c)))=true) :
  Meets (Builtin.«range.__reversed__» ⟨[.ref r],[]⟩) (λ_ R s=>s.heap.get? r=some {cls:= .type "range",dict:=none,data:= .fields #[.int a t,.int b u,.int c v],slots:= #[]}/\
  R (.ok (.ret (Value.ref s.heap.objs.size))) {s with heap:=s.heap.push {cls:=Value.type (if(Builtin.Range.rangeFitsLong a&&Builtin.Range.rangeFitsLong b&&Builtin.Range.rangeFitsLong c&&Builtin.Range.rangeFitsLong (-c)&&Builtin.Range.rangeFitsLong (a-c)&&Builtin.Range.rangeFitsLong (Builtin.Range.rangeSize a b c))=true then "range_iterator" else "longrange_iterator"),data:=Data.fields #[rawInt (a+(Builtin.Range.rangeSize a b c-1)*c),rawInt (Builtin.Range.rangeSize a b c),rawInt (-c)]},toks:=s.toks}):= .of_wp λprog w A R s h=>by
 obtain⟨hp,g,d,tk,os⟩:=s;obtain⟨hl,h⟩:=h
 wp_walk
 exact⟨_,rfl,h⟩
theorem nV (r:Addr)(n:Int)(t u v:Tok)(h1: -(2^31)<=n)(h2:n<2^31):Meets (Builtin.«range.__reversed__» ⟨[.ref r],[]⟩) (λ_ R s=>IsRange s.heap r 0 n 1 t u v/\
  R (.ok (.ret (.ref s.heap.objs.size))) {s with heap:=s.heap.push (mB n)}):=by
 have e0:Builtin.Range.rangeSize 0 n 1=(n.toNat:Int):=by rw[rangeSize_one];split<;>lia
 have sm:(Builtin.Range.rangeFitsLong 0&&Builtin.Range.rangeFitsLong n&&Builtin.Range.rangeFitsLong 1&&Builtin.Range.rangeFitsLong (-1)&&Builtin.Range.rangeFitsLong (0-1)&&Builtin.Range.rangeFitsLong (Builtin.Range.rangeSize 0 n 1))=true:=by
  rw[e0,nA h1 h2,nA (n:=0) (by decide) (by decide),nA (n:=1) (by decide) (by decide),nA (n:= -1) (by decide) (by decide),nA (n:=0-1) (by decide) (by decide),nA (n:=(n.toNat:Int)) (by lia) (by lia)]
  rfl
 have G:=qC r 0 n 1 t u v (by rw[sm];decide)
 intro prog w A R s h;refine G prog w A R s ⟨h.1,?_⟩;rw[sm,if_pos rfl,e0];have e1:(0:Int)+((n.toNat:Int)-1)*1=(n.toNat:Int)-1:=by lia
 rw[e1];exact h.2
section
variable {prog:Program}{w:World}{A:Around}{E:Value->Shared->Prop}{s:Shared}
theorem tG {r:Addr}{n:Int}{t u v:Tok}{Q₁:Value->Shared->Prop}(hr:IsRange s.heap r 0 n 1 t u v)(h1: -(2^31)<=n)(h2:n<2^31)
  (h:Q₁ (.ref s.heap.objs.size) {s with heap:=s.heap.push (mB n)}) :
  codeAny (model prog w) A (.call (.builtin "reversed.__new__") ⟨[.type "reversed",.ref r],[]⟩) (wants Q₁ E) s:=by
 have hT:s.TypeIs (.ref r) "range":=⟨_,hr,rfl⟩;refine codeAny_of_tree ?_;show wpAny _ A.in1 (do checkBuiltinCall "reversed.__new__" ⟨[.type "reversed",.ref r],[]⟩;again (.builtin "reversed.__new__" ⟨[.type "reversed",.ref r],[]⟩)) _ _ s
 refine wpAny_bind (wpAny_of_eq (PySem.F.newCall_reversed_1 _) (wpAny_pure ⟨plainId_quiet PySem.F.plain_reversed_new _,codeAny_builtin PySem.F.entry_reversed_new ?_⟩))
 rw[Around.under_plainId PySem.F.plain_reversed_new _];unfold Builtin.«reversed.__new__»;refine wpAny_bind (wpAny_of_eq (newClass_reversed _) ?_);try dsimp only
 refine wpAny_bind (wpAny_of_eq (a:=()) (by first|rfl|kernel_rfl) ?_);refine wpAny_bind (wpAny_of_eq (a:=()) (by first|rfl|kernel_rfl) ?_);try dsimp only
 refine wpAny_bind (wpAny_specialOf hT PySem.F.slot_range_reversed.lookup ?_);try dsimp only
 refine wpAny_bind (wpAny_of_eq (PySem.F.slot_range_reversed.bind _) ?_);try dsimp only
 first
 | rw[if_neg (show ¬((Value.builtin "range.__reversed__"==Value.none)=true)from Bool.false_ne_true)]
 | (show wpAny _ _ (if(Value.builtin "range.__reversed__"==Value.none)=true then _ else _) _ _ _;rw[if_neg (show ¬((Value.builtin "range.__reversed__"==Value.none)=true)from Bool.false_ne_true)])
 refine wpAny_bind (wpAny_rule ?_)
 refine wpAny_bind (m:=runValue (.call (.builtin "range.__reversed__") ⟨[.ref r],[]⟩)) (show wpAny _ _ (call (.builtin "range.__reversed__") [.ref r]) _ _ _ from call_meets PySem.F.slot_range_reversed hT PySem.F.entry_range_reversed (PySem.F.args_range_reversed_1 _) (nV r n t u v h1 h2) ⟨hr,?_⟩)
 first
 | exact wpAny_pure h
 | exact wpAny_bind (wpAny_pure (wpAny_pure h))
theorem a63 {r:Addr}{n:Int}{t u v:Tok}{Q:Value->Shared->Prop}(hr:IsRange s.heap r 0 n 1 t u v)(h1: -(2^31)<=n)(h2:n<2^31)(h:Q (.ref s.heap.objs.size) {s with heap:=s.heap.push (mB n)}) :
  wpAny (model prog w) A (call (.type "reversed") [.ref r]) Q E s:=by
 refine callType_other (U:="range_iterator") (Q₁:=λobj s₁=>obj= .ref s.heap.objs.size/\s₁={s with heap:=s.heap.push (mB n)}) (by decide +kernel) PySem.F.create_reversed ⟨_,_,PySem.F.mro_reversed⟩ PySem.F.made_reversed nU (PySem.F.typeCall_reversed_1 _) (tG hr h1 h2 ⟨rfl,rfl⟩) ?_
 rintro obj s₁ ⟨rfl,rfl⟩;exact⟨⟨_,get?_push_size _ rfl,rfl⟩,h⟩
end
section
variable {X:Cx}{tg:Expr}
def iRevR (ta:TA):TI:=λσ H R=>ta σ H λvs H1=> ∃j:Int,vs=[.int j]/\ -(2^31)<=j/\j<2^31/\R (Itd ((j.toNat:Int)-1) j.toNat) H1
theorem tH {a:Expr}{ta:TA}{p p2 pos pos2:Pos}(hg:Gl X "reversed")(hm:X.mg "reversed"=none)(hg2:Gl X "range")(hm2:X.mg "range"=none)(ha:PA X [a] ta)(hs:starEach [a] X.env=[(false,eval a X.env)]:=by rfl)
  (hs2:starEach [.Call (.Name "range" p2) [a] [] pos2] X.env=[(false,eval (.Call (.Name "range" p2) [a] [] pos2) X.env)]:=by rfl) :
  PI X tg (.Call (.Name "reversed" p) [.Call (.Name "range" p2) [a] [] pos2] [] pos) (iRevR ta):=by
 intro pins s σ H R I h;refine Call_ (j7 I hg hm PyProof.Rows.boot_reversed (PyProof.Rows.callWith_type1 ?_ hs2 rfl));rw[hs2];show wpAny _ _ (spliced ((false,eval (.Call (.Name "range" p2) [a] [] pos2) X.env)::[])) _ _ s;refine Calls.spliced_cons (Call_ (j7 I hg2 hm2 boot_range (PyProof.Rows.callWith_type1 (thn (ha pos2 pins s σ H _ I h) λus s1 ⟨vs,H1,I1,r1,q1⟩=> ?_) hs rfl)))
 obtain⟨j,e,q1,q2,q⟩:=q1;subst e;obtain⟨u,rfl,t,rfl⟩:=vals1 r1;refine call_range_1 (Calls.spliced_nil ?_);have I2:Inv X pins σ H1 {s1 with heap:=s1.heap.push {cls:= .type "range",data:= .fields #[.int 0 s1.toks,.int j t,.int 1 (s1.toks+1)]},toks:=s1.toks+1+1}:=I1.kept λb o e=>get?_push_of_some _ e
 refine a63 (IsRange.new ..) q1 q2 ?_
 have hi:IsRangeIter (((s1.heap.push {cls:= .type "range",data:= .fields #[.int 0 s1.toks,.int j t,.int 1 (s1.toks+1)]})).push (mB j)) (s1.heap.push {cls:= .type "range",data:= .fields #[.int 0 s1.toks,.int j t,.int 1 (s1.toks+1)]}).objs.size ((j.toNat:Int)-1) (j.toNat:Int) (-1):=get?_push_size _ rfl;refine wpAny_pyIter_rangeiter hi ?_
 refine⟨_,[(s1.heap.push {cls:= .type "range",data:= .fields #[.int 0 s1.toks,.int j t,.int 1 (s1.toks+1)]}).objs.size],_,_,H1,rfl,I2.kept (t':=s1.toks+1+1) λb o e=>get?_push_of_some _ e,qX _ ((j.toNat:Int)-1) j.toNat,?_,λb hb=> ?_,q⟩
 ·show IsRangeIter _ _ (((j.toNat:Int)-1)+((0:Nat):Int)*(-1)) ((j.toNat:Int)-((0:Nat):Int)) (-1)
  have e1:((j.toNat:Int)-1)+((0:Nat):Int)*(-1)=(j.toNat:Int)-1:=by simp
  have e2:(j.toNat:Int)-((0:Nat):Int)=(j.toNat:Int):=by simp
  rw[e1,e2];exact hi
 ·have e:b=(s1.heap.push {cls:= .type "range",data:= .fields #[.int 0 s1.toks,.int j t,.int 1 (s1.toks+1)]}).objs.size:=by simpa using hb
  subst e;exact I2.fpOk (le_refl _) (I2.hok.fresh (le_refl _))
end
end L2
namespace HT
open PySem PyProof.Rows
section
variable {prog:Program}{w:World}{A:Around}{E:Value->Shared->Prop}{s:Shared}
theorem getItem_tuple_whole {t sl:Addr}{items:Array Value}{vl vu:Value}{lo hi:Option Int}{Q:Value->Shared->Prop}(ht:IsTup s.heap t items)(hs:s.heap.IsSliceOf sl vl vu .none)(pl:IsPart vl lo)(pu:IsPart vu hi)
  (hw:sIx items.size 0 lo=0/\sIx items.size items.size hi=items.size) (h:Q (.ref t) s):wpAny (model prog w) A (getItem (.ref t) (.ref sl)) Q E s:=by
 obtain⟨os,hos,hcs,hds⟩:=id hs;have hTs:s.TypeIs (.ref sl) "slice":=⟨os,hos,hcs⟩;unfold getItem;try with_reducible refine wpAny_holding ?_
 first|refine wpAny_bind (wpAny_pure ?_)|skip
 refine wpAny_bind (wpAny_sequenceKey ht.typeIs (by decide) ?_)
 refine wpAny_bind (wpAny_callSpecial?_slot (name:=Str.ofString "__getitem__") ht.typeIs PyProof.Rows.slot_tuple_getitem (wpAny_call_entry PyProof.Rows.slot_tuple_getitem ht.typeIs entry_tuple_getitem ?_ (args_tuple_getitem _ _)))
 show wpAny _ _ (Builtin.Tuple.tupleItemsOf (.ref t) >>= _) _ _ s
 refine wpAny_bind (tupleItemsOf_ ht ?_)
 refine wpAny_bind (wpAny_typeOf hTs ?_)
 rw[if_pos (by decide)]
 refine wpAny_bind (iH hs pl pu ?_)
 have hyes:(((sIx items.size 0 lo:Nat):Int)==0&&(1:Int)==1&&(sIx items.size items.size hi-sIx items.size 0 lo)==items.size)=true:=by
  rw[hw.1,hw.2];simp
 show wpAny _ _ (if(((sIx items.size 0 lo:Nat):Int)==0&&(1:Int)==1&&(sIx items.size items.size hi-sIx items.size 0 lo)==items.size)=true then _ else _) _ _ s
 rw[if_pos hyes];show wpAny _ _ (Builtin.Tuple.tupleIsExact (.ref t) >>= _) _ _ s;unfold Builtin.Tuple.tupleIsExact;refine wpAny_bind (wpAny_bind (wpAny_typeOf ht.typeIs (wpAny_pure ?_)));show wpAny _ _ (if(Value.type "tuple"==Value.type "tuple")=true then _ else _) _ _ s;rw[if_pos (by decide)]
 refine wpAny_bind (wpAny_rule ?_)
 first
  | exact wpAny_pure ⟨_,rfl,wpAny_pure h⟩
  | exact wpAny_bind (wpAny_pure (wpAny_pure ⟨_,rfl,wpAny_pure h⟩))
  | exact wpAny_bind (wpAny_pure ⟨_,rfl,wpAny_pure h⟩)
end
end HT
namespace L2
open PySem PySem.Spec PyProof.Rows
section
variable {X:Cx}
def rSlW (K:Frag):V->Option Int->Option Int->Hp->VK->Prop:=λx lo hi H Q=> ∃a xs,x= .ref a/\SqT K H a xs/\(HT.sIx xs.length 0 lo=0/\HT.sIx xs.length xs.length hi=xs.length)/\Q (.ref a) H
theorem zG:SlR X (rSlW X.K):=by
 intro pins s σ H x v vl vu lo hi sl Q I rx hs pl pu h;obtain⟨a,xs,rfl,hx,hw,q⟩:=h;cases rx;obtain⟨its,r,ht,hz⟩:=I.tuple hx;have hlen:its.toArray.size=xs.length:=by rw[size_toArray];exact r.length.symm
 exact⟨"tuple",_,PyProof.Rows.slot_tuple_getitem.lookup,ht.typeIs,HT.getItem_tuple_whole ht hs pl pu (by rw[hlen];exact hw) ⟨.ref a,H,I,rfl,q⟩⟩
end
end L2
namespace M
open PySem PySem.Spec PyProof.Rows L2
section
variable {X:Cx}{K:Frag}{A:AS}{H:Hp}{e a b:Expr}{te ti:UE}{pos p2:Pos}{C:C0}{ρ ρ':Ev}{σ:L2.St}
def gSlT (d:D)(lo hi:Option Int)(Q:B->Prop):Prop:=match d with
 | .tup l=>Q (.pu (.tup (cutD l lo hi)))
 | .lst l=>Q (.ow (cutD l lo hi))
 | .rol l=>Q (.ow (cutD l lo hi))
 | _=>False
def v5 (t:UE)(tl th:UO):UE:=λρ Q=>t ρ λb0 ρ1=>tl ρ1 λlo ρ2=>th ρ2 λhi ρ3=>gSlT b0.d lo hi λb=>Q b ρ3
theorem xH (l:List D)(lo hi:Option Int)(h:HT.sIx l.length 0 lo=0/\HT.sIx l.length l.length hi=l.length):cutD l lo hi=l:=by
 unfold cutD;rw[h.1,h.2];simp
theorem iN {tl th:UO}{lo hi:Option Expr}(he:PU X e te)(hl:PUO X lo tl)(hu:PUO X hi th):PU X (.Subscript e (.Slice lo hi none p2) pos) (v5 te tl th):=
 dP (sX ((vX.or yG).or zG) he hl hu) λσ H Q ⟨C,ρ,Q0,I,h,k⟩=>⟨C,ρ,_,I,h,λb0 ρ1 v H1 q f s r=>by
  have I1:=(I.frz f).same s;have rr:=r.rep λa z=>I.avF f z
  refine⟨C,ρ1,_,I1,q,λl2 ρ2 H2 q2 f2 s2=> ?_⟩
  have I2:=(I1.frz f2).same s2;refine⟨C,ρ2,_,I2,q2,λh3 ρ3 H3 q3 f3 s3=> ?_⟩
  have I3:=(I2.frz f3).same s3;have s13:=s2.trans s3;have sAll:=s.trans s13;have fAll:=f.trans (f2.trans f3);have r':Rep X.K (Av C ρ3 σ) H3 b0.d v:=rr.mono (.sub s13 λa z=>f2.av (f3.av z))
  generalize b0.d=d at r' q3;cases d with
  | tup l=>
   have r2:=r';simp only[Rep]at r';obtain⟨a,vs,rfl,c,rs⟩:=r';have hlen:=rs.length
   by_cases hw:HT.sIx l.length 0 l2=0/\HT.sIx l.length l.length h3=l.length
   ·refine .inr ⟨a,vs,rfl,c.imp And.right id,by rw[<-hlen];exact hw,k _ ρ3 _ _ q3 fAll sAll ?_⟩
    show Rep _ _ _ (.tup (cutD l l2 h3)) _
    rw[xH l l2 h3 hw];exact r2
   ·exact .inl (.inr ⟨a,vs,rfl,c.imp And.right id,by rw[<-hlen];exact hw,λp n=>k _ ρ3 _ _ q3 fAll (sAll.trans (bL n _)) (cM (λa z=>I3.avSome z) n (rs.cut l2 h3))⟩)
  | lst l=>
   simp only[Rep]at r';obtain⟨a,vs,rfl,n0,c,rs⟩:=r';exact .inl (.inl ⟨a,vs,rfl,SqL.of c,λp n=>k _ ρ3 _ _ q3 fAll (sAll.trans (bL n _)) (cY sAll n (rs.cut l2 h3))⟩)
  | rol l=>
   simp only[Rep]at r';obtain⟨a,vs,rfl,c,rs⟩:=r';exact .inl (.inl ⟨a,vs,rfl,c.imp And.right id,λp n=>k _ ρ3 _ _ q3 fAll (sAll.trans (bL n _)) (cY sAll n (rs.cut l2 h3))⟩)
  | _=>exact(show False from q3).elim⟩
mutual
def pd:D->Option PyData
 | .non=>some .none
 | .bl b=>some (.bool b)
 | .int i=>some (.int i)
 | .tup l=>(pdL l).map .tuple
 | .lst l=>(pdL l).map .list
 | .rol l=>(pdL l).map .list
 | .str _=>none
 | .ty _=>none
 | .obj _ _ _=>none
 | .adr _=>none
 | .xob _ _ _ _=>none
def pdL:List D->Option (List PyData)
 | []=>some []
 | d::r=>(pd d).bind λx=>(pdL r).map (x::·)
end
theorem tI {d:D}{r:List D}{xs:List PyData}(h:pdL (d::r)=some xs): ∃x ys,xs=x::ys/\pd d=some x/\pdL r=some ys:=by
 simp only[pdL]at h;cases e:pd d with
 | none=>rw[e]at h;cases h
 | some x=>
  rw[e]at h;cases e2:pdL r with
  | none=>rw[e2]at h;cases h
  | some ys=>rw[e2]at h;cases h;exact⟨x,ys,rfl,rfl,rfl⟩
theorem gD {α β:Type}{o:Option α}{f:α->β}{y:β}(h:o.map f=some y): ∃x,o=some x/\y=f x:=by
 cases o with
 | none=>cases h
 | some x=>cases h;exact⟨x,rfl,rfl⟩
mutual
theorem nB: ∀(d:D) {x:PyData},pd d=some x->x.canLay0=true
 | .non,x,h=>by simp only[pd]at h;cases h;rfl
 | .bl b,x,h=>by simp only[pd]at h;cases h;rfl
 | .int i,x,h=>by simp only[pd]at h;cases h;rfl
 | .tup l,x,h=>by simp only[pd]at h;obtain⟨xs,e,rfl⟩:=gD h;simp only[PyData.canLay0];exact o9 l e
 | .lst l,x,h=>by simp only[pd]at h;obtain⟨xs,e,rfl⟩:=gD h;simp only[PyData.canLay0];exact o9 l e
 | .rol l,x,h=>by simp only[pd]at h;obtain⟨xs,e,rfl⟩:=gD h;simp only[PyData.canLay0];exact o9 l e
 | .str _,x,h=>by simp only[pd]at h;cases h
 | .ty _,x,h=>by simp only[pd]at h;cases h
 | .obj _ _ _,x,h=>by simp only[pd]at h;cases h
 | .adr _,x,h=>by simp only[pd]at h;cases h
 | .xob _ _ _ _,x,h=>by simp only[pd]at h;cases h
theorem o9: ∀(l:List D) {xs:List PyData},pdL l=some xs->PyData.canLayAll0 xs=true
 | [],xs,h=>by simp only[pdL]at h;cases h;rfl
 | d::r,xs,h=>by
  obtain⟨x,ys,rfl,e1,e2⟩:=tI h;simp only[PyData.canLayAll0,and_eq_true];exact⟨nB d e1,o9 r e2⟩
end
section
variable {pins:List (Addr×Obj)}{s:Shared}
mutual
theorem iO (I:Inv X pins σ H s): ∀(d:D) {x:PyData} {v:V} {u:Value},pd d=some x->Rep X.K A H d v->RelV v u-> ∃as,Reads s.heap u x as
 | .non,x,v,u,h,r,q=>by simp only[pd]at h;cases h;simp only[Rep]at r;subst r;cases q;exact⟨_,.none⟩
 | .bl b,x,v,u,h,r,q=>by simp only[pd]at h;cases h;simp only[Rep]at r;subst r;cases q;exact⟨_,.bool b⟩
 | .int i,x,v,u,h,r,q=>by simp only[pd]at h;cases h;simp only[Rep]at r;subst r;obtain⟨t,rfl⟩:=q;exact⟨_,.int i t⟩
 | .tup l,x,v,u,h,r,q=>by
  simp only[pd]at h;obtain⟨xs,e,rfl⟩:=gD h;simp only[Rep]at r;obtain⟨a,vs,rfl,c,rs⟩:=r;cases q;obtain⟨its,rv,⟨o,ho,hc,n,hd⟩,hz⟩:=I.tuple (c.imp And.right id);obtain⟨as,ra⟩:=jC I l e rs rv;exact⟨_,.tuple ho hc hd (by simpa using ra)⟩
 | .lst l,x,v,u,h,r,q=>by
  simp only[pd]at h;obtain⟨xs,e,rfl⟩:=gD h;simp only[Rep]at r;obtain⟨a,vs,rfl,n0,c,rs⟩:=r;cases q;obtain⟨its,rv,p,hz⟩:=I.list (SqL.of c);obtain⟨o,ho,hc,n,hd⟩:=p.isList;obtain⟨as,ra⟩:=jC I l e rs rv;exact⟨_,.list ho hc hd (by simpa using ra)⟩
 | .rol l,x,v,u,h,r,q=>by
  simp only[pd]at h;obtain⟨xs,e,rfl⟩:=gD h;simp only[Rep]at r;obtain⟨a,vs,rfl,c,rs⟩:=r;cases q;obtain⟨its,rv,p,hz⟩:=I.list (c.imp And.right id);obtain⟨o,ho,hc,n,hd⟩:=p.isList;obtain⟨as,ra⟩:=jC I l e rs rv;exact⟨_,.list ho hc hd (by simpa using ra)⟩
 | .str _,x,v,u,h,r,q=>by simp only[pd]at h;cases h
 | .ty _,x,v,u,h,r,q=>by simp only[pd]at h;cases h
 | .obj _ _ _,x,v,u,h,r,q=>by simp only[pd]at h;cases h
 | .adr _,x,v,u,h,r,q=>by simp only[pd]at h;cases h
 | .xob _ _ _ _,x,v,u,h,r,q=>by simp only[pd]at h;cases h
theorem jC (I:Inv X pins σ H s): ∀(l:List D) {xs:List PyData} {vs:List V} {us:List Value},pdL l=some xs->aS X.K A H l vs->bC vs us-> ∃as,ReadsAll s.heap us xs as
 | [],xs,vs,us,h,r,q=>by simp only[pdL]at h;cases h;have:=r.unnil;subst this;cases q;exact⟨_,.nil⟩
 | d::l,xs,vs,us,h,r,q=>by
  obtain⟨x,ys,rfl,e1,e2⟩:=tI h;obtain⟨v,vr,rfl,r1,rs⟩:=r.uncons;cases q with
  | cons q1 q2=>
   obtain⟨as,h1⟩:=iO I d e1 r1 q1;obtain⟨bs,h2⟩:=jC I l e2 rs q2;exact⟨_,.cons h1 h2⟩
end
end
def v6 (neg:Bool)(d e:D)(Q:B->Prop):Prop:= ∃p q,pd d=some p/\pd e=some q/\p.depth<=60/\Q (.pu (.bl (neg ^^ p.eqv q)))
theorem zH (hu:X.A.units+64<cLine):OpU X (compareOp .Eq) (v6 false):=by
 intro A H d e v w Q0 Q hA r1 r2 g k;obtain⟨p,q,e1,e2,hd,g⟩:=g;refine⟨λx y H Q=> ∃(A:AS) (d e:D) (p q:PyData),Rep X.K A H d x/\Rep X.K A H e y/\pd d=some p/\pd e=some q/\p.depth<=60/\Q (.bl (p.eqv q)) H,?_,A,d,e,p,q,r1,r2,e1,e2,hd,k _ _ H g (.refl _) (by rw[false_xor];exact eZ)⟩
 rintro pins s σ H x y v u Q I rx ry ⟨A,d,e,p,q,r1,r2,e1,e2,hd,h⟩;obtain⟨as,ra⟩:=iO I d e1 r1 rx;obtain⟨bs,rb⟩:=iO I e e2 r2 ry;exact SeqAt.compareEq_reads ra rb (nB d e1) (nB e e2) (by lia) ⟨.bl _,H,I,rfl,h⟩
theorem zI (hu:X.A.units+64<cLine):OpU X (compareOp .NotEq) (v6 true):=by
 intro A H d e v w Q0 Q hA r1 r2 g k;obtain⟨p,q,e1,e2,hd,g⟩:=g;refine⟨λx y H Q=> ∃(A:AS) (d e:D) (p q:PyData),Rep X.K A H d x/\Rep X.K A H e y/\pd d=some p/\pd e=some q/\p.depth<=60/\Q (.bl (!(p.eqv q))) H,?_,A,d,e,p,q,r1,r2,e1,e2,hd,k _ _ H g (.refl _) (by rw[true_xor];exact eZ)⟩
 rintro pins s σ H x y v u Q I rx ry ⟨A,d,e,p,q,r1,r2,e1,e2,hd,h⟩;obtain⟨as,ra⟩:=iO I d e1 r1 rx;obtain⟨bs,rb⟩:=iO I e e2 r2 ry;exact SeqAt.compareNe_reads ra rb (nB d e1) (nB e e2) (by lia) ⟨.bl _,H,I,rfl,h⟩
def SqA (K:Frag)(A:AS)(H:Hp)(T:Bool)(a:Addr)(vs:List V):Prop:=match T with
 | false=>(¬A a/\Rd H a (.lst vs))\/KL K a vs
 | true=>(¬A a/\Rd H a (.tup vs))\/KT K a vs
theorem SqA.sqv {T:Bool}{a':Addr}{vs:List V}{A':AS}{H':Hp}(c:SqA K A H T a' vs)(P:e6 A H A' H'):SqV K T H' a' vs:=by
 cases T<;>(rcases c with⟨n,c⟩|c;exact .inl (Rd.pres P n c).2;exact .inr c)
theorem e6.self:e6 A H A H:=λ_ _ n e=>⟨n,e⟩
theorem Rep.sq {d:D}{v:V}{l:List D}(r:Rep K A H d v)(h:hJ d=some l): ∃T a vs,v= .ref a/\SqA K A H T a vs/\aS K A H l vs:=by
 cases d with
 | tup l'=>cases h;simp only[Rep]at r;obtain⟨a,vs,e,c,r⟩:=r;exact⟨true,a,vs,e,c,r⟩
 | lst l'=>cases h;simp only[Rep]at r;obtain⟨a,vs,e,n,c,r⟩:=r;exact⟨false,a,vs,e,.inl ⟨n,.inl c⟩,r⟩
 | rol l'=>cases h;simp only[Rep]at r;obtain⟨a,vs,e,c,r⟩:=r;exact⟨false,a,vs,e,c,r⟩
 | _=>cases h
theorem aS.at {l:List D}{vs:List V}{i:Nat}(r:aS K A H l vs)(hi:i<l.length): ∃x,vs[i]? =some x/\Rep K A H (l.getD i .non) x:=r.get (by rw[getD_eq_getElem?_getD,getElem?_eq_getElem hi];rfl)
theorem zJ {T1 T2:Bool}{l1 l2:Addr}{vs ws:List V}{l m:List D}(c1:SqA K A H T1 l1 vs)(c2:SqA K A H T2 l2 ws)(r1:aS K A H l vs)(r2:aS K A H m ws) :
  uW K A H (Itz K T1 T2 l1 l2) (min l.length m.length) (λi=> .tup [l.getD i .non,m.getD i .non]):=by
 have k1:=r1.length;have k2:=r2.length;refine⟨λA' H' i P hi=> ?_,λA' H' i x H'' P hA hi y=> ?_,λA' H' P=>⟨vs,ws,c1.sqv P,c2.sqv P,by lia⟩⟩
 ·obtain⟨x,e1,_⟩:=r1.at (i:=i) (by lia)
  obtain⟨y,e2,_⟩:=r2.at (i:=i) (by lia)
  exact⟨vs,ws,x,y,c1.sqv P,c2.sqv P,e1,e2⟩
 ·obtain⟨x1,e1,q1⟩:=r1.at (i:=i) (by lia)
  obtain⟨y1,e2,q2⟩:=r2.at (i:=i) (by lia)
  obtain⟨T,a,b,rfl,hT,rfl,ha,hb⟩:=y;have ea:=ha vs (c1.sqv P);have eb:=hb ws (c2.sqv P);rw[e1]at ea;cases ea;rw[e2]at eb;cases eb;exact⟨bL hT _,cM hA hT (.cons (q1.mono P) (.cons (q2.mono P) .nil))⟩
theorem xI {T:Bool}{l1:Addr}{vs:List V}{l:List D}(c1:SqA K A H T l1 vs)(r1:aS K A H l vs):uW K A H (Ite K T l1) l.length (λi=> .tup [.int (i:Int),l.getD i .non]):=by
 have k1:=r1.length;refine⟨λA' H' i P hi=> ?_,λA' H' i x H'' P hA hi y=> ?_,λA' H' P=>⟨vs,c1.sqv P,k1.symm⟩⟩
 ·obtain⟨x,e1,_⟩:=r1.at hi;exact⟨vs,x,c1.sqv P,e1⟩
 ·obtain⟨x1,e1,q1⟩:=r1.at hi;obtain⟨T,a,rfl,hT,rfl,ha⟩:=y;have ea:=ha vs (c1.sqv P);rw[e1]at ea;cases ea;exact⟨bL hT _,cM hA hT (.cons (show Rep _ _ _ _ _ by simp only[Rep]) (.cons (q1.mono P) .nil))⟩
def qD (ta:UA):UI:=λρ Q=>ta ρ λds ρ1=>match ds with
 | [d,e]=>(match hJ d,hJ e with
  | some l,some m=>Q (min l.length m.length) (λi=> .tup [l.getD i .non,m.getD i .non]) ρ1
  | _,_=>False)
 | _=>False
theorem nE {elts:List Expr}{kt:Nat}{tp p:Pos}{ta:UA}(hg:Gl X "zip")(hm:X.mg "zip"=none)(ha:PUA X [a,b] ta)(hs:starEach [a,b] X.env=[(false,eval a X.env),(false,eval b X.env)]:=by rfl)(hs2:starEach [b] X.env=[(false,eval b X.env)]:=by rfl) :
  PUI X (.Tuple elts kt tp) (.Call (.Name "zip" p) [a,b] [] pos) (qD ta):=
 qQ (pi_zip hg hm ha hs hs2) λσ H R ⟨C,ρ,Q0,I,h,k⟩=>⟨C,ρ,_,I,h,λds ρ1 vs H1 q f s r=>by
  split at q
  ·rename_i d e
   obtain⟨v,vr,rfl,rv,rr⟩:=r.uncons;obtain⟨w,wr,rfl,rw',rr'⟩:=rr.uncons;have:=rr'.unnil;subst this;split at q
   ·rename_i l m e1 e2
    obtain⟨T1,a1,us,rfl,c1,s1⟩:=rv.sq e1;obtain⟨T2,a2,ws,rfl,c2,s2⟩:=rw'.sq e2;exact⟨a1,a2,T1,T2,us,ws,rfl,c1.sqv .self,c2.sqv .self,k _ _ ρ1 _ H1 q f s (zJ c1 c2 s1 s2)⟩
   ·exact q.elim
  ·exact q.elim⟩
def zK (ta:UA):UI:=λρ Q=>ta ρ λds ρ1=>match ds with
 | [d]=>(match hJ d with
  | some l=>Q l.length (λi=> .tup [.int (i:Int),l.getD i .non]) ρ1
  | none=>False)
 | _=>False
theorem a64 {elts:List Expr}{kt:Nat}{tp p:Pos}{ta:UA}(hg:Gl X "enumerate")(hm:X.mg "enumerate"=none)(ha:PUA X [a] ta)(hs:starEach [a] X.env=[(false,eval a X.env)]:=by rfl) :
  PUI X (.Tuple elts kt tp) (.Call (.Name "enumerate" p) [a] [] pos) (zK ta):=
 qQ (a62 hg hm ha hs) λσ H R ⟨C,ρ,Q0,I,h,k⟩=>⟨C,ρ,_,I,h,λds ρ1 vs H1 q f s r=>by
  split at q
  ·rename_i d
   obtain⟨v,vr,rfl,rv,rr⟩:=r.uncons;have:=rr.unnil;subst this;split at q
   ·rename_i l e1
    obtain⟨T1,a1,us,rfl,c1,s1⟩:=rv.sq e1;exact⟨a1,T1,us,rfl,c1.sqv .self,k _ _ ρ1 _ H1 q f s (xI c1 s1)⟩
   ·exact q.elim
  ·exact q.elim⟩
def wE (ta:UA):UI:=λρ Q=>ta ρ λds ρ1=>match ds with
 | [.int j]=>(-(2^31)<=j/\j<2^31)/\Q j.toNat (λk=> .int ((j.toNat:Int)-1-k)) ρ1
 | _=>False
theorem wF {tg:Expr}{ta:UA}{p q2 pos2:Pos}(hg:Gl X "reversed")(hm:X.mg "reversed"=none)(hg2:Gl X "range")(hm2:X.mg "range"=none)(ha:PUA X [a] ta)(hs:starEach [a] X.env=[(false,eval a X.env)]:=by rfl)
  (hs2:starEach [.Call (.Name "range" q2) [a] [] pos2] X.env=[(false,eval (.Call (.Name "range" q2) [a] [] pos2) X.env)]:=by rfl) :
  PUI X tg (.Call (.Name "reversed" p) [.Call (.Name "range" q2) [a] [] pos2] [] pos) (wE ta):=
 qQ (tH hg hm hg2 hm2 ha hs hs2) λσ H R ⟨C,ρ,Q0,I,h,k⟩=>⟨C,ρ,_,I,h,λds ρ1 vs H1 q f s r=>by
  split at q
  ·rename_i j
   obtain⟨v,vr,rfl,rv,rr⟩:=r.uncons;have:=rr.unnil;subst this;have:=b5 rv;subst this;obtain⟨⟨h1,h2⟩,q⟩:=q;exact⟨j,rfl,h1,h2,k _ _ ρ1 _ H1 q f s qZ⟩
  ·exact q.elim⟩
end
end M
end
section
namespace M
open PySem PySem.Spec PyProof.Rows L2
section
variable {X:Cx}{a b c e:Expr}{ta tb tc te:UE}{pos:Pos}
def uChain (g g':D->D->(B->Prop)->Prop)(ta tb tc:UE):UE:=λρ Q=>ta ρ λx ρ1=>tb ρ1 λy ρ2=>g x.d y.d λb=>isB (λk ρ3=>if k=true then tc ρ3 λz ρ4=>g' y.d z.d λb'=>Q b' ρ4 else Q (.pu (.bl false)) ρ3) b ρ2
theorem aS.dropLast {K:Frag}{A:AS}{H:Hp}{l:List D}{vs:List V}(h:aS K A H l vs):aS K A H l.dropLast vs.dropLast:=by
 rw[List.dropLast_eq_take,List.dropLast_eq_take,h.length];exact h.take _
def uPop (i:Nat):US:=λD ρ=>eX ρ i λl=>l≠[]/\D.nx (ρ.set i (some (.ow l.dropLast)))
end
end M
end
section
namespace L2
open PySem PySem.Spec PyProof.Rows
theorem nF:fillsNumberSlot (.type "tuple") "mul"=pure false:=
 PySem.fillsNumberSlot_seq (id:="tuple.__mul__") (r:=some (.builtin "tuple.__rmul__")) PySem.F.slot_tuple_mul.lookup (by decide +kernel) PySem.F.slot_tuple_rmul.lookup (by decide +kernel)
theorem sE:seqRepeat? (.type "tuple")=pure (some (.builtin "tuple.__mul__")):=by
 unfold seqRepeat?;rw[PySem.seqSlot_of (T:="tuple") (name:="__mul__") (id:="tuple.__mul__") PySem.F.slot_tuple_mul.lookup (by decide +kernel),PySem.seqSlot_of (T:="tuple") (name:="__rmul__") (id:="tuple.__rmul__") PySem.F.slot_tuple_rmul.lookup (by decide +kernel)]
 rfl
theorem oP (a:Int)(t:Tok)(l:Addr)(items:Array Value)(n:Nat)(dd:Option Addr)(sl:Array (Option Value)) :
  Meets (Builtin.«int.__rmul__» ⟨[.int a t,.ref l],[]⟩) (λ_ R s=>s.heap.get? l=some {cls:= .type "tuple",dict:=dd,data:= .seq items n,slots:=sl}/\R (.ok (.ret Value.notImplemented)) s):=
 .of_wp λprog w A R s h=>by obtain⟨hp,g,d,tk,os⟩:=s;obtain⟨hl,h⟩:=h;wp_walk using wpAny_loadPart' hl;exact⟨_,rfl,h⟩
theorem zL (l:Addr)(items:Array Value)(n:Nat)(dd:Option Addr)(sl:Array (Option Value))(u:Tok) :
  Meets (Builtin.«tuple.__mul__» ⟨[.ref l,.int 1 u],[]⟩) (λ_ R s=>s.heap.get? l=some {cls:= .type "tuple",dict:=dd,data:= .seq items n,slots:=sl}/\R (.ok (.ret (.ref l))) s):=
 .of_wp λprog w A R s h=>by
  obtain⟨hp,g,d,tk,os⟩:=s;obtain⟨hl,h⟩:=h;have f1:=AutoSeq1.idx_int
  wp_walk using wpAny_loadPart' hl
  exact⟨_,rfl,h⟩
theorem zM (l:Addr)(items:Array Value)(n:Nat)(dd:Option Addr)(sl:Array (Option Value))(k:Int)(u:Tok)(h1: ¬(k< -(2^63)||k≥2^63)=true)(hne: ¬(items.isEmpty||k==1)=true)(h0:(k<=0||items.isEmpty)=true) :
  Meets (Builtin.«tuple.__mul__» ⟨[.ref l,.int k u],[]⟩) (λ_ R s=>s.heap.get? l=some {cls:= .type "tuple",dict:=dd,data:= .seq items n,slots:=sl}/\R (.ok (.ret (.ref s.heap.objs.size))) {s with heap:=s.heap.push {cls:= .type "tuple",data:= .seq #[]}}):=
 .of_wp λprog w A R s h=>by
  obtain⟨hp,g,d,tk,os⟩:=s;obtain⟨hl,h⟩:=h;have f1:=AutoSeq1.idx_int
  wp_walk using wpAny_loadPart' hl
  rw[if_neg h1]
  wp_walk using wpAny_loadPart' hl
  exact⟨_,rfl,h⟩
theorem zN (l:Addr)(items:Array Value)(n:Nat)(dd:Option Addr)(sl:Array (Option Value))(k:Int)(u:Tok)(h1: ¬(k< -(2^63)||k≥2^63)=true)(hne: ¬(items.isEmpty||k==1)=true)(h0: ¬(k<=0||items.isEmpty)=true)
  (h2: ¬items.size*k>(2^63-1)/8) (h3: ¬Builtin.Tuple.tupleTooMany (items.size*k)=true) (hz:(foldl (λx1 x2=>x1++x2) #[] (replicate k.toNat items)).size<=sizeLine) :
  Meets (Builtin.«tuple.__mul__» ⟨[.ref l,.int k u],[]⟩) (λ_ R s=>s.heap.get? l=some {cls:= .type "tuple",dict:=dd,data:= .seq items n,slots:=sl}/\R (.ok (.ret (.ref s.heap.objs.size))) {s with heap:=s.heap.push {cls:= .type "tuple",data:= .seq (foldl (λx1 x2=>x1++x2) #[] (replicate k.toNat items))}}):=
 .of_wp λprog w A R s h=>by
  obtain⟨hp,g,d,tk,os⟩:=s;obtain⟨hl,h⟩:=h;have f1:=AutoSeq1.idx_int
  wp_walk using wpAny_loadPart' hl
  rw[if_neg h1]
  wp_walk using wpAny_loadPart' hl
  rw[if_neg h2]
  wp_walk using wpAny_loadPart' hl
  all_goals first
   | exact⟨_,rfl,h⟩
   | (refine wpAny_ite_false (decide_eq_false (Nat.not_lt.mpr hz)) ?_
      wp_walk using wpAny_loadPart' hl
      exact⟨_,rfl,h⟩)
section
variable {X:Cx}
theorem a65:OpR X (binaryOp .Mult) (λx y H Q=> ∃a k xs,x= .ref a/\y= .int k/\SqT X.K H a xs/\xs≠[]/\ -(2^63)<=k/\k<2^63/\xs.length*k.toNat<=sizeLine/\(k=1->Q (.ref a) H)/\(k≠1-> ∀p,H p=none->Q (.ref p) (upd H p (.tup (replicate k.toNat xs).flatten)))):=by
 intro pins s σ H x y v u Q I rx ry h;obtain⟨a,k,xs,rfl,rfl,ha,hn,h1,h2,hz,q1,q2⟩:=h;cases rx;obtain⟨t,rfl⟩:=ry;obtain⟨its,r,p1,_⟩:=I.tuple ha;have hl:=r.length;obtain⟨⟨cls,dd,data,sl⟩,ho,hc,n,hd⟩:=id p1;simp only at hc hd;subst hc hd;have ne:its≠[]:=λz=>hn (List.length_eq_zero_iff.mp (by rw[hl,z];rfl))
 have ne2:its.toArray.isEmpty=false:=by cases its with
  | nil=>exact absurd rfl ne
  | cons b r'=>rfl
 have hb: ¬(decide (k< -(2^63))||decide (k≥2^63))=true:=by simp;omega
 have f0: ∀m:Nat,foldl (λx1 x2=>x1++x2) #[] (replicate m its.toArray)=(replicate m its).flatten.toArray:=λm=>by
  have:=foldl_rep its m [];rw[List.nil_append]at this;exact this
 refine wpAny_binaryOp_repeat_ref (T:="tuple") (U:="int") (by decide) ⟨_,ho,rfl⟩ (λs'=>typeIs_int s' k t) nF PySem.F.fills_int_mul PySem.F.slot_int_rmul sE PySem.F.slot_int_index.lookup
  (call_meets PySem.F.slot_int_rmul (typeIs_int s k t) PySem.F.entry_int_rmul (PySem.F.args_int_rmul_2 _ _) (oP k t a its.toArray n dd sl) ⟨ho,rfl,⟨_,ho,rfl⟩,?_⟩)
 by_cases k1:k=1
 ·subst k1;exact call_meets PySem.F.slot_tuple_mul ⟨_,ho,rfl⟩ PySem.F.entry_tuple_mul (PySem.F.args_tuple_mul_2 _ _) (zL a its.toArray n dd sl t) ⟨ho,.ref a,H,I,rfl,q1 rfl⟩
 have hne: ¬(its.toArray.isEmpty||k==1)=true:=by rw[ne2];simpa using k1
 by_cases k0:k<=0
 ·have e0:k.toNat=0:=by omega
  refine call_meets PySem.F.slot_tuple_mul ⟨_,ho,rfl⟩ PySem.F.entry_tuple_mul (PySem.F.args_tuple_mul_2 _ _) (zM a its.toArray n dd sl k t hb hne (by simp[k0])) ⟨ho,?_⟩
  have q:=q2 k1;rw[e0]at q;exact⟨.ref _,_,I.laid (t':=s.toks) (o:= .tup []) (λb ob q=>get?_push_of_some _ q) (le_refl _) ⟨zero_le _,_,.nil,IsTup.new _ _⟩,rfl,q _ I.fresh⟩
 ·have ek:k=(k.toNat:Int):=by omega
  have em:(its.toArray.size:Int)*k=((its.toArray.size*k.toNat:Nat):Int):=by rw[Int.natCast_mul,<-ek]
  have hs:its.toArray.size*k.toNat<=sizeLine:=by rw[size_toArray,<-hl];exact hz
  have hcap:(sizeLine:Nat)<=(2^63-1)/8:=by decide
  refine call_meets PySem.F.slot_tuple_mul ⟨_,ho,rfl⟩ PySem.F.entry_tuple_mul (PySem.F.args_tuple_mul_2 _ _) (zN a its.toArray n dd sl k t hb hne (by rw[ne2];simp;omega) (by rw[em];omega) (by rw[em];unfold Builtin.Tuple.tupleTooMany;rw[decide_eq_true_eq];omega) (by rw[f0,size_toArray,rX,mul_comm];simpa using hs)) ⟨ho,?_⟩
  rw[f0];exact⟨.ref _,_,I.laid (t':=s.toks) (o:= .tup (replicate k.toNat xs).flatten) (λb ob q=>get?_push_of_some _ q) (le_refl _) ⟨by rw[rX,mul_comm];exact hz,_,r.rep k.toNat,IsTup.new _ _⟩,rfl,q2 k1 _ I.fresh⟩
end
end L2
end
section
namespace L2
open PySem PySem.Spec PyProof.Rows
def oQ (h:Heap)(a l:Addr)(i:Int):Prop:= ∃o,h.get? a=some o/\o.cls= .type "reversed"/\o.data= .fields #[.ref l,rawInt i]
theorem oQ.at {h h':Heap}{a l:Addr}{i:Int}(x:oQ h a l i)(e: ∀o,h.get? a=some o->h'.get? a=some o):oQ h' a l i:=let ⟨o,ho,r⟩:=x;⟨o,e _ ho,r⟩
section
variable {prog:Program}{w:World}{A:Around}{E:Value->Shared->Prop}{s:Shared}
theorem oQ.typeIs {a l:Addr}{i:Int}(x:oQ s.heap a l i):s.TypeIs (.ref a) "reversed":=let ⟨o,ho,hc,_⟩:=x;⟨o,ho,hc⟩
end
end L2
namespace M
open PySem PySem.Spec PyProof.Rows L2
section
variable {X:Cx}{A:AS}{H:Hp}{K:Frag}{pos:Pos}{a:Expr}
def uRevT (ta:UA):UI:=λρ Q=>ta ρ λds ρ1=>match ds with
 | [.tup l]=>Q l.length (λi=>l.getD (l.length-1-i) .non) ρ1
 | _=>False
def tJ (d e:D)(Q:B->Prop):Prop:=match d,e with
 | .tup l,.int k=>(l≠[]/\ -(2^63)<=k/\k<2^63/\l.length*k.toNat<=sizeLine)/\Q (.pu (.tup (replicate k.toNat l).flatten))
 | _,_=>False
theorem wG:OpU X (binaryOp .Mult) tJ:=by
 intro A H d e v w Q0 Q hA r1 r2 g k;unfold tJ at g;split at g
 ·rename_i l kk
  have:=b5 r2;subst this;simp only[Rep]at r1;obtain⟨a,vs,rfl,c1,rs1⟩:=r1;obtain⟨⟨h0,h1,h2,h3⟩,g⟩:=g;refine⟨_,a65,a,kk,vs,rfl,rfl,c1.imp And.right id,λz=>h0 ?_,h1,h2,by rw[<-rs1.length];exact h3,λz=> ?_,λz p n=>k _ _ _ g (bL n _) (cM hA n (rs1.rep _))⟩
  ·have:=rs1.length;rw[z]at this;exact List.length_eq_zero_iff.mp this
  ·subst z;refine k _ _ H g (.refl _) ?_;show Rep X.K A H (.tup _) (.ref a);simp only[Rep];exact⟨a,vs,rfl,c1,by simpa using rs1⟩
 ·exact g.elim
end
end M
end
section
namespace M
open PySem PySem.Spec PyProof.Rows L2
end M
end
section
namespace L2
open PySem PySem.Spec PyProof.Rows
end L2
namespace M
open PySem PySem.Spec PyProof.Rows L2
section
variable {X:Cx}
def gAny:List D->(B->Prop)->Prop:=g1 λd Q=>match d with
 | .lst l=>(match gL l with
  | some bs=>Q (.pu (.bl (bs.any id)))
  | none=>False)
 | _=>False
end
end M
end
section
namespace L2
open PySem PySem.Spec PyProof.Rows
end L2
namespace M
open PySem PySem.Spec PyProof.Rows L2
section
variable {X:Cx}{a:Expr}{pos:Pos}{ta:UE}
def gMaxL:List D->(B->Prop)->Prop:=g1 λd Q=>match d with
 | .lst l=>(match yZ l with
  | some ns=>0<ns.length/\ ∀m:Int,m∈ns->(∀a∈ns,a<=m)->Q (.pu (.int m))
  | none=>False)
 | _=>False
def D.isN:D->Bool
 | .non=>true
 | _=>false
def uIsN (neg:Bool)(t:UE):UE:=λρ Q=>t ρ λb ρ1=>Q (.pu (.bl (neg ^^ b.d.isN))) ρ1
end
end M
end
section
namespace M
open PySem PySem.Spec PyProof.Rows L2
mutual
def D.nl:D->Bool
 | .tup l=>D.nls l
 | .lst _=>false
 | .rol _=>false
 | .obj _ _ _=>false
 | .adr _=>false
 | .xob _ _ _ _=>false
 | .non=>true
 | .bl _=>true
 | .int _=>true
 | .str _=>true
 | .ty _=>true
def D.nls:List D->Bool
 | []=>true
 | d::l=>d.nl&&D.nls l
end
theorem tK: ∀r:List Int,D.nls (r.map D.int)=true
 | []=>by simp only[map_nil,D.nls]
 | a::r=>by simp only[map_cons,D.nls,D.nl,tK r,Bool.and_true]
section
variable {K:Frag}{A A':AS}{H H':Hp}
mutual
theorem Rep.nl (p: ∀a vs,¬A a->Rd H a (.tup vs)-> ¬A' a/\Rd H' a (.tup vs)): ∀{d:D} {v:V},d.nl=true->Rep K A H d v->Rep K A' H' d v
 | .non,_,_,h=>h
 | .bl _,_,_,h=>h
 | .int _,_,_,h=>h
 | .str _,_,_,h=>h
 | .ty _,_,_,h=>h
 | .tup l,v,q,h=>by
  simp only[Rep]at h⊢;obtain⟨a,vs,e,c,r⟩:=h;simp only[D.nl]at q;refine⟨a,vs,e,?_,aS.nl p q r⟩;rcases c with⟨n,c⟩|c
  ·exact .inl (p a vs n c)
  ·exact .inr c
 | .lst _,_,q,_=>by simp only[D.nl]at q;cases q
 | .rol _,_,q,_=>by simp only[D.nl]at q;cases q
 | .obj _ _ _,_,q,_=>by simp only[D.nl]at q;cases q
 | .adr _,_,q,_=>by simp only[D.nl]at q;cases q
 | .xob _ _ _ _,_,q,_=>by simp only[D.nl]at q;cases q
theorem aS.nl (p: ∀a vs,¬A a->Rd H a (.tup vs)-> ¬A' a/\Rd H' a (.tup vs)): ∀{l:List D} {vs:List V},D.nls l=true->aS K A H l vs->aS K A' H' l vs
 | [],_,_,h=>by simp only[aS]at h ⊢; exact h
 | d::ds,vs,q,h=>by
  simp only[aS]at h⊢;simp only[D.nls,and_eq_true]at q;obtain⟨v,vr,e,r,rs⟩:=h;exact⟨v,vr,e,Rep.nl p q.1 r,aS.nl p q.2 rs⟩
end
end
section
variable {X:Cx}{st:Stmt}{sts:List Stmt}{e o:Expr}{pos:Pos}{t u:US}{te to:UE}{K:Frag}{C:C0}{ρ ρ':Ev}{σ:L2.St}{H H':Hp}
def wH (t:UT):UT:=λρ Q=>t ρ λb _=>Q b ρ
theorem wI {t:UT}(h:PUT X e t):PUT X e (wH t):=vY h λσ H Q ⟨C,ρ,Q0,I,h,k⟩=>⟨C,ρ,_,I,h,λb ρ' H' q f s=>k b ρ H' q (.refl _) s⟩
def uLookE (t:UE):UE:=λρ Q=>t ρ λb _=>match b with
 | .pu d=>d.nl=true/\Q (.pu d) ρ
 | _=>False
def CZ:C0:=⟨λ_=>none,λ_=>False⟩
def jP:Option B->Option B
 | some (.pu d)=>if d.nl=true then some (.pu d)else none
 | some (.ow l)=>if D.nls l=true then some (.ow l)else none
 | _=>none
theorem zO {x:Option B}{d:D}(h:jP x=some (.pu d)):x=some (.pu d)/\d.nl=true:=by
 unfold jP at h;split at h
 ·split at h
  ·cases h;exact⟨rfl,by assumption⟩
  ·cases h
 ·split at h<;>cases h
 ·cases h
theorem mC {x:Option B}{l:List D}(h:jP x=some (.ow l)):x=some (.ow l)/\D.nls l=true:=by
 unfold jP at h;split at h
 ·split at h<;>cases h
 ·split at h
  ·cases h;exact⟨rfl,by assumption⟩
  ·cases h
 ·cases h
theorem zP {x:Option B}{l:List D}(h:jP x=some (.bo l)):False:=by
 unfold jP at h;split at h
 ·split at h<;>cases h
 ·split at h<;>cases h
 ·cases h
theorem iP {i:Nat}{b:B}(h:(ρ.map jP)[i]? =some (some b)): ∃x,ρ[i]? =some x/\jP x=some b:=by
 rw[getElem?_map]at h;cases e:ρ[i]? with
 | none=>rw[e]at h;cases h
 | some x=>rw[e]at h;exact⟨x,rfl,by simpa using h⟩
theorem zQ {a:Addr}(h:Av CZ (ρ.map jP) σ a):Av CZ ρ σ a:=by
 rcases h with z| ⟨i,l,h1,h2⟩
 ·exact .inl z
 ·obtain⟨x,g1,g2⟩:=iP h1;obtain⟨rfl,_⟩:=mC g2;exact .inr ⟨i,l,g1,h2⟩
theorem EOk.hit {a:Addr}{vs vs':List V}(I:EOk K CZ ρ σ H)(n: ¬Av CZ ρ σ a)(h:H a=some (.lst vs)):EOk K CZ (ρ.map jP) σ (upd H a (.lst vs')):=by
 have T: ∀b ws,¬Av CZ ρ σ b->Rd H b (.tup ws)-> ¬Av CZ (ρ.map jP) σ b/\Rd (upd H a (.lst vs')) b (.tup ws):=by
  intro b ws nb c;have ne:b≠a:=by
   rintro rfl;rcases c with c| ⟨o,c⟩
   ·rw[h]at c;cases c
   ·rw[h]at c;cases c
  refine⟨λz=>nb (zQ z),?_⟩
  unfold Rd;rw[bF ne];exact c
 refine⟨by rw[length_map];exact I.len,?_,?_,?_,?_,λb o z=>(by cases z),λb z=>z.elim⟩
 ·intro i d g;obtain⟨x,g1,g2⟩:=iP g;obtain⟨rfl,nl⟩:=zO g2;obtain⟨v,h1,h2⟩:=I.pu i d g1;exact⟨v,h1,Rep.nl T nl h2⟩
 ·intro i l g;obtain⟨x,g1,g2⟩:=iP g;obtain⟨rfl,nl⟩:=mC g2;obtain⟨b,ws,h1,h2,h3,h4⟩:=I.ow i l g1;have ne:b≠a:=by
   rintro rfl;exact n (.inr ⟨i,l,g1,h1⟩)
  exact⟨b,ws,h1,by rw[bF ne];exact h2,h3,aS.nl T nl h4⟩
 ·intro i j l l' b g1 g2 h1 h2;obtain⟨x,g3,g4⟩:=iP g1;obtain⟨rfl,_⟩:=mC g4;obtain⟨y,g5,g6⟩:=iP g2;obtain⟨rfl,_⟩:=mC g6;exact I.inj i j l l' b g3 g5 h1 h2
 ·intro i l g;obtain⟨x,g1,g2⟩:=iP g;exact(zP g2).elim
def uAppZ (to te:UE):US:=λD ρ=>to ρ λb ρ1=>match b with
 | .pu (.lst l)=>te ρ1 λ_ ρ2=>l.length<sizeLine/\D.nx (ρ2.map jP)
 | _=>False
end
def ltL:List Int->List Int->Bool
 | [],[]=>false
 | [],_::_=>true
 | _::_,[]=>false
 | a::x,b::y=>if a=b then ltL x y else decide (a<b)
section
variable {X:Cx}
def gSort2:List D->(B->Prop)->Prop:=g1 λd Q=> ∃(i j:Int) (us ws:List Int),d= .lst [.tup ((i::us).map D.int),.tup ((j::ws).map D.int)]/\
 Q (.ow (if ltL (j::ws) (i::us)=true then [.tup ((j::ws).map D.int),.tup ((i::us).map D.int)]else [.tup ((i::us).map D.int),.tup ((j::ws).map D.int)]))
end
section
variable {prog:Program}{w:World}{A:Around}{E:Value->Shared->Prop}{s:Shared}
def r8 (prog:Program)(w:World)(A:Around)(E:Value->Shared->Prop)(fin:Bool)(Q:Value->Shared->Prop):List (Value×Value)->Shared->Prop
 | [],s=>Q (.bool fin) s
 | (p,q)::r,s=>wpAny (model prog w) A (eqBool p q) (λe s'=>if e=true then r8 prog w A E fin Q r s' else wpAny (model prog w) A (richCompare .LtE p q) Q E s') E s
theorem r8.mono {fin:Bool}{Q Q':Value->Shared->Prop}(k: ∀v s,Q v s->Q' v s): ∀(l:List (Value×Value)) (s:Shared),r8 prog w A E fin Q l s->r8 prog w A E fin Q' l s
 | [],s,h=>k _ s h
 | (p,q)::r,s,h=>by
  have h':wpAny (model prog w) A (eqBool p q) (λe s'=>if e=true then r8 prog w A E fin Q r s' else wpAny (model prog w) A (richCompare .LtE p q) Q E s') E s:=h
  refine wpAny_mono h' (λe s' he=> ?_) λ_ _ z=>z
  cases e
  ·rw[if_neg (by decide)]at he⊢
   exact wpAny_mono he k λ_ _ z=>z
  ·rw[if_pos rfl]at he⊢;exact r8.mono k r s' he
end
end M
end
section
namespace L2
open PySem PySem.Spec PyProof.Rows
end L2
namespace M
open PySem PySem.Spec PyProof.Rows L2
end M
end
section
namespace L2
open PySem PySem.Spec PyProof.Rows
end L2
namespace M
open PySem PySem.Spec PyProof.Rows L2
end M
end
section
namespace L2
open PySem PySem.Spec PyProof.Rows
end L2
namespace M
open PySem PySem.Spec PyProof.Rows L2
end M
end
section
namespace M
open PySem PySem.Spec PyProof.Rows L2
end M
end
section
namespace M
open PySem PySem.Spec PyProof.Rows L2
abbrev GL:=List (Addr×List Int)
def GL.has (g:GL)(x:Addr):Prop:= ∃l,(x,l)∈g
def inH (H0:Hp)(g:GL)(x:Addr)(o:HO):Prop:=(∃l,(x,l)∈g/\o= .lst (l.map V.int))\/(¬g.has x/\H0 x=some o)
open Classical in
noncomputable def v7 (H0:Hp) (g:GL):Hp:=λx=>if h: ∃o,inH H0 g x o then some h.choose else none
structure GOk (g:GL)(H0:Hp):Prop where
 nd:(g.map Prod.fst).Nodup
 new: ∀x,g.has x->H0 x=none
theorem zR: ∀{g:GL},(g.map Prod.fst).Nodup-> ∀{x:Addr} {l l':List Int},(x,l)∈g->(x,l')∈g->l=l'
 | [],_,_,_,_,h,_=>by cases h
 | p::g,nd,x,l,l',h,h'=>by
  rw[map_cons,nodup_cons]at nd;rcases List.mem_cons.mp h with e|h1
  ·rcases List.mem_cons.mp h' with e'|h2
   ·rw[<-e]at e';cases e';rfl
   ·exact absurd (List.mem_map.mpr ⟨_,h2,rfl⟩) (by rw[<-e]at nd;exact nd.1)
  ·rcases List.mem_cons.mp h' with e'|h2
   ·exact absurd (List.mem_map.mpr ⟨_,h1,rfl⟩) (by rw[<-e']at nd;exact nd.1)
   ·exact zR nd.2 h1 h2
section
variable {K:Frag}{C C':C0}{ρ ρ':Ev}{σ σ':L2.St}{H H' H0:Hp}{g g':GL}{r:Nat}
theorem aQ (nd:(g.map Prod.fst).Nodup){x:Addr}{o:HO}:v7 H0 g x=some o↔inH H0 g x o:=by
 have uniq: ∀o o',inH H0 g x o->inH H0 g x o'->o=o':=λo o' h h'=>by
  rcases h with⟨l,m,rfl⟩| ⟨n,e⟩
  ·rcases h' with⟨l',m',rfl⟩| ⟨n',_⟩
   ·rw[zR nd m m']
   ·exact absurd ⟨l,m⟩ n'
  ·rcases h' with⟨l',m',_⟩| ⟨_,e'⟩
   ·exact absurd ⟨l',m'⟩ n
   ·rw[e]at e';cases e';rfl
 unfold v7;constructor
 ·intro h;split at h
  ·rename_i hx
   cases h;exact hx.choose_spec
  ·cases h
 ·intro h;rw[dif_pos ⟨o,h⟩,uniq _ _ (Exists.choose_spec (⟨o,h⟩: ∃o,inH H0 g x o)) h]
theorem bW (nd:(g.map Prod.fst).Nodup){x:Addr}(h:v7 H0 g x=none): ¬g.has x/\H0 x=none:=by
 have no: ∀o,¬inH H0 g x o:=λo q=>by rw[(aQ nd).mpr q]at h;cases h
 have n: ¬g.has x:=λ⟨l,m⟩=>no _ (.inl ⟨l,m,rfl⟩)
 refine⟨n,?_⟩
 cases e:H0 x with
 | none=>rfl
 | some o=>exact absurd (.inr ⟨n,e⟩) (no o)
noncomputable def C0.inn (C:C0) (g:GL):C0:=⟨v7 C.H0 g,λx=>C.A0 x\/g.has x⟩
def cV (l:List Int):D:= .lst (l.map .int)
def mD (g:GL):List D:=g.map λp=>cV p.2
def bE (g:GL):List D:=g.map λp=> .adr p.1
def v8 (ρ:Ev):Prop:= ∀(i:Nat) (l:List D),ρ[i]? ≠some (some (.bo l))
structure dE (K:Frag)(C:C0)(r:Nat)(g:GL)(ρ:Ev)(σ:L2.St)(H:Hp):Prop where
 sl:ρ[r]? =some (some (.ow (mD g)))
 gok:GOk g C.H0
 nb:v8 ρ
 a0: ∀a,C.A0 a->C.H0 a≠none
 ok:EOk K (C.inn g) (ρ.set r (some (.ow (bE g)))) σ H
def tL (K:Frag)(C:C0)(r:Nat)(ρ:Ev)(σ:L2.St)(H:Hp):Prop:= ∃g,dE K C r g ρ σ H
theorem dE.lt (I:dE K C r g ρ σ H):r<ρ.length:=(List.getElem?_eq_some_iff.mp I.sl).1
theorem dE.at_r (I:dE K C r g ρ σ H):(ρ.set r (some (.ow (bE g))))[r]? =some (some (.ow (bE g))):=aU I.lt
theorem gE: ∀{g:GL} {A:AS} {vs:List V},aS K A H (bE g) vs->vs=g.map λp=>V.ref p.1
 | [],_,_,h=>h.unnil
 | p::g,A,vs,h=>by
  obtain⟨v,vr,rfl,rv,rr⟩:=aS.uncons (l:=bE g) h;have:v= .ref p.1:=by simpa only[Rep]using rv
  rw[this,gE rr];rfl
theorem gA {A:AS}: ∀g:GL,aS K A H (bE g) (g.map λp=>V.ref p.1)
 | []=> .nil
 | p::g=> .cons (d:= .adr p.1) (by simp only[Rep]) (gA g)
theorem oR {A:AS}: ∀l:List Int,aS K A H (l.map D.int) (l.map V.int)
 | []=> .nil
 | i::l=> .cons (by simp only[Rep]) (oR l)
theorem iD {A:AS}: ∀{l:List Int} {vs:List V},aS K A H (l.map D.int) vs->vs=l.map V.int
 | [],_,h=>h.unnil
 | i::l,vs,h=>by
  obtain⟨v,vr,rfl,rv,rr⟩:=h.uncons;rw[b5 rv,iD rr];rfl
theorem dE.inner (I:dE K C r g ρ σ H){x:Addr}{l:List Int}(h:(x,l)∈g):H x=some (.lst (l.map V.int)):=I.ok.ext x _ ((aQ I.gok.nd).mpr (.inl ⟨l,h,rfl⟩))
theorem dE.own (I:dE K C r g ρ σ H){a:Addr}(h:Own ρ σ a):Own (ρ.set r (some (.ow (bE g)))) σ a:=by
 obtain⟨i,l,h1,h2⟩:=h
 by_cases e:r=i
 ·subst e;exact⟨r,_,I.at_r,h2⟩
 ·exact⟨i,l,by rw[get_set_ne e];exact h1,h2⟩
theorem dE.notOwn (I:dE K C r g ρ σ H){a:Addr}(h:g.has a): ¬Own (ρ.set r (some (.ow (bE g)))) σ a:=by
 rintro⟨i,l,h1,h2⟩;obtain⟨a',vs,h3,h4,h5,_⟩:=I.ok.ow i l h1;rw[h2]at h3;cases h3;exact(bW I.gok.nd h5).1 h
theorem dE.av (I:dE K C r g ρ σ H){a:Addr}(h:Av C ρ σ a):Av (C.inn g) (ρ.set r (some (.ow (bE g)))) σ a:=h.imp .inl I.own
theorem dE.free (I:dE K C r g ρ σ H){a:Addr}(h:g.has a): ¬Av C ρ σ a:=by
 rintro(z|z)
 ·exact I.a0 a z (I.gok.new a h)
 ·exact I.notOwn h (I.own z)
theorem r9 (I:dE K C r g ρ σ H): ∀{g':GL},(∀p∈g',p∈g)->aS K (Av C ρ σ) H (mD g') (g'.map λp=>V.ref p.1)
 | [],_=> .nil
 | p::g',h=>by
  refine .cons (d:=cV p.2) ?_ (r9 I λq hq=>h q (mem_cons_of_mem _ hq))
  have hp:=h p (mem_cons_self ..);unfold cV;simp only[Rep];exact⟨p.1,p.2.map V.int,rfl,I.free ⟨p.2,hp⟩,I.inner hp,oR _⟩
theorem dE.out (I:dE K C r g ρ σ H):EOk K C ρ σ H:=by
 have sub: ∀a,Av C ρ σ a->Av (C.inn g) (ρ.set r (some (.ow (bE g)))) σ a:=λa z=>I.av z
 refine⟨by have:=I.ok.len;rw[length_set]at this;exact this,λi d h=> ?_,λi l h=> ?_,λi j l l' a h1 h2 h3 h4=> ?_,λi l h=>absurd h (I.nb i l),λb o e=> ?_,I.a0⟩
 ·have e:r≠i:=λz=>by subst z;rw[I.sl]at h;cases h
  obtain⟨v,h1,h2⟩:=I.ok.pu i d (by rw[get_set_ne e];exact h)
  exact⟨v,h1,h2.mono (.sub (.refl _) sub)⟩
 ·by_cases e:r=i
  ·subst e;rw[I.sl]at h;cases h;obtain⟨a,vs,h1,h2,h3,h4⟩:=I.ok.ow r _ I.at_r;have ev:=gE h4;subst ev;exact⟨a,_,h1,h2,(bW I.gok.nd h3).2,r9 I λ_ h=>h⟩
  ·obtain⟨a,vs,h1,h2,h3,h4⟩:=I.ok.ow i l (by rw[get_set_ne e];exact h)
   exact⟨a,vs,h1,h2,(bW I.gok.nd h3).2,h4.mono (.sub (.refl _) sub)⟩
 ·have up: ∀{i:Nat} {l:List D},ρ[i]? =some (some (.ow l))-> ∃l2,(ρ.set r (some (.ow (bE g))))[i]? =some (some (.ow l2)):=λ{i l} h=>by
   by_cases e:r=i
   ·subst e;exact⟨_,I.at_r⟩
   ·exact⟨l,by rw[get_set_ne e];exact h⟩
  obtain⟨_,q1⟩:=up h1;obtain⟨_,q2⟩:=up h2;exact I.ok.inj i j _ _ a q1 q2 h3 h4
 ·refine I.ok.ext b o ((aQ I.gok.nd).mpr (.inr ⟨λz=> ?_,e⟩))
  rw[I.gok.new b z]at e;cases e
theorem dE.same (I:dE K C r g ρ σ H)(s:cF H H'):dE K C r g ρ σ H':=⟨I.sl,I.gok,I.nb,I.a0,I.ok.same s⟩
theorem a66:C.inn []=C:=by
 obtain⟨H0,A0⟩:=C;have e1:v7 H0 []=H0:=by
  funext x
  cases e:H0 x with
  | none=>
   cases e2:v7 H0 [] x with
   | none=>rfl
   | some o=>
    rcases(aQ (g:=[]) nodup_nil).mp e2 with⟨l,m,_⟩| ⟨_,h⟩
    ·cases m
    ·rw[e]at h;cases h
  | some o=>exact(aQ (g:=[]) nodup_nil).mpr (.inr ⟨λ⟨l,m⟩=>(by cases m),e⟩)
 have e2:(λx=>A0 x\/GL.has [] x)=A0:=by
  funext x
  exact propext ⟨λh=>h.elim id λ⟨l,m⟩=>(by cases m),.inl⟩
 show C0.mk (v7 H0 []) (λx=>A0 x\/GL.has [] x)=⟨H0,A0⟩
 rw[e1,e2]
theorem GOk.nil {H0:Hp}:GOk [] H0:=⟨nodup_nil,λx ⟨l,m⟩=>by cases m⟩
theorem EOk.addG {a:Addr}{l:List Int}(I:EOk K (C.inn g) ρ σ H)(ok:GOk g C.H0)(s:cF H H')(n:H a=none)(e:H' a=some (.lst (l.map V.int))) :
  EOk K (C.inn (g++[(a,l)])) ρ σ H'/\GOk (g++[(a,l)]) C.H0:=by
 have hi: ∀{x:Addr} {o:HO},(C.inn g).H0 x=some o->H x=some o:=λ{x o} h=>I.ext x o h
 have na: ¬g.has a:=λ⟨l',m⟩=>by
  have:=hi ((aQ ok.nd).mpr (.inl ⟨l',m,rfl⟩));rw[n]at this;cases this
 have n0:C.H0 a=none:=by
  cases q:C.H0 a with
  | none=>rfl
  | some o=>
   have:=hi ((aQ ok.nd).mpr (.inr ⟨na,q⟩));rw[n]at this;cases this
 have has': ∀x,GL.has (g++[(a,l)]) x↔g.has x\/x=a:=λx=>by
  constructor
  ·rintro⟨l',m⟩;rcases List.mem_append.mp m with m|m
   ·exact .inl ⟨l',m⟩
   ·cases List.mem_singleton.mp m;exact .inr rfl
  ·rintro(⟨l',m⟩|rfl)
   ·exact⟨l',mem_append_left _ m⟩
   ·exact⟨l,mem_append_right _ (List.mem_singleton.mpr rfl)⟩
 have ok':GOk (g++[(a,l)]) C.H0:=by
  refine⟨?_,λx h=> ?_⟩
  ·rw[map_append,List.nodup_append];refine⟨ok.nd,by simp,λx hx y hy=> ?_⟩
   have:y=a:=by simpa using hy
   subst this;intro z;subst z;obtain⟨p,hp,rfl⟩:=List.mem_map.mp hx;exact na ⟨p.2,hp⟩
  ·rcases(has' x).mp h with h|rfl
   ·exact ok.new x h
   ·exact n0
 have up: ∀{x:Addr} {o:HO},inH C.H0 g x o->H x=some o->inH C.H0 (g++[(a,l)]) x o:=λ{x o} h hx=>by
  rcases h with⟨l',m,rfl⟩| ⟨nh,q⟩
  ·exact .inl ⟨l',mem_append_left _ m,rfl⟩
  ·exact .inr ⟨λz=>((has' x).mp z).elim nh λz=>(by subst z;rw[n]at hx;cases hx),q⟩
 have P:e6 (Av (C.inn g) ρ σ) H (Av (C.inn (g++[(a,l)])) ρ σ) H':=λb o nb q=>⟨by
  rintro((z|z)|z)
  ·exact nb (.inl (.inl z))
  ·rcases(has' b).mp z with z|rfl
   ·exact nb (.inl (.inr z))
   ·rw[n]at q;cases q
  ·exact nb (.inr z),s b o q⟩
 refine⟨⟨I.len,λi d h=> ?_,λi m h=> ?_,I.inj,λi m h=> ?_,λb o q=> ?_,λb h=> ?_⟩,ok'⟩
 ·obtain⟨v,h1,h2⟩:=I.pu i d h;exact⟨v,h1,h2.mono P⟩
 ·obtain⟨b,vs,h1,h2,h3,h4⟩:=I.ow i m h;refine⟨b,vs,h1,s _ _ h2,?_,h4.mono P⟩;cases q:(C.inn (g++[(a,l)])).H0 b with
  | none=>rfl
  | some o=>
   obtain⟨nh,h0⟩:=bW ok.nd h3;rcases(aQ ok'.nd).mp q with⟨l',mm,_⟩| ⟨_,q'⟩
   ·rcases(has' b).mp ⟨l',mm⟩with z|rfl
    ·exact absurd z nh
    ·rw[n]at h2;cases h2
   ·rw[h0]at q';cases q'
 ·obtain⟨b,vs,h1,h2,h3,h4⟩:=I.bo i m h;exact⟨b,vs,h1,h2.imp id λz=>(has' b).mpr (.inl z),(aQ ok'.nd).mpr (up ((aQ ok.nd).mp h3) (hi h3)),h4.mono P⟩
 ·rcases(aQ ok'.nd).mp q with⟨l',m,rfl⟩| ⟨nh,q'⟩
  ·rcases List.mem_append.mp m with m|m
   ·exact s _ _ (hi ((aQ ok.nd).mpr (.inl ⟨l',m,rfl⟩)))
   ·cases List.mem_singleton.mp m;exact e
  ·exact s _ _ (hi ((aQ ok.nd).mpr (.inr ⟨λz=>nh ((has' b).mpr (.inl z)),q'⟩)))
 ·intro z;obtain⟨nh,h0⟩:=bW ok'.nd z;rcases h with h|h
  ·cases q:(C.inn g).H0 b with
   | none=>exact I.a0 b (.inl h) q
   | some o=>
    rcases(aQ ok.nd).mp q with⟨l',m,_⟩| ⟨_,q'⟩
    ·exact nh ((has' b).mpr (.inl ⟨l',m⟩))
    ·rw[h0]at q';cases q'
  ·exact nh h
theorem EOk.enter {Dn:Addr}(I:EOk K C ρ σ H)(s:cF H H')(nD:H Dn=none)(eD:H' Dn=some (.lst (g.map λp=>V.ref p.1)))(ok:GOk g H)(hD: ¬g.has Dn)(hg: ∀x l,(x,l)∈g->H' x=some (.lst (l.map V.int)))(nb:v8 ρ)(hr:r<ρ.length) :
  dE K C r g (ρ.set r (some (.ow (mD g)))) (σ.set r (some (.ref Dn))) H':=by
 have hr':r<σ.length:=by rw[<-I.len];exact hr
 have n0: ∀{x:Addr},H x=none->C.H0 x=none:=λ{x} h=>by
  cases q:C.H0 x with
  | none=>rfl
  | some o=>rw[I.ext x o q]at h;cases h
 have ok':GOk g C.H0:=⟨ok.nd,λx h=>n0 (ok.new x h)⟩
 have setset:(ρ.set r (some (.ow (mD g)))).set r (some (.ow (bE g)))=ρ.set r (some (.ow (bE g))):=set_set ..;have sub: ∀a,Own (ρ.set r (some (.ow (bE g)))) (σ.set r (some (.ref Dn))) a->Own ρ σ a\/a=Dn:=by
  rintro a ⟨j,l,h1,h2⟩;rcases aI h1 with⟨rfl,h3,_⟩| ⟨ne,h3⟩
  ·rw[aU hr']at h2;cases h2;exact .inr rfl
  ·rw[get_set_ne ne]at h2;exact .inl ⟨j,l,h3,h2⟩
 have P:e6 (Av C ρ σ) H (Av (C.inn g) (ρ.set r (some (.ow (bE g)))) (σ.set r (some (.ref Dn)))) H':=λb o nb q=>⟨(by
  rintro((z|z)|z)
  ·exact nb (.inl z)
  ·rw[ok.new b z]at q;cases q
  ·rcases sub b z with z|rfl
   ·exact nb (.inr z)
   ·rw[nD]at q;cases q),s b o q⟩
 refine⟨aU hr,ok',λi l h=> ?_,I.a0,?_⟩
 ·rcases aI h with⟨rfl,h3,_⟩| ⟨ne,h3⟩
  ·cases h3
  ·exact nb i l h3
 rw[setset];refine⟨by rw[length_set,length_set];exact I.len,λi d h=> ?_,λi m h=> ?_,λj k l l' a h1 h2 h3 h4=> ?_,λi m h=> ?_,λb o q=> ?_,λb h z=> ?_⟩
 ·rcases aI h with⟨rfl,h3,_⟩| ⟨ne,h3⟩
  ·cases h3
  ·obtain⟨v,h1,h2⟩:=I.pu i d h3;exact⟨v,by rw[get_set_ne ne];exact h1,h2.mono P⟩
 ·have no: ∀{b:Addr},H b≠none\/b=Dn->C.H0 b=none->(C.inn g).H0 b=none:=λ{b} hb h0=>by
   cases q:(C.inn g).H0 b with
   | none=>rfl
   | some o=>
    rcases(aQ ok.nd).mp q with⟨l',mm,_⟩| ⟨_,q'⟩
    ·rcases hb with hb|rfl
     ·exact absurd (ok.new b ⟨l',mm⟩) hb
     ·exact absurd ⟨l',mm⟩ hD
    ·rw[h0]at q';cases q'
  rcases aI h with⟨rfl,h3,_⟩| ⟨ne,h3⟩
  ·cases h3;exact⟨Dn,_,aU hr',eD,no (.inr rfl) (n0 nD),gA g⟩
  ·obtain⟨b,vs,h1,h2,h3',h4⟩:=I.ow i m h3;exact⟨b,vs,by rw[get_set_ne ne];exact h1,s _ _ h2,no (.inl (by rw[h2];simp)) h3',h4.mono P⟩
 ·have old: ∀{j:Nat} {l:List D},ρ[j]? =some (some (.ow l))->σ[j]? ≠some (some (.ref Dn)):=λ{j l} h z=>by
   obtain⟨b,vs,h4,h5,_⟩:=I.ow j l h;rw[z]at h4;cases h4;rw[nD]at h5;cases h5
  rcases aI h1 with⟨rfl,z,_⟩| ⟨ne,z⟩
  ·rw[aU hr']at h3;cases h3;rcases aI h2 with⟨rfl,z',_⟩| ⟨ne',z'⟩
   ·rfl
   ·rw[get_set_ne ne']at h4;exact absurd h4 (old z')
  ·rw[get_set_ne ne]at h3;rcases aI h2 with⟨rfl,z',_⟩| ⟨ne',z'⟩
   ·rw[aU hr']at h4;cases h4;exact absurd h3 (old z)
   ·rw[get_set_ne ne']at h4;exact I.inj j k l l' a z z' h3 h4
 ·rcases aI h with⟨rfl,h3,_⟩| ⟨ne,h3⟩
  ·cases h3
  ·exact absurd h3 (nb i m)
 ·rcases(aQ ok.nd).mp q with⟨l',m,rfl⟩| ⟨_,q'⟩
  ·exact hg b l' m
  ·exact s b o (I.ext b o q')
 ·obtain⟨nh,h0⟩:=bW ok.nd z;rcases h with h|h
  ·exact I.a0 b h h0
  ·exact nh h
end
section
variable {X:Cx}{K:Frag}{C C':C0}{ρ ρ':Ev}{σ σ':L2.St}{H H' H0:Hp}{g g':GL}{r:Nat}{st:Stmt}{sts:List Stmt}{e:Expr}{pos:Pos}{t u:US}{te ti:UE}{tc:UT}
structure DOkN (K:Frag)(C:C0)(r:Nat)(D0:UD)(D:uD):Prop where
 nx: ∀ρ σ H,D0.nx ρ->tL K C r ρ σ H->D.nx σ H
 rt: ∀b v H,D0.rt b->cF C.H0 H->iB K C.A0 C.H0 H b v->D.rt v H
def lN (K:Frag)(r:Nat)(t:US):TS:=λD σ H=> ∃C ρ D0,tL K C r ρ σ H/\t D0 ρ/\DOkN K C r D0 D
def PUN (X:Cx)(r:Nat)(st:Stmt)(t:US):Prop:=PS X st (lN X.K r t)
def v9 (X:Cx)(r:Nat)(sts:List Stmt)(t:US):Prop:=PSs X sts (lN X.K r t)
theorem un_nil:v9 X r [] fW:=mY vP λD σ H ⟨C,ρ,D0,I,h,k⟩=>k.nx ρ σ H h I
theorem sF (h1:PUN X r st t)(h2:v9 X r sts u):v9 X r (st::sts) (aT t u):=
 mY (lY h1 h2) λD σ H ⟨C,ρ,D0,I,h,k⟩=>⟨C,ρ,{D0 with nx:=u D0},I,h,⟨λρ' σ' H' q I'=>⟨C,ρ',D0,I',q,k⟩,k.rt⟩⟩
theorem zS (h1:PUN X r st t):v9 X r [st] t:=vQ h1
theorem a67 (h1:PUN X r st t)(h2:eT X sts u):PSs X (st::sts) (λD σ H=> ∃C ρ D0,tL X.K C r ρ σ H/\aT t u D0 ρ/\DOk X.K C D0 D):=
 mY (lY h1 h2) λD σ H ⟨C,ρ,D0,I,h,k⟩=>⟨C,ρ,{D0 with nx:=u D0},I,h,⟨λρ' σ' H' q ⟨g,I'⟩=>⟨C,ρ',D0,I'.out,q,k⟩,k.rt⟩⟩
def lEnt (K:Frag)(r:Nat)(t:US):TS:=λD σ H=> ∃C ρ D0,EOk K C ρ σ H/\t D0 ρ/\ ∀ρ' σ' H',D0.nx ρ'->tL K C r ρ' σ' H'->D.nx σ' H'
theorem zT (h1:PS X st (lEnt X.K r t))(h2:PSs X sts (λD σ H=> ∃C ρ D0,tL X.K C r ρ σ H/\u D0 ρ/\DOk X.K C D0 D)):eT X (st::sts) (aT t u):=
 mY (lY h1 h2) λD σ H ⟨C,ρ,D0,I,h,k⟩=>⟨C,ρ,{D0 with nx:=u D0},I,h,λρ' σ' H' q I'=>⟨C,ρ',D0,I',q,k⟩⟩
def a68 (c:UT)(t u:US):US:=λD ρ=>c ρ λb _=>if b=true then t D ρ else u D ρ
theorem un_if {c:Expr}{a b:List Stmt}(hc:PUT X c tc)(ha:v9 X r a t)(hb:v9 X r b u):PUN X r (.If c a b pos) (a68 tc t u):=
 hG (a85 hc ha hb) λD σ H ⟨C,ρ,D0,⟨g,I⟩,h,k⟩=>⟨C,ρ,_,I.out,h,λc ρ1 H1 q f s=>by
  have I1:tL X.K C r ρ σ H1:=⟨g,I.same s⟩;cases c with
  | true=>
   dsimp only at q⊢;rw[if_pos rfl]at q⊢;exact⟨C,ρ,D0,I1,q,k⟩
  | false=>
   dsimp only at q⊢;rw[if_neg Bool.false_ne_true]at q⊢;exact⟨C,ρ,D0,I1,q,k⟩⟩
def rA (r i:Nat)(te:UE):US:=λD ρ=>i≠r/\te ρ λb _=>match b with
 | .pu d=>d.nl=true/\D.nx (ρ.set i (some (.pu d)))
 | _=>False
theorem dE.setPu {d:D}{v:V}{i:Nat}(I:dE K C r g ρ σ H)(hd:d.nl=true)(rv:Rep K (Av C ρ σ) H d v)(hi:i<σ.length)(ne:i≠r):dE K C r g (ρ.set i (some (.pu d))) (σ.set i (some v)) H:=by
 have hir:i<ρ.length:=by
  have:=I.ok.len;rw[length_set]at this;rw[this];exact hi
 have rv':Rep K (Av (C.inn g) (ρ.set r (some (.ow (bE g)))) σ) H d v:=by
  refine Rep.nl (λa vs n c=>⟨?_,c⟩) hd rv
  rintro((z| ⟨l,m⟩)| ⟨j,l,h1,h2⟩)
  ·exact n (.inl z)
  ·have:=I.inner m;rcases c with c| ⟨o,c⟩<;>(rw[this]at c;cases c)
  ·obtain⟨b,ws,g1,g2,_⟩:=I.ok.ow j l h1;rw[h2]at g1;cases g1;rcases c with c| ⟨o,c⟩<;>(rw[g2]at c;cases c)
 refine⟨by rw[get_set_ne ne];exact I.sl,I.gok,λj l h=> ?_,I.a0,?_⟩
 ·rcases aI h with⟨rfl,h3,_⟩| ⟨_,h3⟩
  ·cases h3
  ·exact I.nb j l h3
 ·have:=I.ok.store (b:= .pu d) (i:=i) (.refl _) (show iB K _ H H (.pu d) v from rv') hi
  rw[set_comm _ _ ne.symm]at this;exact this
theorem zU {x:Str}{pos':Pos}(i:Nat)(hN:X.N.Nodup)(hi:X.N[i]? =some x)(hx:Loc X.env.scope x)(he:PU X e te)(hs:swapsWith e (some (.Name x pos')) pos.line X.env=pure false:=by rfl)
  (hf:X.fn x=true\/X.env.scope.names.lookup x=some .local:=by first|exact .inl rfl|exact .inr rfl|assumption) (hl: ∀pins σ H s,Inv X pins σ H s->i<σ.length:=by intro pins σ H s I;rw[I.len];decide) :
  PUN X r (.Assign [.Name x pos'] e pos) (rA r i te):=by
 intro pins s σ H D J q;refine y3 hN hi hx he hs hf pins s σ H D J ?_;obtain⟨C,ρ,D0,⟨g,I⟩,⟨ne,h⟩,k⟩:=q;refine⟨C,ρ,_,I.out,h,λb ρ1 v H1 q f s1 rr=> ?_⟩
 cases b with
 | pu d=>
  have I1:=I.same s1;have rv:Rep X.K (Av C ρ σ) H1 d v:=by
   refine Rep.nl (λa vs n c=>⟨?_,c⟩) q.1 (show Rep _ _ _ d v from rr)
   rintro(z| ⟨j,l,h1,h2⟩)
   ·exact n (.inl z)
   ·obtain⟨b,ws,g1,g2,_⟩:=I1.out.ow j l h1;rw[h2]at g1;cases g1;rcases c with c| ⟨o,c⟩<;>(rw[g2]at c;cases c)
  exact k.nx _ _ _ q.2 ⟨g,I1.setPu q.1 rv (hl pins σ H s J) ne⟩
 | ow l=>exact q.elim
 | bo l=>exact q.elim
end
end M
end
section
namespace M
open PySem PySem.Spec PyProof.Rows L2
section
variable {X:Cx}{K:Frag}{C C':C0}{ρ ρ':Ev}{σ σ':L2.St}{H H' H0:Hp}{g g':GL}{r:Nat}{st:Stmt}{sts:List Stmt}{e:Expr}{pos:Pos}{t u:US}{te ti tj:UE}{tc:UT}
theorem EOk.subG {g2:GL}(I:EOk K (C.inn g) ρ σ H)(ok:GOk g C.H0)(nb:v8 ρ)(a0: ∀a,C.A0 a->C.H0 a≠none)(nd:(g2.map Prod.fst).Nodup)(sub: ∀p∈g2,p∈g):EOk K (C.inn g2) ρ σ H/\GOk g2 C.H0:=by
 have hs: ∀{x:Addr},GL.has g2 x->g.has x:=λ⟨l,m⟩=>⟨l,sub _ m⟩
 have ok2:GOk g2 C.H0:=⟨nd,λx h=>ok.new x (hs h)⟩
 have sa: ∀a,Av (C.inn g2) ρ σ a->Av (C.inn g) ρ σ a:=λa z=>z.imp (λz=>z.imp id hs) id
 refine⟨⟨I.len,λi d h=> ?_,λi l h=> ?_,I.inj,λi l h=>absurd h (nb i l),λb o q=> ?_,λa h=> ?_⟩,ok2⟩
 ·obtain⟨v,h1,h2⟩:=I.pu i d h;exact⟨v,h1,h2.mono (.sub (.refl _) sa)⟩
 ·obtain⟨a,vs,h1,h2,h3,h4⟩:=I.ow i l h;refine⟨a,vs,h1,h2,?_,h4.mono (.sub (.refl _) sa)⟩;obtain⟨nh,h0⟩:=bW ok.nd h3;cases q:(C.inn g2).H0 a with
  | none=>rfl
  | some o=>
   rcases(aQ nd).mp q with⟨l',m,_⟩| ⟨_,q'⟩
   ·exact absurd (hs ⟨l',m⟩) nh
   ·rw[h0]at q';cases q'
 ·rcases(aQ nd).mp q with⟨l',m,rfl⟩| ⟨_,q'⟩
  ·exact I.ext _ _ ((aQ ok.nd).mpr (.inl ⟨l',sub _ m,rfl⟩))
  ·exact I.ext _ _ ((aQ ok.nd).mpr (.inr ⟨λz=>(by rw[ok.new b z]at q';cases q'),q'⟩))
 ·intro z;obtain⟨nh,h0⟩:=bW nd z;exact h.elim (λh=>a0 a h h0) nh
theorem iQ {l:List D}(nb:v8 ρ):v8 (ρ.set r (some (.ow l))):=λi m h=>by
 rcases aI h with⟨rfl,h3,_⟩| ⟨_,h3⟩
 ·cases h3
 ·exact nb i m h3
theorem tM {n:Nat}{p:Addr×List Int}:(g.set n p).map (λq=>V.ref q.1)=(g.map λq=>V.ref q.1).set n (.ref p.1):=by rw[map_set]
theorem rB {a:Addr}{l:List Int}: ∀{g:GL},(g.map Prod.fst).Nodup-> ¬g.has a-> ∀n,((g.set n (a,l)).map Prod.fst).Nodup
 | [],h,_,_=>h
 | p::g,h,na,0=>by
  rw[map_cons,nodup_cons]at h;show((a::g.map Prod.fst)).Nodup;refine List.nodup_cons.mpr ⟨λz=> ?_,h.2⟩
  obtain⟨q,hq,e⟩:=List.mem_map.mp z;exact na ⟨q.2,mem_cons_of_mem _ (by rw[<-e];exact hq)⟩
 | p::g,h,na,n+1=>by
  rw[map_cons,nodup_cons]at h;show((p.1::(g.set n (a,l)).map Prod.fst)).Nodup;refine List.nodup_cons.mpr ⟨λz=> ?_,rB h.2 (λ⟨l',m⟩=>na ⟨l',mem_cons_of_mem _ m⟩) n⟩
  obtain⟨q,hq,e⟩:=List.mem_map.mp z;rcases List.mem_or_eq_of_mem_set hq with hq|rfl
  ·exact h.1 (List.mem_map.mpr ⟨q,hq,e⟩)
  ·exact na ⟨p.2,by rw[show(a,p.2)=p by rw[show a=p.1 from e]];exact mem_cons_self ..⟩
theorem dE.setRow {H2:Hp}{a Dn:Addr}{l:List Int}{n:Nat}(I:dE K C r g ρ σ H)(s:cF H H2)(n0:H a=none)(ea:H2 a=some (.lst (l.map V.int)))(hs:σ[r]? =some (some (.ref Dn))) :
  dE K C r (g.set n (a,l)) (ρ.set r (some (.ow (mD (g.set n (a,l)))))) σ (upd H2 Dn (.lst ((g.map λq=>V.ref q.1).set n (.ref a)))):=by
 obtain⟨I1,ok1⟩:=I.ok.addG I.gok s n0 ea;have na: ¬g.has a:=λ⟨l',m⟩=>by rw[I.inner m]at n0;cases n0
 obtain⟨I2,ok2⟩:=I1.subG ok1 (iQ I.nb) I.a0 (rB (l:=l) I.gok.nd na n) (λp hp=>by
  rcases List.mem_or_eq_of_mem_set hp with hp|rfl
  ·exact mem_append_left _ hp
  ·exact mem_append_right _ (List.mem_singleton.mpr rfl))
 have I3:=I2.write I.at_r hs (gA (K:=K) (H:=H2) (A:=Av (C.inn (g.set n (a,l))) (ρ.set r (some (.ow (bE g)))) σ) (g.set n (a,l)));rw[tM,set_set]at I3;exact⟨aU I.lt,ok2,iQ I.nb,I.a0,by rw[set_set];exact I3⟩
theorem oA {n:Nat}{b:Addr}{l l':List Int}(h:g[n]? =some (b,l))(x:Addr):GL.has (g.set n (b,l')) x↔g.has x:=by
 have hn:=(List.getElem?_eq_some_iff.mp h).1;constructor
 ·rintro⟨m,hm⟩;rcases List.mem_or_eq_of_mem_set hm with hm|e
  ·exact⟨m,hm⟩
  ·cases e;exact⟨l,mem_of_getElem? h⟩
 ·rintro⟨m,hm⟩;obtain⟨i,hi⟩:=List.getElem?_of_mem hm
  by_cases e:n=i
  ·subst e;rw[h]at hi;cases hi;exact⟨l',mem_of_getElem? (aU hn)⟩
  ·exact⟨m,mem_of_getElem? (i:=i) (by rw[get_set_ne e];exact hi)⟩
theorem wJ {n:Nat}{b:Addr}{l l':List Int}(h:g[n]? =some (b,l)):(g.set n (b,l')).map Prod.fst=g.map Prod.fst:=by
 rw[map_set];apply ext_getElem?;intro i
 by_cases e:n=i
 ·subst e;rw[aU (by rw[length_map];exact(List.getElem?_eq_some_iff.mp h).1),getElem?_map,h]
  rfl
 ·rw[get_set_ne e]
theorem dE.setCell {b:Addr}{l l':List Int}{n:Nat}(I:dE K C r g ρ σ H)(hb:g[n]? =some (b,l)) :
  dE K C r (g.set n (b,l')) (ρ.set r (some (.ow (mD (g.set n (b,l')))))) σ (upd H b (.lst (l'.map V.int))):=by
 have hn:=(List.getElem?_eq_some_iff.mp hb).1;have hm:(b,l)∈g:=mem_of_getElem? hb;have nd2:((g.set n (b,l')).map Prod.fst).Nodup:=by rw[wJ hb];exact I.gok.nd
 have ok2:GOk (g.set n (b,l')) C.H0:=⟨nd2,λx h=>I.gok.new x ((oA hb x).mp h)⟩
 have ea:bE (g.set n (b,l'))=bE g:=by
  have:=congrArg (List.map D.adr) (wJ (l':=l') hb);rw[map_map,map_map]at this;exact this
 have J:=I.ok;have P:e6 (Av (C.inn g) (ρ.set r (some (.ow (bE g)))) σ) H (Av (C.inn (g.set n (b,l'))) (ρ.set r (some (.ow (bE g)))) σ) (upd H b (.lst (l'.map V.int))):=λx o nx q=>
  ⟨λz=>nx (z.imp (λz=>z.imp id (oA hb x).mp) id),by rw[bF (λz=>nx (.inl (.inr ⟨l,by rw[z];exact hm⟩)))];exact q⟩
 refine⟨aU I.lt,ok2,iQ I.nb,I.a0,?_⟩
 rw[set_set,ea];refine⟨J.len,λi d h=> ?_,λi m h=> ?_,J.inj,λi m h=>absurd h (iQ I.nb i m),λx o q=> ?_,λx h=> ?_⟩
 ·obtain⟨v,h1,h2⟩:=J.pu i d h;exact⟨v,h1,h2.mono P⟩
 ·obtain⟨a,vs,h1,h2,h3,h4⟩:=J.ow i m h;obtain⟨nh,h0⟩:=bW I.gok.nd h3;refine⟨a,vs,h1,?_,?_,h4.mono P⟩
  ·rw[bF (λz=>nh ⟨l,by rw[z];exact hm⟩)];exact h2
  ·cases q:(C.inn (g.set n (b,l'))).H0 a with
   | none=>rfl
   | some o=>
    rcases(aQ nd2).mp q with⟨l2,mm,_⟩| ⟨_,q'⟩
    ·exact absurd ((oA hb a).mp ⟨l2,mm⟩) nh
    ·rw[h0]at q';cases q'
 ·have hb2:(b,l')∈g.set n (b,l'):=mem_of_getElem? (aU hn)
  by_cases e:x=b
  ·subst e;rcases(aQ nd2).mp q with⟨l2,mm,rfl⟩| ⟨nh,_⟩
   ·rw[zR nd2 mm hb2,fM]
   ·exact absurd ⟨l',hb2⟩ nh
  ·rw[bF e];rcases(aQ nd2).mp q with⟨l2,mm,rfl⟩| ⟨nh,q'⟩
   ·rcases List.mem_or_eq_of_mem_set mm with mm|z
    ·exact J.ext _ _ ((aQ I.gok.nd).mpr (.inl ⟨l2,mm,rfl⟩))
    ·cases z;exact absurd rfl e
   ·exact J.ext _ _ ((aQ I.gok.nd).mpr (.inr ⟨λz=>nh ((oA hb x).mpr z),q'⟩))
 ·intro z;obtain⟨nh,h0⟩:=bW nd2 z;exact h.elim (λh=>I.a0 x h h0) nh
theorem oS: ∀{g:GL} {ls:List (List Int)},mD g=ls.map cV->g.map Prod.snd=ls
 | [],[],_=>rfl
 | [],_::_,h=>by cases h
 | _::_,[],h=>by cases h
 | p::g,l::ls,h=>by
  have h':cV p.2::mD g=cV l::ls.map cV:=h
  injection h' with h1 h2
  have e:p.2=l:=by
   unfold cV at h1
   injection h1 with h1
   have inj: ∀{a b:List Int},a.map D.int=b.map D.int->a=b:=λ{a b}=>by
    induction a generalizing b with
    | nil=>intro h;cases b with|nil=>rfl|cons _ _=>cases h
    | cons x a ih=>
     intro h;cases b with
     | nil=>cases h
     | cons y b=>
      rw[map_cons,map_cons]at h
      injection h with h1 h2
      injection h1 with h1
      rw[h1,ih h2]
   exact inj h1
  rw[map_cons,oS h2,e]
theorem oT (g:GL):mD g=(g.map Prod.snd).map cV:=by rw[map_map];rfl
def tN (r:Nat)(te ti:UE):US:=λD ρ=>te ρ λb _=> ∃l:List Int,b= .ow (l.map .int)/\ti ρ λj _=> ∃(n:Nat) (ls:List (List Int)),j= .pu (.int (n:Int))/\ρ[r]? =some (some (.ow (ls.map cV)))/\n<ls.length/\D.nx (ρ.set r (some (.ow ((ls.set n l).map cV))))
theorem jD {n m:Nat}(h:n<m):ixN m (n:Int)=some n:=by
 unfold ixN;rw[if_pos (by omega),if_pos (by omega)]
 simp
theorem un_row {x:Str}{p tpos:Pos}{ix:Expr}(hx:PE X (.Name x p) (pZ r))(he:PU X e te)(hi:PU X ix ti)
  (ha: ∀v,assign (.Subscript (.Name x p) ix tpos) X.env v=(do
   let ov<-holding [v] (eval (.Name x p) X.env)
   let iv<-holding [v,ov] (eval ix X.env)
   standAt tpos
   holding [v,ov,iv] (setItem ov iv v)
   release [v,ov,iv] []):=by intro _;rfl)
  (hs:swapsWithSole [.Subscript (.Name x p) ix tpos] e pos.line X.env=pure false:=by rfl) (hw:swappedStores [.Subscript (.Name x p) ix tpos] e X.env=pure none:=by rfl)
  (h1:(assignEach [.Subscript (.Name x p) ix tpos] X.env).map (·.2)=[assign (.Subscript (.Name x p) ix tpos) X.env]:=by rfl):PUN X r (.Assign [.Subscript (.Name x p) ix tpos] e pos) (tN r te ti):=
 hG (rO he (uE hx hi oH ha) hs hw h1) λD σ H ⟨C,ρ,D0,⟨g,I⟩,h,k⟩=>⟨C,ρ,_,I.out,h,λb ρ1 v H1 q f s rb=>by
  obtain⟨l,rfl,q⟩:=q;obtain⟨a,vs,rfl,n0,ea,rl⟩:=rb;have ev:=iD rl;subst ev;obtain⟨Dn,vs,h1,h2,h3,h4⟩:=I.ok.ow r _ I.at_r;have ev:=gE h4;subst ev;refine⟨.ref Dn,h1,C,ρ,_,(I.same s).out,q,λj ρ2 w H2 q2 f2 s2 r2=> ?_⟩
  obtain⟨n,ls,rfl,hr,hn,q2⟩:=q2;have hw:w= .int (n:Int):=b5 (K:=X.K) (A:=Av C ρ2 σ) (H:=H2) r2;subst hw;rw[I.sl]at hr;have el:=oS (B.ow.inj (Option.some.inj (Option.some.inj hr)));subst el;rw[length_map]at hn;refine⟨Dn,_,(n:Int),n,rfl,rfl,s2 _ _ (s _ _ h2),jD (by rw[length_map];exact hn),k.nx _ _ _ q2 ⟨g.set n (a,l),?_⟩⟩
  have:=I.setRow (n:=n) (s.trans s2) n0 (s2 _ _ ea) h1;rw[oT (g.set n (a,l)),map_set]at this;exact this⟩
def sG (r:Nat)(te ti tj:UE):US:=λD ρ=>te ρ λb _=> ∃v:Int,b= .pu (.int v)/\ti ρ λx _=> ∃(n:Nat) (ls:List (List Int)) (row:List Int),x= .pu (.int (n:Int))/\ρ[r]? =some (some (.ow (ls.map cV)))/\ls[n]? =some row/\tj ρ λy _=> ∃m:Nat,y= .pu (.int (m:Int))/\m<row.length/\D.nx (ρ.set r (some (.ow ((ls.set n (row.set m v)).map cV))))
theorem a69 {x:Str}{p p1 tpos:Pos}{ix jx:Expr}(hx:PE X (.Name x p) (pZ r))(he:PU X e te)(hi:PU X ix ti)(hj:PU X jx tj)(hpi:rS ix)
  (ha: ∀v,assign (.Subscript (.Subscript (.Name x p) ix p1) jx tpos) X.env v=(do
   let ov<-holding [v] (eval (.Subscript (.Name x p) ix p1) X.env)
   let iv<-holding [v,ov] (eval jx X.env)
   standAt tpos
   holding [v,ov,iv] (setItem ov iv v)
   release [v,ov,iv] []):=by intro _;rfl)
  (hs:swapsWithSole [.Subscript (.Subscript (.Name x p) ix p1) jx tpos] e pos.line X.env=pure false:=by rfl) (hw:swappedStores [.Subscript (.Subscript (.Name x p) ix p1) jx tpos] e X.env=pure none:=by rfl)
  (h1:(assignEach [.Subscript (.Subscript (.Name x p) ix p1) jx tpos] X.env).map (·.2)=[assign (.Subscript (.Subscript (.Name x p) ix p1) jx tpos) X.env]:=by rfl):PUN X r (.Assign [.Subscript (.Subscript (.Name x p) ix p1) jx tpos] e pos) (sG r te ti tj):=
 hG (rO he (uE (a87 vW hx hi hpi) hj oH ha) hs hw h1) λD σ H ⟨C,ρ,D0,⟨g,I⟩,h,k⟩=>⟨C,ρ,_,I.out,h,λb ρ1 v H1 q f s rb=>by
  obtain⟨v0,rfl,q⟩:=q;have hv:v= .int v0:=b5 (K:=X.K) (A:=Av C ρ1 σ) (H:=H1) rb;subst hv;obtain⟨Dn,vs,h1,h2,h3,h4⟩:=I.ok.ow r _ I.at_r;have ev:=gE h4;subst ev;refine⟨.ref Dn,h1,C,ρ,_,(I.same s).out,q,λx1 ρ2 w H2 q2 f2 s2 r2=> ?_⟩
  obtain⟨n,ls,row,rfl,hr,hrow,q2⟩:=q2;have hw:w= .int (n:Int):=b5 (K:=X.K) (A:=Av C ρ2 σ) (H:=H2) r2;subst hw;have I2:=(I.same s).same s2;rw[I.sl]at hr;have el:=oS (B.ow.inj (Option.some.inj (Option.some.inj hr)));subst el;obtain⟨b,hb⟩: ∃b,g[n]? =some (b,row):=by
   rw[getElem?_map]at hrow;cases q:g[n]? with
   | none=>rw[q]at hrow;cases hrow
   | some p=>rw[q]at hrow;cases hrow;exact⟨p.1,rfl⟩
  refine⟨Dn,_,(n:Int),.ref b,rfl,rfl,SqL.of (s2 _ _ (s _ _ h2)),d3 (by rw[getElem?_map,hb];rfl),C,ρ,_,I2.out,q2,λy ρ3 w3 H3 q3 f3 s3 r3=> ?_⟩
  obtain⟨m,rfl,hm,q3⟩:=q3;have hw3:w3= .int (m:Int):=b5 (K:=X.K) (A:=Av C ρ3 σ) (H:=H3) r3;subst hw3;have I3:=I2.same s3;refine⟨b,_,(m:Int),m,rfl,rfl,I3.inner (mem_of_getElem? hb),jD (by rw[length_map];exact hm),k.nx _ _ _ q3 ⟨g.set n (b,row.set m v0),?_⟩⟩
  have:=I3.setCell (l':=row.set m v0) hb;rw[oT (g.set n (b,row.set m v0)),map_set (f:=Prod.snd),map_set (f:=V.int)]at this;exact this⟩
noncomputable def C0.rzN (C:C0) (g:GL) (ρ:Ev) (σ:L2.St) (H:Hp):C0:=⟨λb=> @ite _ (Own ρ σ b\/g.has b) (Classical.propDecidable _) none (H b),C.A0⟩
theorem dE.rz (I:dE K C r g ρ σ H):dE K (C.rzN g (ρ.set r (some (.ow (bE g)))) σ H) r g ρ σ H/\cF C.H0 (C.rzN g (ρ.set r (some (.ow (bE g)))) σ H).H0:=by
 have e1: ∀b,(Own (ρ.set r (some (.ow (bE g)))) σ b\/g.has b)->(C.rzN g (ρ.set r (some (.ow (bE g)))) σ H).H0 b=none:=λb h=>if_pos h
 have e2: ∀b,¬(Own (ρ.set r (some (.ow (bE g)))) σ b\/g.has b)->(C.rzN g (ρ.set r (some (.ow (bE g)))) σ H).H0 b=H b:=λb h=>if_neg h
 generalize eC:C.rzN g (ρ.set r (some (.ow (bE g)))) σ H=C1 at *;have eA:C1.A0=C.A0:=by rw[<-eC];rfl
 have ok1:GOk g C1.H0:=⟨I.gok.nd,λx h=>e1 x (.inr h)⟩
 have no: ∀b o,C.H0 b=some o-> ¬(Own (ρ.set r (some (.ow (bE g)))) σ b\/g.has b):=λb o e h=>by
  rcases h with⟨i,l,h1,h2⟩|h
  ·obtain⟨a,vs,h3,h4,h5,_⟩:=I.ok.ow i l h1;rw[h2]at h3;cases h3;rw[(bW I.gok.nd h5).2]at e;cases e
  ·rw[I.gok.new b h]at e;cases e
 have s1:cF C.H0 C1.H0:=λb o e=>by
  rw[e2 b (no b o e)];exact I.ok.ext b o ((aQ I.gok.nd).mpr (.inr ⟨λz=>no b o e (.inr z),e⟩))
 have a1: ∀a,C1.A0 a->C1.H0 a≠none:=λa h z=>by
  rw[eA]at h;cases q:C.H0 a with
  | none=>exact I.a0 a h q
  | some o=>rw[s1 a o q]at z;cases z
 have av: ∀{a:Addr},Av (C1.inn g) (ρ.set r (some (.ow (bE g)))) σ a->Av (C.inn g) (ρ.set r (some (.ow (bE g)))) σ a:=λ{a} z=>z.imp (λz=>z.imp (λz=>eA▸z) id) id
 refine⟨⟨I.sl,ok1,I.nb,a1,I.ok.len,λi d h=> ?_,λi l h=> ?_,I.ok.inj,λi l h=>absurd h (iQ I.nb i l),λb o q=> ?_,λa h z=> ?_⟩,s1⟩
 ·obtain⟨v,h1,h2⟩:=I.ok.pu i d h;exact⟨v,h1,h2.mono (.sub (.refl _) λa z=>av z)⟩
 ·obtain⟨a,vs,h3,h4,h5,h6⟩:=I.ok.ow i l h;refine⟨a,vs,h3,h4,?_,h6.mono (.sub (.refl _) λa z=>av z)⟩
  cases q:(C1.inn g).H0 a with
  | none=>rfl
  | some o=>
   rcases(aQ ok1.nd).mp q with⟨l',m,_⟩| ⟨_,q'⟩
   ·exact absurd ⟨l',m⟩ (bW I.gok.nd h5).1
   ·rw[e1 a (.inl ⟨i,l,h,h3⟩)]at q';cases q'
 ·rcases(aQ ok1.nd).mp q with⟨l',m,rfl⟩| ⟨nh,q'⟩
  ·exact I.inner m
  ·by_cases z:Own (ρ.set r (some (.ow (bE g)))) σ b\/g.has b
   ·rw[e1 b z]at q';cases q'
   ·rw[e2 b z]at q';exact q'
 ·obtain⟨nh,h0⟩:=bW ok1.nd z;exact h.elim (λh=>a1 a h h0) nh
theorem dE.lower {C1:C0}(I:dE K C1 r g ρ σ H)(s:cF C.H0 C1.H0)(e:C1.A0=C.A0)(a0: ∀a,C.A0 a->C.H0 a≠none):dE K C r g ρ σ H:=by
 have ok:GOk g C.H0:=⟨I.gok.nd,λx h=>by
  cases q:C.H0 x with
  | none=>rfl
  | some o=>have:=s x o q;rw[I.gok.new x h]at this;cases this⟩
 have av: ∀{a:Addr},Av (C.inn g) (ρ.set r (some (.ow (bE g)))) σ a->Av (C1.inn g) (ρ.set r (some (.ow (bE g)))) σ a:=λ{a} z=>z.imp (λz=>z.imp (λz=>e▸z) id) id
 refine⟨I.sl,ok,I.nb,a0,I.ok.len,λi d h=> ?_,λi l h=> ?_,I.ok.inj,λi l h=>absurd h (iQ I.nb i l),λb o q=> ?_,λa h z=> ?_⟩
 ·obtain⟨v,h1,h2⟩:=I.ok.pu i d h;exact⟨v,h1,h2.mono (.sub (.refl _) λa z=>av z)⟩
 ·obtain⟨a,vs,h3,h4,h5,h6⟩:=I.ok.ow i l h;refine⟨a,vs,h3,h4,?_,h6.mono (.sub (.refl _) λa z=>av z)⟩
  obtain⟨nh,h0⟩:=bW I.gok.nd h5;cases q:(C.inn g).H0 a with
  | none=>rfl
  | some o=>
   rcases(aQ ok.nd).mp q with⟨l',m,_⟩| ⟨_,q'⟩
   ·exact absurd ⟨l',m⟩ nh
   ·rw[s a o q']at h0;cases h0
 ·rcases(aQ ok.nd).mp q with⟨l',m,rfl⟩| ⟨nh,q'⟩
  ·exact I.inner m
  ·exact I.ok.ext b o ((aQ I.gok.nd).mpr (.inr ⟨nh,s b o q'⟩))
 ·obtain⟨nh,h0⟩:=bW ok.nd z;exact h.elim (λh=>a0 a h h0) nh
def tO (r t0:Nat)(ta:UA)(tb:US):US:=λD ρ=>t0≠r/\ta ρ λds _=> ∃j:Int,ds=[.int j]/\(-(2^62)<=j/\j<2^62)/\ ∃Pv:Nat->Ev->Prop,Pv 0 ρ/\
 (∀i ρ',i<j.toNat->Pv i ρ'->t0<ρ'.length/\tb {nx:=Pv (i+1),rt:=λ_=>False} (ρ'.set t0 (some (.pu (.int (0+(i:Int)))))))/\ ∀ρ',Pv j.toNat ρ'->D.nx ρ'
theorem un_for {a:Expr}{ta:UA}{tb:US}{x:Str}{p px:Pos}{body:List Stmt}(t0:Nat)(hp:PassesOwn (model X.prog X.w) X.A X.env X.xe)(hc:X.calm=true)(hg:Gl X "range")(hm:X.mg "range"=none)(ha:PUA X [a] ta)(hx:PG X (.Name x px) (kX t0))(hb:v9 X r body tb)(hs':starEach [a] X.env=[(false,eval a X.env)]:=by rfl)
  (hs: ∀y,foldedSetIterable (.Call (.Name "range" p) [a] [] pos) X.env y=pure y:=by intro _;rfl) {q:Pos}:PUN X r (.For (.Name x px) (.Call (.Name "range" p) [a] [] pos) body [] q) (tO r t0 ta tb):=
 hG (yC hp hc (qI hg hm ha hs') hx hb hs) λD σ H ⟨C,ρ,D0,⟨g,I⟩,⟨ne,h⟩,k⟩=>⟨C,ρ,_,I.out,h,λds ρ1 vs H1 q f s rr=>by
  obtain⟨j,rfl,⟨h1,h2⟩,Pv,p0,turn,fin⟩:=q;obtain⟨v,vr,rfl,rv,rr'⟩:=rr.uncons;have:=rr'.unnil;subst this;have:=b5 rv;subst this;refine⟨j,rfl,h1,h2,?_⟩;refine⟨λi m σ' H'=>m=j.toNat-i/\i<=j.toNat/\ ∃ρ',tL X.K C r ρ' σ' H'/\Pv i ρ',⟨_,rfl,zero_le _,ρ,⟨g,I.same s⟩,p0⟩,?_⟩
  rintro i m σ' H' ⟨rfl,hi,ρ',⟨g',I'⟩,p'⟩
  by_cases hlt:i<j.toNat
  ·refine .inr ⟨hlt,λσ2 H2=> ∃ρ2,tL X.K C r ρ2 σ2 H2/\Pv (i+1) ρ2,λσ2 H2 z=>⟨j.toNat-(i+1),by omega,rfl,hlt,z⟩,λy H2 hy=> ?_⟩
   obtain⟨rfl,rfl⟩:=hy;obtain⟨hl,tr⟩:=turn i ρ' hlt p';have hl':t0<σ'.length:=by rw[<-I'.out.len];exact hl
   exact⟨C,_,_,⟨g',I'.setPu (d:= .int (0+(i:Int))) rfl (by simp only[Rep]) hl' ne⟩,tr,⟨λρ3 σ3 H3 q3 I3=>⟨ρ3,I3,q3⟩,λ_ _ _ z=>z.elim⟩⟩
  ·have e:i=j.toNat:=by omega
   subst e;exact .inl ⟨le_refl _,k.nx _ _ _ (fin ρ' p') ⟨g',I'⟩⟩⟩
end
section
variable {X:Cx}{K:Frag}{C C':C0}{ρ ρ':Ev}{σ σ':L2.St}{H H' H0:Hp}{g g':GL}{r:Nat}{st:Stmt}{sts:List Stmt}{e:Expr}{pos:Pos}{t u:US}{te ti tj:UE}{tc:UT}
def qE (l:List Int):D:= .tup (l.map .int)
def sI (r:Nat)(te:UE):US:=λD ρ=>jO te ρ λn it ρ1=>v8 ρ1/\r<ρ1.length/\ ∃ls:List (List Int),n=(ls.map qE).length/\it=(λi=>(ls.map qE).getD i .non)/\ls.length<=1000/\D.nx (ρ1.set r (some (.ow (ls.map cV))))
theorem zV {x:Addr}{l:List Int}(J:EOk K (C.inn g) ρ σ H)(nd:(g.map Prod.fst).Nodup)(h:(x,l)∈g):H x=some (.lst (l.map V.int)):=J.ext x _ ((aQ nd).mpr (.inl ⟨l,h,rfl⟩))
theorem vA {l:List Int}{x:Option B}{Q:B->Ev->Prop}(h:Q (.ow (l.map .int)) [some (.pu (.tup (l.map .int))),x]):b9 hV (aD (aC 0) aR) [some (.pu (.tup (l.map .int))),x] Q:=h
theorem zW {elt iter tg:Expr}{scope:Scope}{spos py:Pos}{y:Str}{esc:List (Str×NameKind)}{N:List Str}{XN:List Str}(he0:X.env.scope.names=esc)(hx0:X.N=XN)(lk:iM esc XN N [none,none] scope 1=true)(hc:X.calm=true)(hi:PUI X tg iter (jO te))
  (hg: ∀cl C s H fp pins,PUG (b6 X N scope cl C s H fp pins) tg [0] (cA 0)) (he: ∀cl C s H fp pins,PU (b6 X N scope cl C s H fp pins) elt (b9 hV (aD (aC 0) aR)))
  (hy:PG X (.Name y py) (kX r)) (hsw:swapsWith (.ListComp elt [⟨tg,iter,[],0⟩] scope pos) (some (.Name y py)) spos.line X.env=pure true:=by rfl)
  (hs: ∀x,foldedSetIterable iter X.env x=pure x:=by intro _;rfl):PS X (.Assign [.Name y py] (.ListComp elt [⟨tg,iter,[],0⟩] scope pos) spos) (lEnt X.K r (sI r te)):=by
 refine hG (oM (g:=lG X.K [0] (cA 0)) (tt:=lT X.K λρ Q=>Q true ρ) (te:=lE X.K (b9 hV (aD (aC 0) aR))) (last:=1) hc hi (bK.of he0 (hx0▸lk)).1 (bK.of he0 (hx0▸lk)).2 hg (λcl C s H fp pins=>cR) he hy hsw hs) λD σ H ⟨C,ρ,D0,I,h,k⟩=> ?_
 refine⟨C,ρ,_,I,h,λn it ρ1 J H1 q f s ok Dn nD=> ?_⟩
 obtain⟨nb,hr,ls,rfl,rfl,hls,q⟩:=q;rw[length_map]at ok;have I1:EOk X.K C ρ1 σ H1:=(I.frz f).same s;have I2:EOk X.K ((⟨H1,Av C ρ1 σ⟩:C0).inn []) [none,some (.ow (bE []))] (fX σ [none,none] 1 Dn) (upd H1 Dn (.lst [])):=by
  rw[a66];exact yY (cap:=[none,none]) (last:=1) I1 (by decide) nD
 have own0: ∀{g:GL} {ρ':Ev} {σ':L2.St} {H':Hp},GOk g H1->EOk X.K ((⟨H1,Av C ρ1 σ⟩:C0).inn g) ρ' σ' H'->e6 (Av C ρ1 σ) H1 (Av ((⟨H1,Av C ρ1 σ⟩:C0).inn g) ρ' σ') H':=λ{g ρ' σ' H'} gok J' b o nb e=>by
  have ng: ¬g.has b:=λz=>by rw[gok.new b z]at e;cases e
  have e':((⟨H1,Av C ρ1 σ⟩:C0).inn g).H0 b=some o:=(aQ gok.nd).mpr (.inr ⟨ng,e⟩);refine⟨?_,J'.ext b o e'⟩;rintro((z|z)| ⟨i,l,h1,h2⟩)
  ·exact nb z
  ·exact ng z
  ·obtain⟨a,vs,h3,h4,h5,_⟩:=J'.ow i l h1;rw[h2]at h3;cases h3;rw[h5]at e';cases e'
 have sal:(fX σ [none,none] 1 Dn)[1]? =some (some (.ref Dn)):=rfl;refine⟨λi m σ' H'=>m=ls.length-i/\i<=ls.length/\σ'[1]? =some (some (.ref Dn))/\ ∃(x:Option B) (g:GL),GOk g H1/\ ¬g.has Dn/\g.map Prod.snd=ls.take i/\EOk X.K ((⟨H1,Av C ρ1 σ⟩:C0).inn g) [x,some (.ow (bE g))] σ' H',⟨_,rfl,zero_le _,sal,none,[],GOk.nil,λ⟨l,m⟩=>(by cases m),rfl,I2⟩,?_⟩
 rintro i m σ' H' ⟨rfl,hi,hlast,x,g,gok,nDg,hg',J'⟩;have P:=own0 gok J'
 by_cases hlt:i<ls.length
 ·refine .inr ⟨ok.go _ _ i P hlt,λσ2 H2=>σ2[1]? =some (some (.ref Dn))/\ ∃(x:Option B) (g:GL),GOk g H1/\ ¬g.has Dn/\g.map Prod.snd=ls.take (i+1)/\EOk X.K ((⟨H1,Av C ρ1 σ⟩:C0).inn g) [x,some (.ow (bE g))] σ2 H2,λσ2 H2 z=>⟨ls.length-(i+1),by omega,rfl,hlt,z⟩,λy H2 hy=> ?_⟩
  obtain⟨s2,r2⟩:=ok.yld _ _ i y H2 P (λa z=>J'.avSome z) hlt hy
  have ei:(ls.map qE).getD i .non=qE ls[i]:=by
   rw[getD_eq_getElem?_getD,getElem?_map,getElem?_eq_getElem hlt];rfl
  rw[ei]at r2;refine⟨_,[x,some (.ow (bE g))],.pu (qE ls[i]),H',λρ3=>ρ3=[some (.pu (qE ls[i])),some (.ow (bE g))],J',s2,r2,⟨zero_lt_succ _,rfl⟩,λρ3 σ3 H3 q3 J3 same3=> ?_⟩
  subst q3;have l3:σ3[1]? =some (some (.ref Dn)):=(same3 1 (by decide)).trans hlast
  refine⟨_,_,λc ρ4=>c=true/\ρ4=[some (.pu (qE ls[i])),some (.ow (bE g))],J3,⟨rfl,rfl⟩,λc ρ4 H4 q4 f4 s4=> ?_⟩
  obtain⟨rfl,rfl⟩:=q4;rw[if_pos rfl];have J4:=J3.same s4;refine⟨_,_,λb ρ5=>b= .ow (ls[i].map .int),J4,vA rfl,λb ρ5 v H5 q5 f5 s5 r5=> ?_⟩
  subst q5;obtain⟨a,vs,rfl,na,ea,rl⟩:=r5;have ev:=iD rl;subst ev;obtain⟨J5,gok5⟩:=J4.addG gok s5 na ea;obtain⟨a',vs,g1,g2,g3,g4⟩:=J5.ow 1 (bE g) rfl;rw[l3]at g1;cases g1;have ev:=gE g4;subst ev;refine⟨_,g2,?_,l3,some (.pu (qE ls[i])),g++[(a,ls[i])],gok5,?_,?_,?_⟩
  ·rw[length_map];have:g.length=(ls.take i).length:=by rw[<-hg',length_map]
   rw[this,length_take];exact Nat.lt_of_le_of_lt (show _<=1000 by omega) (by decide)
  ·rintro⟨l,mm⟩;rcases List.mem_append.mp mm with mm|mm
   ·exact nDg ⟨l,mm⟩
   ·cases List.mem_singleton.mp mm;obtain⟨b',vs',k1,k2,_⟩:=J4.ow 1 (bE g) rfl;rw[l3]at k1;cases k1;rw[na]at k2;cases k2
  ·rw[map_append,hg',take_succ,getElem?_eq_getElem hlt];rfl
  ·have:=J5.write (i:=1) (l:=bE g) (l':=bE (g++[(a,ls[i])])) rfl l3 (gA (K:=X.K) (H:=H5) (A:=Av ((⟨H1,Av C ρ1 σ⟩:C0).inn (g++[(a,ls[i])])) [some (.pu (qE ls[i])),some (.ow (bE g))] σ3) (g++[(a,ls[i])]));rw[map_append]at this;exact this
 ·have e:i=ls.length:=by omega
  subst e;obtain⟨a,vs,g1,g2,g3,g4⟩:=J'.ow 1 (bE g) rfl;rw[hlast]at g1;cases g1;have ev:=gE g4;subst ev;refine .inl ⟨ok.stop _ _ P,k _ _ _ q ⟨g,?_⟩⟩;have sH:cF H1 H':=λb o e=>J'.ext b o ((aQ gok.nd).mpr (.inr ⟨λz=>(by rw[gok.new b z]at e;cases e),e⟩))
  have E:=I1.enter (r:=r) sH nD g2 gok nDg (λx l m=>zV J' gok.nd m) nb hr
  rw[oT,hg',take_of_length_le (le_refl _)]at E;exact E
end
section
variable {X:Cx}{K:Frag}{C C':C0}{ρ ρ':Ev}{σ σ':L2.St}{H H' H0:Hp}{e:Expr}{pos:Pos}{te:UE}
def zX (i:Nat):US:=λD ρ=>eX ρ i λl=>D.nx (ρ.set i (some (.ow l.reverse)))
theorem vB {x:Str}{p apos cpos:Pos}(i:Nat)(hx:PE X (.Name x p) (pZ i))(hbase:attributeBase (.Name x p) "reverse" X.env (eval (.Name x p) X.env)=eval (.Name x p) X.env:=by rfl)(hline:(apos.endLine==cpos.line)=true:=by rfl)
  (hw:swapsWith (.Call (.Attribute (.Name x p) "reverse" apos) [] [] cpos) none pos.line X.env=pure false:=by rfl):PUS X (.Expr (.Call (.Attribute (.Name x p) "reverse" apos) [] [] cpos) pos) (zX i):=
 hG (vR (pe_bm0 PySem.F.plainAttrs_list PySem.F.slot_list_reverse PySem.F.type_list_reverse uP hx hbase hline) hw) λD σ H ⟨C,ρ,D0,I,h,k⟩=>by
  obtain⟨l,hl,q⟩:=fA h;obtain⟨a,vs,h1,h2,h3,h4⟩:=I.ow i l hl;exact⟨.ref a,h1,.inl ⟨rfl,vs,SqL.of h2⟩,a,vs,rfl,rfl,h2,k.nx _ _ _ q (I.write hl h1 h4.reverse)⟩
def lH (t:UE):UE:=λρ Q=>t ρ λb _=>match b with
 | .pu d=>d.nl=true/\Q (.pu d) ρ
 | .ow l=>D.nls l=true/\Q (.ow l) ρ
 | _=>False
theorem kD (h:PU X e te):PU X e (lH te):=dP h λσ H Q ⟨C,ρ,Q0,I,h,k⟩=>⟨C,ρ,_,I,h,λb ρ' v H' q f s r=>by
 have noT: ∀(a:Addr) (vs:List V),Own ρ σ a->Rd H' a (.tup vs)->False:=λa vs ⟨i,l,h1,h2⟩ c=>by
  obtain⟨b,ws,g1,g2,_⟩:=I.ow i l h1;rw[h2]at g1;cases g1;have g3:=s _ _ g2;rcases c with c| ⟨o,c⟩
  ·rw[g3]at c;cases c
  ·rw[g3]at c;cases c
 cases b with
 | pu d=>
  refine k (.pu d) ρ v H' q.2 (.refl _) s ?_
  refine Rep.nl (λa vs n c=>⟨?_,c⟩) q.1 (show Rep _ _ _ d v from r)
  rintro(z|z)
  ·exact n (.inl z)
  ·exact noT a vs z c
 | ow l=>
  obtain⟨a,vs,rfl,n0,e1,rl⟩:=r;refine k (.ow l) ρ _ H' q.2 (.refl _) s ⟨a,vs,rfl,n0,e1,?_⟩;refine aS.nl (λb ws n c=>⟨?_,c⟩) q.1 rl
  rintro((z|z)|z)
  ·exact n (.inl (.inl z))
  ·exact noT b ws z c
  ·exact n (.inr z)
 | bo l=>exact q.elim⟩
end
end M
end
section
open PySem L2 M
local macro_rules| `(tactic| walk_at "u")=> `(tactic| simp only[uRev,gRev,v5,gSlT,uChain,uPop,uRevT,tJ,gAny,uIsN,D.isN,gMaxL,wH,lH,zX,sI,tO,rA,a68,tN,sG,uLookE,uAppZ,gSort2,aT,bJ,gX,uRetN,nN,kU,fN,uOp,uC,aC,vZ,aP,yM,uV,uIx,gIx,mZ,hJ,b9,aD,aR,eS,t4,jV,eX,uZ,bS,M.gSub,bQ,oI,fU,kW,gI2,oJ,jY,isB,B.d,uAnd,uOr,yP,sZ,uOrV,yQ,cA,fW,yU,uAug,uSl,iL,eE,gSl,gAbs,gMax,gMin,v1,d6,hV,xA,g1,g2,gInt,nO,uIf,z0,gSum,uDrop,a49,gI,bR,gH,eW,uRng2,wD,wE,qD,zK,jO,a57,hW,n6,a58,bind_some,Option.bind_none,map_some,Option.map_none,Option.join,
 List.getElem?_cons_zero,List.getElem?_cons_succ,List.set_cons_zero,List.set_cons_succ,length_cons,length_nil,decide_eq_true_eq,false_xor,true_xor,Bool.not_eq_true',decide_eq_false_iff_not,if_true,if_false,reduceCtorEq])
namespace M
def iR:Φ:=λds Q=> ∃c k p:Int,ds=[.int c,.int k,.int p]/\0<=k/\k<4294967296/\0<p/\ ∀r:Int,0<=r->r<p->Q (.pu (.int r))
def oU:US:=(aT (bJ 3 (uOp fU (uOp bQ (uOp bS (uOp bS (uOp bS (aC 0) (uOp bQ (uOp bQ (uC (.int 7)) (aC 1)) (aC 1))) (uOp bQ (uC (.int 13)) (aC 1))) (uC (.int 5))) (uC (.int 48271))) (uC (.int 2147483647)))) (aT (bJ 3 (uOp fU (uOp bQ (aC 3) (aC 3)) (uC (.int 2147483629)))) (gX (uOp fU (uOp bQ (aC 3) (uC (.int 39373))) (aC 2)))))
theorem bP (i:Int){j:Int}(h:0<j):i.fmod j=i%j:=Int.fmod_eq_emod_of_nonneg i (Int.le_of_lt h)
theorem fP (i:Int){j:Int}(h:0<j):i.fdiv j=i/j:=Int.fdiv_eq_ediv_of_nonneg i (Int.le_of_lt h)
theorem cmR {i j:Int}(h1: -18446744073709551616<j)(h2:j<18446744073709551616):uI i j\/(Sm i/\Sm j):= .inl (.inr ⟨h1,h2⟩)
theorem cmL {i j:Int}(h1: -18446744073709551616<i)(h2:i<18446744073709551616):uI i j\/(Sm i/\Sm j):= .inl (.inl ⟨h1,h2⟩)
theorem zY: ∀ds Q,iR ds Q->oU {nx:=λ_=>Q (.pu .non),rt:=Q} (init ["c","k","p","f"] ds):=by
 rintro ds Q ⟨c,k,p,rfl,h0,h1,hp,h⟩;unfold oU;show(aT _ _:US) _ [some (.pu (.int c)),some (.pu (.int k)),some (.pu (.int p)),none];walk_at "u";rw[bP _ (by decide:(0:Int)<2147483647),bP _ (by decide:(0:Int)<2147483629),bP _ hp]
 refine⟨cmL (by decide) (by decide),cmR (by omega) (by omega),cmL (by decide) (by decide),cmR (by decide) (by decide),by decide,cmR (by omega) (by omega),by decide,cmR (by decide) (by decide),by omega,?_⟩
 exact h _ (emod_nonneg _ (by omega)) (emod_lt_of_pos _ hp)
theorem bH {ui:UI}{g:UG}{tb:US}{D:UD}{ρ:Ev}(n:Nat)(it:Nat->M.D)(ρ1:Ev)(hui: ∀Q:Nat->(Nat->M.D)->Ev->Prop,Q n it ρ1->ui ρ Q)(Pv:Nat->Ev->Prop)(h0:Pv 0 ρ1)
  (hs: ∀i ρ,i<n->Pv i ρ->g (.pu (it i)) ρ λρ2=>tb {D with nx:=Pv (i+1),ct:=Pv (i+1),bk:=D.nx} ρ2) (hd: ∀ρ,Pv n ρ->D.nx ρ):gY ui g tb D ρ:=hui _ ⟨Pv,h0,hs,hd⟩
theorem wK {ws:List Int}{i:Nat}(h:i<ws.length):atI (ws.map D.int) (0+(i:Int))=some (.int ws[i]):=by
 rw[Int.zero_add];exact d3 (by rw[getElem?_map,getElem?_eq_getElem h];rfl)
def Below (xs ws:List Int):Prop:=xs.length=ws.length/\ ∀(j:Nat) (x w:Int),xs[j]? =some x->ws[j]? =some w->0<=x/\x<w
theorem cpl {i j:Int}(h1:0<=j)(h2:j<=1000000)(h3:i.natAbs<2^64):a36 i j:=⟨h1,h2,h3⟩
def dH:Φ:=λds Q=> ∃(c:Int) (ws:List Int) (p:Int),ds=[.int c,.lst (ws.map .int),.int p]/\ws.length<=1000/\0<p/\(∀w∈ws,0<w/\w<18446744073709551616)/\ ∀xs:List Int,Below xs ws->Q (.ow (xs.map .int))
def oV:US:=(aT (bJ 3 (uC (.int 0))) (aT (kU (fN (uOp (oJ λi j=>decide (j<=i)) (aC 0) (uOp kW (uC (.int 10)) (uC (.int 18))))) (bJ 3 (uOp M.gSub (aC 0) (uOp kW (uC (.int 10)) (uC (.int 18))))) fW) (aT (bJ 4 (eS aR)) (aT (gY (eW (aD (mZ (aP 1)) aR)) (cA 5) (kU (fN (uOp (oJ λi j=>decide (j<i)) (aC 3) (uC (.int 1)))) (aT (jV 4 (uOp fU (aC 3) (uIx (aP 1) (aC 5)))) (bJ 3 (uOp oI (aC 3) (uIx (aP 1) (aC 5))))) (jV 4 (uOp fU (b9 iR (aD (aC 0) (aD (aC 5) (aD (aC 2) aR)))) (uIx (aP 1) (aC 5)))))) (nN 4)))))
theorem sm64 {i:Int}(h1: -18446744073709551616<i)(h2:i<18446744073709551616):Sm i:=by
 unfold Sm;have h3:i.natAbs<18446744073709551616:=by omega
 exact lt_of_lt_of_le h3 (by decide +kernel)
theorem oW {xs ws:List Int}{x:Int}(h: ∀(j:Nat) (x w:Int),xs[j]? =some x->ws[j]? =some w->0<=x/\x<w)(hl:xs.length<ws.length)(h0:0<=x)(h1:x<ws[xs.length]) :
  ∀(j:Nat) (y w:Int),(xs++[x])[j]? =some y->ws[j]? =some w->0<=y/\y<w:=by
 intro j y w e1 e2
 by_cases hj:j<xs.length
 ·rw[getElem?_append_left hj]at e1;exact h j y w e1 e2
 ·rw[getElem?_append_right (by lia)]at e1
  by_cases hj':j=xs.length
  ·subst hj';simp at e1;subst e1;rw[getElem?_eq_getElem hl]at e2;cases e2;exact⟨h0,h1⟩
  ·have:j-xs.length≠0:=by lia
   cases e:j-xs.length with
   | zero=>lia
   | succ n=>rw[e]at e1;simp at e1
theorem zZ: ∀ds Q,dH ds Q->oV {nx:=λ_=>Q (.pu .non),rt:=Q} (init ["c","w","p","l","f","k"] ds):=by
 rintro ds Q ⟨c,ws,p,rfl,hlen,hp,hw,h⟩;unfold oV;have tail: ∀left:Int,(aT (bJ 4 (eS aR)) (aT (gY (eW (aD (mZ (aP 1)) aR)) (cA 5) (kU (fN (uOp (oJ λi j=>decide (j<i)) (aC 3) (uC (.int 1)))) (aT (jV 4 (uOp fU (aC 3) (uIx (aP 1) (aC 5)))) (bJ 3 (uOp oI (aC 3) (uIx (aP 1) (aC 5))))) (jV 4 (uOp fU (b9 iR (aD (aC 0) (aD (aC 5) (aD (aC 2) aR)))) (uIx (aP 1) (aC 5)))))) (nN 4)):US)
   {nx:=λ_=>Q (.pu .non),rt:=Q} [some (.pu (.int c)),some (.pu (.lst (ws.map .int))),some (.pu (.int p)),some (.pu (.int left)),none,none]:=by
  intro left;rw[aT];walk_at "u";refine⟨by decide,?_⟩
  refine bH ws.length (λi=> .int (0+i)) [some (.pu (.int c)),some (.pu (.lst (ws.map .int))),some (.pu (.int p)),some (.pu (.int left)),some (.ow []),none] ?_
   (λi ρ=> ∃(l:Int) (xs:List Int) (kk:Option B),ρ=[some (.pu (.int c)),some (.pu (.lst (ws.map .int))),some (.pu (.int p)),some (.pu (.int l)),some (.ow (xs.map .int)),kk]/\xs.length=i/\ ∀(j:Nat) (x w:Int),xs[j]? =some x->ws[j]? =some w->0<=x/\x<w)
   ⟨left,[],none,rfl,rfl,λj x w e=>by simp at e⟩ ?_ ?_
  ·intro Q q;simp only[eW];walk_at "u";rw[length_map];refine⟨⟨by lia,by lia⟩,?_⟩
   rw[toNat_natCast];exact q
  ·rintro i ρ hi ⟨l,xs,kk,rfl,hl,hb⟩;subst hl;obtain⟨w0,w1⟩:=hw _ (getElem_mem hi);walk_at "u";refine⟨by decide,?_⟩
   by_cases hc:1<l
   ·rw[if_pos hc];simp only[wK hi];rw[bP _ w0,fP _ w0];refine⟨by lia,?_,⟨by lia,sm64 (by lia) w1⟩,_,xs++[l%ws[xs.length]],_,by rw[map_append];rfl,by simp,oW hb hi (emod_nonneg _ (by lia)) (emod_lt_of_pos _ w0)⟩
    rw[length_map];exact lt_of_lt_of_le hi (le_trans hlen (by decide))
   ·rw[if_neg hc];refine⟨c,(0+(xs.length:Int)),p,rfl,by lia,by lia,hp,λr r0 r1=> ?_⟩
    simp only[wK hi];rw[bP _ w0];refine⟨by lia,?_,l,xs++[r%ws[xs.length]],_,by rw[map_append];rfl,by simp,oW hb hi (emod_nonneg _ (by lia)) (emod_lt_of_pos _ w0)⟩
    rw[length_map];exact lt_of_lt_of_le hi (le_trans hlen (by decide))
  ·rintro ρ ⟨l,xs,kk,rfl,hl,hb⟩;walk_at "u";exact h xs ⟨hl,hb⟩
 show(aT _ _:US) _ [some (.pu (.int c)),some (.pu (.lst (ws.map .int))),some (.pu (.int p)),none,none,none]
 refine(show a36 10 18/\(if decide ((10:Int)^(18:Int).toNat<=c)=true then _ else _)from⟨cpl (by decide) (by decide) (by decide),?_⟩)
 split
 ·exact⟨cpl (by decide) (by decide) (by decide),tail _⟩
 ·exact tail _
theorem fQ (k:Nat)(z:Int):(replicate k [D.int z]).flatten=(replicate k z).map .int:=by
 induction k with
 | zero=>rfl
 | succ k ih=>rw[replicate_succ,flatten_cons,ih,replicate_succ];rfl
def hX:Φ:=λds Q=> ∃(ns:List Int) (k:Int),ds=[.rol (ns.map .int),.int k]/\ns.length<=63/\0<=k/\k<4294967296/\ ∀r:Int,Q (.pu (.int r))
def sJ:US:=(aT (kU (fN (uOp (jY false) (mZ (aP 0)) (uC (.int 0)))) (gX (uOp bQ (uC (.int 7919)) (uOp bS (aC 1) (uC (.int 1))))) fW) (aT (kU (fN (uOp (oJ λi j=>decide (i<j)) (aC 1) (mZ (aP 0)))) (gX (uIx (aP 0) (aC 1))) fW) (gX (uOp bS (uIx (aP 0) (uOp fU (aC 1) (mZ (aP 0)))) (uOp bQ (uC (.int 104729)) (aC 1))))))
theorem a00 {ns:List Int}{k:Int}(h0:0<=k)(h1:k<ns.length): ∃z,atI (ns.map D.int) k=some (.int z):=by
 obtain⟨i,rfl⟩: ∃i:Nat,k=(i:Int):=⟨k.toNat,by lia⟩
 have hi:i<ns.length:=by lia
 exact⟨ns[i],d3 (by rw[getElem?_map,getElem?_eq_getElem hi];rfl)⟩
theorem a70: ∀ds Q,hX ds Q->sJ {nx:=λ_=>Q (.pu .non),rt:=Q} (init ["s","k"] ds):=by
 rintro ds Q ⟨ns,k,rfl,hl,k0,k1,h⟩;unfold sJ;show(aT _ _:US) _ [some (.pu (.rol (ns.map .int))),some (.pu (.int k))];walk_at "u";rw[length_map];split
 ·exact⟨cmL (by decide) (by decide),h _⟩
 ·split
  ·obtain⟨z,hz⟩:=a00 (ns:=ns) k0 (by lia)
   rw[hz];exact h z
  ·refine⟨by lia,?_⟩
   rw[bP _ (by lia)]
   obtain⟨z,hz⟩:=a00 (ns:=ns) (k:=k%ns.length) (emod_nonneg _ (by lia)) (emod_lt_of_pos _ (by lia))
   rw[hz];exact⟨cmL (by decide) (by decide),h _⟩
def kE:Φ:=λds Q=> ∃i:Int,ds=[.int i]/\Q (.pu (.bl true))
def oX:US:=(gX (sZ (b9 xA (aD (aC 0) (aD (uC (.ty "int")) aR))) (yQ (b9 xA (aD (aC 0) (aD (uC (.ty "bool")) aR))))))
theorem a01: ∀ds Q,kE ds Q->oX {nx:=λ_=>Q (.pu .non),rt:=Q} (init ["f"] ds):=by
 rintro ds Q ⟨i,rfl,h⟩;unfold oX;show(gX _:US) _ [some (.pu (.int i))];walk_at "u"
 simpa using h
theorem fL:bootBuiltins "isinstance"=some (.builtin "isinstance"):=by decide +kernel
theorem a02:bootBuiltins "int"=some (.type "int"):=by decide +kernel
theorem a71:bootBuiltins "bool"=some (.type "bool"):=by decide +kernel
theorem d8:bootBuiltins "tuple"=some (.type "tuple"):=by decide +kernel
theorem oB:bootBuiltins "list"=some (.type "list"):=by decide +kernel
theorem xJ: ∀ds Q,iR ds Q->ds.length=3:=by rintro ds Q ⟨c,k,p,rfl,_⟩;rfl
theorem xK: ∀ds Q,dH ds Q->ds.length=3:=by rintro ds Q ⟨c,k,p,rfl,_⟩;rfl
theorem a03: ∀ds Q,hX ds Q->ds.length=2:=by rintro ds Q ⟨c,k,rfl,_⟩;rfl
theorem xL: ∀ds Q,kE ds Q->ds.length=1:=by rintro ds Q ⟨i,rfl,_⟩;rfl
theorem a72: ∀ds Q,qT ds Q->ds.length=1:=by rintro ds Q ⟨i,rfl,_⟩;rfl
theorem mF (t:UE)(D:UD)(ρ:Ev):gX t D ρ=t ρ (λb _=>D.rt b):=rfl
theorem iS (φ:Φ)(t:UA)(ρ:Ev)(Q:B->Ev->Prop):b9 φ t ρ Q=t ρ λds ρ1=>φ ds λb=>Q b ρ1:=rfl
theorem iT (t:UE)(u:UA)(ρ:Ev)(Q:List D->Ev->Prop):aD t u ρ Q=t ρ λx ρ1=>u ρ1 λxs ρ2=>Q (x.d::xs) ρ2:=rfl
theorem aK (t u:US)(D:UD)(ρ:Ev):aT t u D ρ=t {D with nx:=u D} ρ:=rfl
theorem kP (i:Nat)(t:UE)(D:UD)(ρ:Ev):bJ i t D ρ=t ρ λb ρ1=>D.nx (ρ1.set i (some b)):=rfl
theorem e9 {js:List Nat}{cap:List (Option Nat)}{last t0:Nat}{ui:UI}{te:UE}{ρ:Ev}{Q:B->Ev->Prop}(n:Nat)(it:Nat->D)(ρ1:Ev)(hui: ∀Q:Nat->(Nat->D)->Ev->Prop,Q n it ρ1->ui ρ Q)(hn:n<=1000000)
  (G:Option B->List D->Ev) (x0:Option B) (h0:hW (n6 ρ1 js) cap last=G x0 []) (h1: ∀x l b,(G x l).set t0 (some b)=G (some b) l) (h1': ∀x l,t0< (G x l).length) (h2: ∀x l (Q:List D->Prop),Q l->eX (G x l) last Q) (h3: ∀x l l',(G x l).set last (some (.ow l'))=G x l')
  (f:Nat->D) (hte: ∀i l (Q':B->Ev->Prop),i<n->Q' (.pu (f i)) (G (some (.pu (it i))) l)->te (G (some (.pu (it i))) l) Q') (hq:Q (.ow ((List.range n).map f)) (n6 ρ1 js)) :
  d7 js cap last ui (cA t0) (λρ Q=>Q true ρ) te ρ Q:=by
 refine hui _ ⟨λi ρ'=> ∃x,ρ'=G x ((List.range i).map f),⟨x0,h0⟩,?_,?_⟩
 ·rintro i ρ' hi ⟨x,rfl⟩;refine⟨h1' _ _,?_⟩;rw[h1];dsimp only;rw[if_pos rfl];refine hte i _ _ hi (h2 _ _ _ ⟨?_,some (.pu (it i)),?_⟩)
  ·rw[length_map,length_range];exact lt_of_lt_of_le hi (le_trans hn (by decide))
  ·rw[h3,range_succ,map_append];rfl
 ·rintro ρ' ⟨x,rfl⟩;exact h2 _ _ _ hq
def aO (r:List Int):D:= .tup (r.map .int)
theorem a04 (l:List D)(i:Nat)(h:i<=l.length):cutD l none (some (i:Int))=l.take i:=by
 unfold cutD;rw[HT.sIx_none,HT.sIx_nat,min_eq_left h];simp
theorem kF (l:List D)(i:Nat)(h:i<=l.length):cutD l (some (i:Int)) none=l.drop i:=by
 unfold cutD;rw[HT.sIx_none,HT.sIx_nat,min_eq_left h];rw[take_of_length_le (by rw[length_drop];exact le_refl _)]
theorem Sm.pow {i:Int}{k:Nat}(h:i.natAbs<=2^k)(hk:k<9000):Sm i:=Nat.lt_of_le_of_lt h (Nat.pow_lt_pow_right (by decide) hk)
theorem fB {js:List Nat}{cap:List (Option Nat)}{last t0 t1:Nat}{ui:UI}{te:UE}{ρ:Ev}{Q:B->Ev->Prop}(n:Nat)(i1 i2:Nat->D)(ρ1:Ev)(hui: ∀Q:Nat->(Nat->D)->Ev->Prop,Q n (λi=> .tup [i1 i,i2 i]) ρ1->ui ρ Q)(hn:n<=1000000)
  (G:Option B->Option B->List D->Ev) (x0 y0:Option B) (h0:hW (n6 ρ1 js) cap last=G x0 y0 []) (h1: ∀x y l b c,((G x y l).set t0 (some b)).set t1 (some c)=G (some b) (some c) l) (h1': ∀x y l,t0< (G x y l).length/\t1< (G x y l).length)
  (h2: ∀x y l (Q:List D->Prop),Q l->eX (G x y l) last Q) (h3: ∀x y l l',(G x y l).set last (some (.ow l'))=G x y l')
  (f:Nat->D) (hte: ∀i l (Q':B->Ev->Prop),i<n->Q' (.pu (f i)) (G (some (.pu (i1 i))) (some (.pu (i2 i))) l)->te (G (some (.pu (i1 i))) (some (.pu (i2 i))) l) Q') (hq:Q (.ow ((List.range n).map f)) (n6 ρ1 js)) :
  d7 js cap last ui (gI (bR t0 (bR t1 gH))) (λρ Q=>Q true ρ) te ρ Q:=by
 refine hui _ ⟨λi ρ'=> ∃x y,ρ'=G x y ((List.range i).map f),⟨x0,y0,h0⟩,?_,?_⟩
 ·rintro i ρ' hi ⟨x,y,rfl⟩;refine⟨(h1' _ _ _).1,by rw[length_set];exact(h1' _ _ _).2,rfl,?_⟩
  rw[h1];dsimp only;rw[if_pos rfl];refine hte i _ _ hi (h2 _ _ _ _ ⟨?_,some (.pu (i1 i)),some (.pu (i2 i)),?_⟩)
  ·rw[length_map,length_range];exact lt_of_lt_of_le hi (le_trans hn (by decide))
  ·rw[h3,range_succ,map_append];rfl
 ·rintro ρ' ⟨x,y,rfl⟩;exact h2 _ _ _ _ hq
def rwF (n:Nat)(f:Nat->Int):List Int:=(List.range n).map f
theorem dZ (n:Nat)(f:Nat->Int):(rwF n f).length=n:=by simp[rwF]
theorem hZ {n i:Nat}{f:Nat->Int}(h:i<n):(rwF n f)[i]? =some (f i):=by simp[rwF,h]
theorem aL (n:Nat)(f:Nat->Int):((rwF n f).map D.int).length=n:=by simp[rwF]
theorem bM {n i:Nat}{f:Nat->Int}(h:i<n):((rwF n f).map D.int)[i]? =some (.int (f i)):=by simp[rwF,h]
theorem cW {n i:Nat}{f:Nat->Int}(h:i<n):((rwF n f).map D.int).getD i .non= .int (f i):=by rw[getD_eq_getElem?_getD,bM h];rfl
theorem gM {n i:Nat}{f:Nat->Int}(h:i<n):atI ((rwF n f).map D.int) (i:Int)=some (.int (f i)):=d3 (bM h)
theorem wL {n j:Nat}{f:Nat->Int}{v:Int}(h:j<n):((rwF n f).map D.int).set j (.int v)=(rwF n λx=>if x=j then v else f x).map D.int:=by
 apply ext_getElem?
 intro k
 by_cases hk:k<n
 ·rw[bM hk]
  by_cases e:j=k
  ·subst e;rw[aU (by rw[aL];exact hk),if_pos rfl]
  ·rw[get_set_ne e,bM hk,if_neg (λz=>e z.symm)]
 ·rw[getElem?_eq_none (by rw[length_set,aL];omega),getElem?_eq_none (by rw[aL];omega)]
theorem nG {n:Nat}{f g:Nat->Int}(h: ∀i,i<n->f i=g i):rwF n f=rwF n g:=by
 unfold rwF;apply map_congr_left;intro i hi;exact h i (List.mem_range.mp hi)
theorem rwF_of (r:List Int):r=rwF r.length (λj=>r.getD j 0):=by
 apply ext_getElem?
 intro k
 by_cases hk:k<r.length
 ·rw[hZ hk,getElem?_eq_getElem hk,getD_eq_getElem?_getD,getElem?_eq_getElem hk];rfl
 ·rw[getElem?_eq_none (by omega),getElem?_eq_none (by rw[dZ];omega)]
theorem eJ (n:Nat)(f:Nat->Int):(List.range n).map (λk=>D.int (f k))=(rwF n f).map D.int:=by
 unfold rwF;rw[map_map];rfl
def tbF (n m:Nat)(t:Nat->Nat->Int):List D:=(List.range n).map λi=>aO (rwF m (t i))
theorem eK (n m:Nat)(t:Nat->Nat->Int):(tbF n m t).length=n:=by simp[tbF]
theorem mG {n m i:Nat}{t:Nat->Nat->Int}(h:i<n):(tbF n m t)[i]? =some (aO (rwF m (t i))):=by simp[tbF,h]
theorem oY {n m i:Nat}{t:Nat->Nat->Int}(h:i<n):atI (tbF n m t) (i:Int)=some (aO (rwF m (t i))):=d3 (mG h)
theorem tP (n m:Nat)(t:Nat->Nat->Int)(f:Nat->Int):tbF n m t++[aO (rwF m f)]=tbF (n+1) m (λi=>if i=n then f else t i):=by
 unfold tbF;rw[range_succ,map_append]
 congr 1
 ·apply map_congr_left
  intro i hi;have:=List.mem_range.mp hi;show _=aO (rwF m (if i=n then f else t i));rw[if_neg (by omega)]
 ·simp
inductive Gen (n:Nat) (R:(Nat->Int)->Prop):(Nat->Int)->Prop
 | base {r}:R r->Gen n R r
 | zero:Gen n R λ_=>0
 | comb {a b} (k:Int):Gen n R a->Gen n R b->Gen n R λj=>a j+k*b j
 | cong {a b}:Gen n R a->(∀j,j<n->a j=b j)->Gen n R b
theorem Gen.mono {n:Nat}{R S:(Nat->Int)->Prop}(h: ∀r,R r->Gen n S r): ∀{v:Nat->Int},Gen n R v->Gen n S v:=by
 intro v hv
 induction hv with
 | base h1=>exact h _ h1
 | zero=>exact .zero
 | comb k _ _ i1 i2=>exact .comb k i1 i2
 | cong _ h1 i1=>exact .cong i1 h1
theorem Gen.mul {n:Nat}{R:(Nat->Int)->Prop}{v:Nat->Int}(h:Gen n R v)(k:Int):Gen n R λj=>k*v j:=(Gen.comb k .zero h).cong λj _=>by omega
theorem Gen.sub {n:Nat}{R:(Nat->Int)->Prop}{a b:Nat->Int}(h:Gen n R a)(h2:Gen n R b):Gen n R λj=>a j-b j:=(Gen.comb (-1) h h2).cong λj _=>by omega
theorem Gen.add {n:Nat}{R:(Nat->Int)->Prop}{a b:Nat->Int}(h:Gen n R a)(h2:Gen n R b):Gen n R λj=>a j+b j:=(Gen.comb 1 h h2).cong λj _=>by omega
def Rows (n:Nat)(t:Nat->Nat->Int)(v:Nat->Int):Prop:= ∃i,i<n/\v=t i
def iU (t:Nat->Nat->Int)(c:Nat->Int):Nat->Nat->Int
 | 0,_=>0
 | i+1,j=>iU t c i j+c i*t i j
theorem rC (t:Nat->Nat->Int)(a b:Nat->Int)(k:Int): ∀n j,iU t (λi=>a i+k*b i) n j=iU t a n j+k*iU t b n j
 | 0,_=>by show(0:Int)=0+k*0;omega
 | n+1,j=>by
  show iU t _ n j+(a n+k*b n)*t n j=iU t a n j+a n*t n j+k*(iU t b n j+b n*t n j)
  rw[rC t a b k n j]
  grind
theorem rD (t:Nat->Nat->Int): ∀n j,iU t (λ_=>0) n j=0
 | 0,_=>rfl
 | n+1,j=>by show iU t _ n j+0*t n j=0;rw[rD t n j];omega
theorem tQ (t:Nat->Nat->Int)(i:Nat): ∀n j,iU t (λl=>if l=i then 1 else 0) n j=if i<n then t i j else 0
 | 0,_=>by rw[if_neg (by omega)];rfl
 | n+1,j=>by
  show iU t _ n j+(if n=i then 1 else 0)*t n j=_
  rw[tQ t i n j]
  by_cases h:n=i
  ·subst h;rw[if_neg (by omega),if_pos rfl,if_pos (by omega)]
   omega
  ·rw[if_neg h]
   by_cases h2:i<n
   ·rw[if_pos h2,if_pos (by omega)];omega
   ·rw[if_neg h2,if_neg (by omega)];omega
theorem Gen.sum {n k:Nat}{t:Nat->Nat->Int}{v:Nat->Int}(h:Gen n (Rows k t) v): ∃c:Nat->Int,∀j,j<n->v j=iU t c k j:=by
 induction h with
 | base h=>
  obtain⟨i,hi,rfl⟩:=h;exact⟨_,λj _=>by rw[tQ,if_pos hi]⟩
 | zero=>exact⟨_,λj _=>(rD t k j).symm⟩
 | comb q _ _ i1 i2=>
  obtain⟨a,ha⟩:=i1;obtain⟨b,hb⟩:=i2;exact⟨λi=>a i+q*b i,λj hj=>by rw[rC,<-ha j hj,<-hb j hj]⟩
 | cong _ h1 i1=>
  obtain⟨a,ha⟩:=i1;exact⟨a,λj hj=>by rw[<-h1 j hj,ha j hj]⟩
theorem wM {n:Nat}{t:Nat->Nat->Int}(c:Nat->Int): ∀k,Gen n (Rows k t) (iU t c k)
 | 0=> .zero
 | k+1=> .comb (c k) ((wM c k).mono λr ⟨i,hi,e⟩=> .base ⟨i,by omega,e⟩) (.base ⟨k,by omega,rfl⟩)
structure Tri (n:Nat)(t:Nat->Nat->Int):Prop where
 pos: ∀i,i<n->1<=t i i
 zero: ∀i,i<n-> ∀j,i<j->t i j=0
theorem oZ {n:Nat}{t:Nat->Nat->Int}(T:Tri n t)(c:Nat->Int): ∀k j,k<=n->k<=j->iU t c k j=0
 | 0,_,_,_=>rfl
 | k+1,j,hk,hj=>by
  show iU t c k j+c k*t k j=0
  rw[oZ T c k j (by omega) (by omega),T.zero k (by omega) j (by omega)]
  omega
theorem Tri.cut {n:Nat}{t:Nat->Nat->Int}(T:Tri n t){v c:Nat->Int}: ∀(d k i:Nat),k-i=d->k<=n->i<=k->(∀j,j<n->v j=iU t c k j)->(∀j,i<=j->j<n->v j=0)-> ∀j,j<n->v j=iU t c i j
 | 0,k,i,hd,hk,hi,h,_=>by
  have:k=i:=by omega
  subst this;exact h
 | d+1,k,i,hd,hk,hi,h,hz=>by
  obtain⟨k',rfl⟩: ∃k',k=k'+1:=⟨k-1,by omega⟩
  have e:=h k' (by omega)
  rw[hz k' (by omega) (by omega)]at e
  have e2:(0:Int)=iU t c k' k'+c k'*t k' k':=e;rw[oZ T c k' k' (by omega) (le_refl _)]at e2
  have p:=T.pos k' (by omega)
  have c0:c k'=0:=by
   rcases Int.mul_eq_zero.mp (show c k'*t k' k'=0 by omega)with z|z
   ·exact z
   ·omega
  refine T.cut d k' i (by omega) (by omega) (by omega) (λj hj=> ?_) hz
  rw[h j hj];show iU t c k' j+c k'*t k' j=_;rw[c0];omega
theorem Tri.gen_cut {n:Nat}{t:Nat->Nat->Int}(T:Tri n t){v:Nat->Int}(h:Gen n (Rows n t) v){i:Nat}(hi:i<=n)(hz: ∀j,i<=j->j<n->v j=0):Gen n (Rows i t) v:=by
 obtain⟨c,hc⟩:=h.sum;exact(wM c i).cong λj hj=>(T.cut (n-i) n i rfl (le_refl _) hi hc hz j hj).symm
theorem Tri.lead {n:Nat}{t:Nat->Nat->Int}(T:Tri n t){v:Nat->Int}(h:Gen n (Rows n t) v){i:Nat}(hi:i<n)(hz: ∀j,i<j->j<n->v j=0):t i i∣v i:=by
 obtain⟨c,hc⟩:=h.sum;have e:=T.cut (n-(i+1)) n (i+1) rfl (le_refl _) hi hc hz i hi;have e2:v i=iU t c i i+c i*t i i:=e;rw[oZ T c i i (by omega) (le_refl _)]at e2
 exact⟨c i,by rw[e2,Int.mul_comm];omega⟩
structure rE (n:Nat)(t:Nat->Nat->Int):Prop extends Tri n t where
 ahead: ∀i,i<n-> ∀j,j<i->0<=t i j/\t i j<t j j
theorem rE.uniq {n:Nat}{t u:Nat->Nat->Int}(T:rE n t)(U:rE n u)(h1: ∀i,i<n->Gen n (Rows n u) (t i))(h2: ∀i,i<n->Gen n (Rows n t) (u i)): ∀i,i<n-> ∀j,j<n->t i j=u i j:=by
 have diag: ∀i,i<n->t i i=u i i:=λi hi=>by
  have a:=U.toTri.lead (h1 i hi) hi λj hj hn=>T.zero i hi j hj
  have b:=T.toTri.lead (h2 i hi) hi λj hj hn=>U.zero i hi j hj
  have p1:=T.pos i hi;have p2:=U.pos i hi;have:=le_of_dvd (by omega) a
  have:=le_of_dvd (by omega) b
  omega
 intro i hi;have g:Gen n (Rows n t) λj=>t i j-u i j:=(Gen.base ⟨i,hi,rfl⟩).sub (h2 i hi)
 have main: ∀(d k:Nat),n-k=d->k<=n-> ∀j,k<=j->j<n->t i j-u i j=0:=by
  intro d
  induction d with
  | zero=>intro k hd hk j h1 h2;omega
  | succ d ih=>
   intro k hd hk j hj hn
   by_cases e:k=j
   ·subst e;have dv:=T.toTri.lead g hn λj h1 h2=>ih (k+1) (by omega) (by omega) j (by omega) h2
    by_cases c1:k<i
    ·obtain⟨a1,a2⟩:=T.ahead i hi k c1;obtain⟨b1,b2⟩:=U.ahead i hi k c1;have dg:=diag k (by omega)
     obtain⟨q,hq⟩:=dv;have p1:=T.pos k hn;have q0:q=0:=by
      rcases Int.lt_trichotomy q 0 with z|z|z
      ·have:t k k*q<=t k k*(-1):=Int.mul_le_mul_of_nonneg_left (by omega) (by omega)
       omega
      ·exact z
      ·have:t k k*1<=t k k*q:=Int.mul_le_mul_of_nonneg_left (by omega) (by omega)
       omega
     rw[hq,q0];omega
    ·by_cases c2:k=i
     ·subst c2;have:=diag k hn;omega
     ·rw[T.zero i hi k (by omega),U.zero i hi k (by omega)];omega
   ·exact ih (k+1) (by omega) (by omega) j (by omega) hn
 intro j hj;have:=main n 0 (by omega) (by omega) j (by omega) hj
 omega
def mE (m:Int)(i:Nat):Nat->Int:=λj=>if j=i then m else 0
def RM (n:Nat)(m:Int)(R:(Nat->Int)->Prop)(v:Nat->Int):Prop:=R v\/ ∃i,i<n/\v=mE m i
theorem Gen.modE {n:Nat}{R:(Nat->Int)->Prop}{m:Int}{a b:Nat->Int}: ∀(k:Nat),k<=n->(∀i,i<k->Gen n R (mE m i))->Gen n R a->(∀j,j<k->m∣a j-b j)->(∀j,k<=j->j<n->a j=b j)->Gen n R b
 | 0,_,_,h,_,hz=>h.cong λj hj=>hz j (by omega) hj
 | k+1,hk,hm,h,hd,hz=>by
  obtain⟨q,hq⟩:=hd k (by omega)
  have h1:Gen n R λj=>a j+(-q)*mE m k j:= .comb (-q) h (hm k (by omega))
  refine Gen.modE k (by omega) (λi hi=>hm i (by omega)) h1 (λj hj=> ?_) (λj h1 h2=> ?_)
  ·have:mE m k j=0:=if_neg (by omega)
   rw[this];obtain⟨p,hp⟩:=hd j (by omega)
   exact⟨p,by omega⟩
  ·by_cases e:j=k
   ·subst e;have:mE m j j=m:=if_pos rfl;rw[this,Int.neg_mul,Int.mul_comm q m];omega
   ·have:mE m k j=0:=if_neg e;rw[this,hz j (by omega) h2]
    omega
def RL (n:Nat)(u:Nat->Nat->Int)(l:Nat->Int)(v:Nat->Int):Prop:=Rows n u v\/v=l
def eV (u:Nat->Nat->Int)(l:Nat->Int)(m g s t:Int)(i:Nat):Nat->Nat->Int:=λr j=>if r=i then(if j<i then(s*u i j+t*l j)%m else if j=i then g else 0)else u r j
def lJ (u:Nat->Nat->Int)(l:Nat->Int)(m A B:Int)(i:Nat):Nat->Int:=λj=>if j<i then(A*l j+(-B)*u i j)%m else 0
theorem oC (x m:Int):m∣x-x%m:=⟨x/m,by have:=emod_add_mul_ediv x m;omega⟩
theorem mH (x m:Int):m∣x%m-x:=⟨-(x/m),by have:=emod_add_mul_ediv x m;rw[mul_neg];omega⟩
theorem a73 {n i:Nat}{u:Nat->Nat->Int}{l:Nat->Int}{m g s t A B:Int}(hi:i<n)(T:Tri n u)(hE: ∀j,j<i->Gen n (Rows i u) (mE m j))(lz: ∀j,i<j->l j=0)(ha:u i i=g*A)(hb:l i=g*B)(hd:s*A+t*B=1)(g1:1<=g) :
  Tri n (eV u l m g s t i)/\(∀v,Gen n (RL n (eV u l m g s t i) (lJ u l m A B i)) v↔Gen n (RL n u l) v):=by
 have nr: ∀r,r≠i->eV u l m g s t i r=u r:=λr hr=>by funext j;exact if_neg hr
 refine⟨⟨λr hr=> ?_,λr hr j hj=> ?_⟩,?_⟩
 ·by_cases e:r=i
  ·subst e;show 1<=eV u l m g s t r r r;unfold eV;rw[if_pos rfl,if_neg (by omega),if_pos rfl]
   exact g1
  ·rw[nr r e];exact T.pos r hr
 ·by_cases e:r=i
  ·subst e;unfold eV;rw[if_pos rfl,if_neg (by omega),if_neg (by omega)]
  ·rw[nr r e];exact T.zero r hr j hj
 have E1: ∀j,j<i->Gen n (RL n u l) (mE m j):=λj hj=>(hE j hj).mono λr ⟨q,hq,e⟩=> .base (.inl ⟨q,by omega,e⟩)
 have E2: ∀j,j<i->Gen n (RL n (eV u l m g s t i) (lJ u l m A B i)) (mE m j):=λj hj=>(hE j hj).mono λr ⟨q,hq,e⟩=> .base (.inl ⟨q,by omega,by rw[nr q (by omega)];exact e⟩)
 have H1:Gen n (RL n u l) (u i):= .base (.inl ⟨i,hi,rfl⟩);have L1:Gen n (RL n u l) l:= .base (.inr rfl);have X1:Gen n (RL n u l) λj=>s*u i j+t*l j:=(H1.mul s).comb t L1
 have Y1:Gen n (RL n u l) λj=>A*l j+(-B)*u i j:=(L1.mul A).comb (-B) H1
 have xi:s*u i i+t*l i=g:=by rw[ha,hb];grind
 have yi:A*l i+(-B)*u i i=0:=by rw[ha,hb];grind
 have above: ∀j,i<j->u i j=0:=λj hj=>T.zero i hi j hj
 have X2:Gen n (RL n (eV u l m g s t i) (lJ u l m A B i)) λj=>s*u i j+t*l j:=by
  refine Gen.modE i (by omega) E2 (Gen.base (.inl ⟨i,hi,rfl⟩)) (λj hj=> ?_) (λj h1 h2=> ?_)
  ·show m∣eV u l m g s t i i j-_
   unfold eV;rw[if_pos rfl,if_pos hj];exact mH _ _
  ·show eV u l m g s t i i j=_
   unfold eV;rw[if_pos rfl,if_neg (by omega)]
   by_cases e:j=i
   ·subst e;rw[if_pos rfl];exact xi.symm
   ·rw[if_neg e,above j (by omega),lz j (by omega)];omega
 have Y2:Gen n (RL n (eV u l m g s t i) (lJ u l m A B i)) λj=>A*l j+(-B)*u i j:=by
  refine Gen.modE i (by omega) E2 (Gen.base (.inr rfl)) (λj hj=> ?_) (λj h1 h2=> ?_)
  ·show m∣lJ u l m A B i j-_
   unfold lJ;rw[if_pos hj];exact mH _ _
  ·show lJ u l m A B i j=_
   unfold lJ;rw[if_neg (by omega)]
   by_cases e:j=i
   ·subst e;exact yi.symm
   ·rw[above j (by omega),lz j (by omega)];omega
 intro v;constructor
 ·refine Gen.mono λr hr=> ?_
  rcases hr with⟨q,hq,rfl⟩|rfl
  ·by_cases e:q=i
   ·subst e;refine Gen.modE q (by omega) E1 X1 (λj hj=> ?_) (λj h1 h2=> ?_)
    ·show m∣_-eV u l m g s t q q j
     unfold eV;rw[if_pos rfl,if_pos hj];exact oC _ _
    ·show _=eV u l m g s t q q j
     unfold eV;rw[if_pos rfl,if_neg (by omega)]
     by_cases e:j=q
     ·subst e;rw[if_pos rfl];exact xi
     ·rw[if_neg e,above j (by omega),lz j (by omega)];omega
   ·rw[nr q e];exact .base (.inl ⟨q,hq,rfl⟩)
  ·refine Gen.modE i (by omega) E1 Y1 (λj hj=> ?_) (λj h1 h2=> ?_)
   ·show m∣_-lJ u l m A B i j
    unfold lJ;rw[if_pos hj];exact oC _ _
   ·show _=lJ u l m A B i j
    unfold lJ;rw[if_neg (by omega)]
    by_cases e:j=i
    ·subst e;exact yi
    ·rw[above j (by omega),lz j (by omega)];omega
 ·refine Gen.mono λr hr=> ?_
  rcases hr with⟨q,hq,rfl⟩|hr
  ·by_cases e:q=i
   ·subst e;refine((X2.mul A).comb (-t) Y2).cong λj _=> ?_
    have:A*(s*u q j+t*l j)+ -t*(A*l j+ -B*u q j)=(s*A+t*B)*u q j:=by grind
    rw[this,hd];omega
   ·exact .base (.inl ⟨q,hq,by rw[nr q e]⟩)
  ·rw[hr];refine((X2.mul B).comb s Y2).cong λj _=> ?_
   have:B*(s*u i j+t*l j)+s*(A*l j+ -B*u i j)=(s*A+t*B)*l j:=by grind
   rw[this,hd];omega
structure GS (a b g s t:Int):Prop where
 g1:1<=g
 ga:g∣a
 gb:g∣b
 eq:g=s*a+t*b
 tb:t.natAbs<=2^600
 sb:s.natAbs<=2^1700
def dI:Φ:=λds Q=> ∃a b:Int,ds=[.int a,.int b]/\1<=a/\a<=2^600/\b.natAbs<=2^1000/\ ∀g s t,GS a b g s t->Q (.pu (.tup [.int g,.int s,.int t]))
def gN:US:=(yU 4 5 (aD (aC 5) (aD (uOp M.gSub (aC 4) (uOp bQ (aC 6) (aC 5))) aR)))
def gO:US:=(aT (yU 2 3 (aD (aC 3) (aD (uOp M.gSub (aC 2) (uOp bQ (aC 6) (aC 3))) aR))) gN)
def gP:US:=(aT (bJ 6 (uOp oI (aC 2) (aC 3))) gO)
def iV:US:=(gX (t4 (aD (aC 2) (aD (uOp oI (uOp M.gSub (aC 2) (uOp bQ (aC 4) (aC 1))) (aC 0)) (aD (aC 4) aR)))))
def iW:US:=(aT (uU (fN (uOp (jY true) (aC 3) (uC (.int 0)))) gP) iV)
def iX:US:=(aT (a49 (t4 (aD (uC (.int 0)) (aD (uC (.int 1)) aR))) (gI (bR 4 (bR 5 gH)))) iW)
def gQ:US:=(aT (yU 2 3 (aD (aC 0) (aD (uOp fU (aC 1) (aC 0)) aR))) iX)
theorem nW: ∀ds Q,dI ds Q->ds.length=2:=by rintro ds Q ⟨a,b,rfl,_⟩;rfl
structure EI (a b g low t later:Int):Prop where
 g1:1<=g
 l0:0<=low
 lg:low<g
 ga:g<=a
 d1:a∣g-t*b
 d2:a∣low-later*b
 gc: ∀d:Int,d∣g->d∣low->d∣a/\d∣b
 sg: ∃e T L:Int,(e=1\/e= -1)/\0<=T/\0<=L/\t=e*T/\later= -e*L/\g*L+low*T=a/\T<=a
theorem EI.step {a b g low t later:Int}(h:EI a b g low t later)(l1:low≠0):EI a b low (g-g/low*low) later (t-g/low*later):=by
 obtain⟨g1,l0,lg,ga,d1,d2,gc,e,T,L,he,hT,hL,rfl,rfl,hs,hTa⟩:=h;have lp:0<low:=by omega
 have em:=emod_add_mul_ediv g low;have m0:=emod_nonneg g (show low≠0 by omega)
 have m1:=emod_lt_of_pos g lp;have q0:0<=g/low:=Int.ediv_nonneg (by omega) (by omega)
 have ec:g/low*low=low*(g/low):=Int.mul_comm _ _;generalize g/low=q at *;refine⟨by omega,by omega,by omega,by omega,d2,?_,?_,-e,L,T+q*L,?_,hL,?_,?_,?_,?_,?_⟩
 ·obtain⟨x,hx⟩:=d1;obtain⟨y,hy⟩:=d2;exact⟨x-q*y,by rw[Int.mul_sub,<-hx,show a*(q*y)=q*(a*y)by grind,<-hy];grind⟩
 ·intro d h1 h2;refine gc d ?_ h1;have:=Int.dvd_add h2 (Int.dvd_trans h1 ⟨q,ec⟩);rw[show g-q*low+q*low=g by omega]at this
  exact this
 ·omega
 ·have:=mul_nonneg q0 hL;omega
 ·rfl
 ·grind
 ·have:low*(T+q*L)+(g-q*low)*L=g*L+low*T:=by grind
  rw[this];exact hs
 ·have:L*1<=L*g:=Int.mul_le_mul_of_nonneg_left g1 hL;have:=mul_nonneg l0 hT;rw[Int.mul_comm L g]at *;omega
theorem bB {x:Int}{e:Nat}(h:x.natAbs<=2^e)(he:e<9000):Sm x:=Sm.pow h he
theorem p3: ∀ds Q,dI ds Q->gQ {nx:=λ_=>Q (.pu .non),rt:=Q} (init ["a","b","g","l","t","r","m"] ds):=by
 rintro ds Q ⟨a,b,rfl,a1,a2,b2,h⟩;unfold gQ;show(aT _ _:US) _ [some (.pu (.int a)),some (.pu (.int b)),none,none,none,none,none];rw[aK];walk_at "u";rw[bP _ (by omega)]
 refine⟨by omega,?_⟩
 unfold iX;rw[aK];walk_at "u";unfold iW;rw[aK];have a600:a.natAbs<=2^600:=by omega
 refine⟨by decide,by decide,by decide,trivial,?_⟩
 refine⟨λk ρ=> ∃g low t later m,ρ=[some (.pu (.int a)),some (.pu (.int b)),some (.pu (.int g)),some (.pu (.int low)),some (.pu (.int t)),some (.pu (.int later)),m]/\k=low.toNat/\EI a b g low t later,⟨_,a,b%a,0,1,none,rfl,rfl,?_⟩,?_⟩
 ·have em:=emod_add_mul_ediv b a;refine⟨a1,emod_nonneg _ (by omega),emod_lt_of_pos _ (by omega),Int.le_refl _,⟨1,by omega⟩,⟨-(b/a),?_⟩,λd h1 h2=>⟨h1,?_⟩,-1,0,1,.inr rfl,by omega,by omega,by omega,by omega,by omega,by omega⟩
  ·rw[mul_neg];omega
  ·have:=Int.dvd_add h2 (Int.dvd_trans h1 (Int.dvd_mul_right a (b/a)));rw[em]at this;exact this
 ·rintro k ρ ⟨g,low,t,later,m,rfl,rfl,I⟩;walk_at "u";have g1:=I.g1;have l0:=I.l0;have lg:=I.lg;have ga:=I.ga;have sg:Sm g:=bB (e:=600) (by omega) (by omega)
  have slow:Sm low:=bB (e:=600) (by omega) (by omega)
  have hst:t.natAbs<=2^600/\later.natAbs<=2^600:=by
   obtain⟨e,T,L,he,hT,hL,ht,hl,hs,hTa⟩:=I.sg;have:L*1<=L*g:=Int.mul_le_mul_of_nonneg_left g1 hL;have:=mul_nonneg l0 hT;rw[Int.mul_comm L g]at *;rcases he with rfl|rfl<;>omega
  by_cases c:low=0
  ·rw[if_neg (by omega)]
   unfold iV;walk_at "u";have ea:g∣a/\g∣b:=I.gc g (Int.dvd_refl _) (by rw[c];exact Int.dvd_zero _)
   have dv:=I.d1;obtain⟨q,hq⟩:=dv;have ed:(g-t*b)/a=q:=by rw[hq,Int.mul_ediv_cancel_left _ (by omega)]
   have sb:(t*b).natAbs<=2^600*2^1000:=by rw[natAbs_mul];exact mul_le_mul hst.1 b2
   have e16:(2:Nat)^600*2^1000=2^1600:=by rw[<-pow_add]
   rw[e16]at sb;have e17:(2:Nat)^600+2^1600<=2^1700:=by decide +kernel
   have gb:g.natAbs<=2^600:=by omega
   have sm1:(g-t*b).natAbs<=2^1700:=by
    have:=Int.natAbs_sub_le g (t*b);generalize (g-t*b).natAbs=x at *;generalize (t*b).natAbs=y at *;omega
   rw[fP _ (by omega),ed]
   refine⟨.inr ⟨bB hst.1 (by omega),bB b2 (by omega)⟩,⟨by omega,bB a600 (by omega)⟩,by decide,h g q t ⟨g1,ea.1,ea.2,?_,hst.1,?_⟩⟩
   ·rw[Int.mul_comm q a];omega
   ·have:q=(g-t*b)/a:=ed.symm;rw[this];exact le_trans (natAbs_ediv_le_natAbs _ _) sm1
  ·rw[if_pos c];have st:=I.step c;unfold gP;rw[aK];walk_at "u";rw[fP _ (by omega)]
   refine⟨⟨by omega,slow⟩,?_⟩
   have qb:(g/low).natAbs<=2^600:=le_trans (natAbs_ediv_le_natAbs _ _) (by omega)
   unfold gO;rw[aK];walk_at "u";refine⟨.inr ⟨bB qb (by omega),slow⟩,?_⟩
   unfold gN;walk_at "u";refine⟨.inr ⟨bB qb (by omega),bB hst.2 (by omega)⟩,_,?_,_,_,_,_,_,rfl,rfl,st⟩
   have:=st.l0;have:=st.lg;omega
def fE:Φ:=λds Q=> ∃(s t m:Int) (n1 n2 k:Nat) (f h:Nat->Int),ds=[.int s,aO (rwF n1 f),.int t,aO (rwF n2 h),.int m,.int (k:Int)]/\k<=n1/\k<=n2/\n1<=100/\n2<=100/\1<=m/\m<=2^600/\s.natAbs<=2^1700/\t.natAbs<=2^1700/\(∀j,(f j).natAbs<=2^1000)/\(∀j,(h j).natAbs<=2^1000)/\Q (.pu (aO (rwF k λj=>(s*f j+t*h j)%m)))
def lK:US:=(gX (b9 d6 (aD (d7 [0,2,4] [none,none,some 0,some 2,some 4,none] 5 (qD (aD (v5 (aC 1) eE (iL (aC 5))) (aD (v5 (aC 3) eE (iL (aC 5))) aR))) (gI (bR 0 (bR 1 gH))) (λρ Q=>Q true ρ) (uOp fU (uOp bS (uOp bQ (aC 2) (aC 0)) (uOp bQ (aC 3) (aC 1))) (aC 4))) aR)))
theorem tR: ∀ds Q,fE ds Q->ds.length=6:=by rintro ds Q ⟨s,t,m,n1,n2,k,f,h,rfl,_⟩;rfl
theorem oD {n k:Nat}{f:Nat->Int}(h:k<=n):cutD ((rwF n f).map D.int) none (some (k:Int))=(rwF k f).map D.int:=by
 rw[a04 _ _ (by rw[aL];exact h),<-map_take]
 congr 1
 unfold rwF;rw[<-map_take,List.take_range,min_eq_left h]
theorem vC: ∀ds Q,fE ds Q->lK {nx:=λ_=>Q (.pu .non),rt:=Q} (init ["s","o","t","h","m","z"] ds):=by
 rintro ds Q ⟨s,t,m,n1,n2,k,f,h,rfl,k1,k2,n1b,n2b,m1,m2,sb,tb,fb,hb,q0⟩;unfold lK;show(gX _:US) _ [some (.pu (.int s)),some (.pu (aO (rwF n1 f))),some (.pu (.int t)),some (.pu (aO (rwF n2 h))),some (.pu (.int m)),some (.pu (.int (k:Int)))];rw[mF,iS,iT];simp only[aO]
 refine fB (t0:=0) (t1:=1) k (λj=>((rwF k f).map D.int).getD j .non) (λj=>((rwF k h).map D.int).getD j .non) [some (.pu (.int s)),some (.pu (.tup ((rwF n1 f).map .int))),some (.pu (.int t)),some (.pu (.tup ((rwF n2 h).map .int))),some (.pu (.int m)),some (.pu (.int (k:Int)))] ?_ (by omega)
  (λx y l=>[x,y,some (.pu (.int s)),some (.pu (.int t)),some (.pu (.int m)),some (.ow l)]) none none rfl (λ_ _ _ _ _=>rfl) (λ_ _ _=>⟨by simp,by simp⟩) (λ_ _ _ _ q=>q) (λ_ _ _ _=>rfl) (λj=> .int ((s*f j+t*h j)%m)) ?_ ?_
 ·intro Q' q;walk_at "u";rw[oD k1,oD k2,aL,aL,min_self];exact q
 ·intro j l Q' hj q;rw[cW hj,cW hj]at q⊢;walk_at "u";rw[bP _ (by omega)]
  exact⟨.inr ⟨bB sb (by omega),bB (fb j) (by omega)⟩,.inr ⟨bB tb (by omega),bB (hb j) (by omega)⟩,by omega,q⟩
 ·walk_at "u"
  rw[eJ];exact q0
structure TOk (n:Nat)(m:Int)(t:Nat->Nat->Int):Prop extends Tri n t where
 m1:1<=m
 m2:m<=2^600
 lo: ∀i j,0<=t i j
 hi: ∀i j,t i j<=m
 all: ∀i,i<n->Gen n (Rows n t) (mE m i)
def dY:Φ:=λds Q=> ∃(n:Nat) (m:Int) (t:Nat->Nat->Int) (f:Nat->Int),ds=[.lst (tbF n n t),.int m,aO (rwF n f)]/\n<=8/\TOk n m t/\(∀j,(f j).natAbs<=2^1000)/\(∀j,n<=j->f j=0)/\ ∀u,TOk n m u->(∀v,Gen n (Rows n u) v↔Gen n (RL n t f) v)->Q (.ow (tbF n n u))
def i0:US:=(bJ 4 (b9 fE (aD (uOp oI (uIx (aP 6) (aC 5)) (aC 7)) (aD (aC 4) (aD (uOp oI (uZ (uIx (aP 4) (aC 5))) (aC 7)) (aD (aC 6) (aD (aC 1) (aD (aC 5) aR))))))))
def i3:US:=(aT (nO 3 (uOp bS (uOp bS (b9 fE (aD (aC 8) (aD (aC 6) (aD (aC 9) (aD (aC 4) (aD (aC 1) (aD (aC 5) aR))))))) (t4 (aD (aC 7) aR))) (v5 (aC 6) (iL (uOp bS (aC 5) (uC (.int 1)))) eE)) (aC 5)) i0)
def i4:US:=(aT (a49 (b9 dI (aD (uIx (aP 6) (aC 5)) (aD (uIx (aP 4) (aC 5)) aR))) (gI (bR 7 (bR 8 (bR 9 gH))))) i3)
def eM:US:=(aT (bJ 6 (uIx (aP 3) (aC 5))) i4)
def jQ:US:=(nN 3)
def jR:US:=(aT (gY (wE (aD (mZ (aP 2)) aR)) (cA 5) eM) jQ)
def jS:US:=(aT (bJ 4 (aC 2)) jR)
def iE:US:=(aT (bJ 3 (b9 hV (aD (aC 0) aR))) jS)
theorem p5: ∀ds Q,dY ds Q->ds.length=3:=by rintro ds Q ⟨n,m,t,f,rfl,_⟩;rfl
theorem a05 {n i:Nat}{u:Nat->Nat->Int}{l:Nat->Int}{m g s t:Int}(hi:i<n)(hz: ∀j,i<j->u i j=0) :
  (rwF i λj=>(s*u i j+t*l j)%m).map D.int++[D.int g]++cutD ((rwF n (u i)).map D.int) (some ((i:Int)+1)) none=(rwF n (eV u l m g s t i i)).map D.int:=by
 rw[show(i:Int)+1=((i+1:Nat):Int)by omega,kF _ _ (by rw[aL];omega)]
 apply ext_getElem?
 intro j
 by_cases h1:j<i
 ·rw[getElem?_append_left (by simp[rwF];omega),getElem?_append_left (by simp[rwF];omega),bM h1,bM (by omega)]
  congr 2
  unfold eV;rw[if_pos rfl,if_pos h1]
 ·by_cases h2:j=i
  ·subst h2;rw[getElem?_append_left (by simp[rwF]),getElem?_append_right (by simp[rwF]),aL,sub_self,bM hi]
   unfold eV;rw[if_pos rfl,if_neg h1,if_pos rfl];rfl
  ·rw[getElem?_append_right (by simp[rwF];omega),getElem?_drop]
   simp only[length_append,aL,length_cons,length_nil];rw[show i+1+(j-(i+1))=j by omega]
   by_cases h3:j<n
   ·rw[bM h3,bM h3,hz j (by omega)]
    unfold eV;rw[if_pos rfl,if_neg h1,if_neg h2]
   ·rw[getElem?_eq_none (by rw[aL];omega),getElem?_eq_none (by rw[aL];omega)]
theorem a74 {n m i:Nat}{u u':Nat->Nat->Int}(hi:i<n)(h: ∀r,r≠i->u' r=u r):(tbF n m u).set i (aO (rwF m (u' i)))=tbF n m u':=by
 apply ext_getElem?
 intro j
 by_cases e:i=j
 ·subst e;rw[aU (by rw[eK];exact hi),mG hi]
 ·rw[get_set_ne e]
  by_cases hj:j<n
  ·rw[mG hj,mG hj,h j (λz=>e z.symm)]
  ·rw[getElem?_eq_none (by rw[eK];omega),getElem?_eq_none (by rw[eK];omega)]
theorem p6:(2:Nat)^600<=2^1000:=pow_le_pow_right (by decide) (by decide)
theorem p6':(2:Int)^600=((2^600:Nat):Int):=by norm_cast
theorem qF: ∀ds Q,dY ds Q->iE {nx:=λ_=>Q (.pu .non),rt:=Q} (init ["a","m","r","f","l","i","h","g","s","t"] ds):=by
 rintro ds Q ⟨n,m,t,f,rfl,n8,ok,fb,fz,h⟩;have m1:=ok.m1;have m2:=ok.m2;rw[p6']at m2;have t6: ∀x:Int,0<=x->x<=m->x.natAbs<=2^600:=λx h1 h2=>by omega
 have t10: ∀x:Int,0<=x->x<=m->x.natAbs<=2^1000:=λx h1 h2=>le_trans (t6 x h1 h2) p6
 unfold iE;show(aT _ _:US) _ [some (.pu (.lst (tbF n n t))),some (.pu (.int m)),some (.pu (aO (rwF n f))),none,none,none,none,none,none,none];rw[aK];walk_at "u";unfold jS;rw[aK];walk_at "u";unfold jR;rw[aK]
 refine bH n (λk=> .int ((n:Int)-1-k)) [some (.pu (.lst (tbF n n t))),some (.pu (.int m)),some (.pu (aO (rwF n f))),some (.ow (tbF n n t)),some (.pu (aO (rwF n f))),none,none,none,none,none] ?_
  (λk ρ=> ∃(u:Nat->Nat->Int) (l:Nat->Int) (x5 x6 x7 x8 x9:Option B),ρ=[some (.pu (.lst (tbF n n t))),some (.pu (.int m)),some (.pu (aO (rwF n f))),some (.ow (tbF n n u)),some (.pu (aO (rwF (n-k) l))),x5,x6,x7,x8,x9]/\Tri n u/\(∀i j,0<=u i j)/\(∀i j,u i j<=m)/\(∀i,i<n-k->u i=t i)/\(∀j,n-k<=j->l j=0)/\(∀j,(l j).natAbs<=2^1000)/\ ∀v,Gen n (RL n u l) v↔Gen n (RL n t f) v)
  ⟨t,f,_,_,_,_,_,rfl,ok.toTri,ok.lo,ok.hi,λ_ _=>rfl,fz,fb,λv=>Iff.rfl⟩ ?_ ?_
 ·intro Q' q;simp only[aO];walk_at "u";rw[aL];refine⟨⟨by omega,by omega⟩,?_⟩
  rw[toNat_natCast];exact q
 ·rintro k ρ hk ⟨u,l,x5,x6,x7,x8,x9,rfl,T,lo,hi',un,lz,lb,G⟩;obtain⟨i,hi⟩: ∃i:Nat,i=n-1-k:=⟨_,rfl⟩;have hin:i<n:=by omega
  have eN:n-k=i+1:=by omega
  have eN':n-(k+1)=i:=by omega
  have ei:(n:Int)-1-(k:Int)=(i:Int):=by omega
  rw[eN]at un lz⊢;rw[ei];refine⟨by simp,?_⟩
  show eM _ [some (.pu (.lst (tbF n n t))),some (.pu (.int m)),some (.pu (aO (rwF n f))),some (.ow (tbF n n u)),some (.pu (aO (rwF (i+1) l))),some (.pu (.int (i:Int))),x6,x7,x8,x9]
  have e1:atI (tbF n n u) (i:Int)=some (aO (rwF n (u i))):=oY hin;have e2:atI ((rwF n (u i)).map D.int) (i:Int)=some (.int (u i i)):=gM hin;have e3:atI ((rwF (i+1) l).map D.int) (i:Int)=some (.int (l i)):=gM (by omega)
  unfold eM;rw[aK];walk_at "u";simp only[e1];have dg:=T.pos i hin;have dh:=hi' i i;unfold i4;rw[aK];simp only[aO];walk_at "u";simp only[e2,e3];refine⟨u i i,l i,rfl,dg,by rw[p6'];omega,lb i,λg s t' gs=> ?_⟩
  obtain⟨g1,⟨A,hA⟩,⟨B,hB⟩,heq,tb,sb⟩:=gs;refine⟨by simp,by simp,by simp,rfl,?_⟩
  have hd:s*A+t'*B=1:=by
   have:g*(s*A+t'*B)=g*1:=by
    rw[mul_one];have:g*(s*A+t'*B)=s*(g*A)+t'*(g*B):=by grind
    rw[this,<-hA,<-hB];exact heq.symm
   exact Int.eq_of_mul_eq_mul_left (by omega) this
  have gle:g<=u i i:=by
   have:g∣u i i:=⟨A,hA⟩;exact le_of_dvd (by omega) this
  have dA:u i i/g=A:=by rw[hA,Int.mul_ediv_cancel_left _ (by omega)]
  have dB:(-l i)/g= -B:=by rw[hB,show -(g*B)=g*(-B)by rw[mul_neg],Int.mul_ediv_cancel_left _ (by omega)]
  have Ab:A.natAbs<=2^1700:=by
   rw[<-dA];exact le_trans (natAbs_ediv_le_natAbs _ _) (le_trans (t6 _ (lo i i) dh) (pow_le_pow_right (by decide) (by decide)))
  have Bb:(-B).natAbs<=2^1700:=by
   rw[<-dB];refine le_trans (natAbs_ediv_le_natAbs _ _) ?_;rw[Int.natAbs_neg];exact le_trans (lb i) (pow_le_pow_right (by decide) (by decide))
  have sg:Sm g:=bB (t6 g (by omega) (by omega)) (by omega)
  unfold i3;rw[aK];walk_at "u";refine⟨s,t',m,n,i+1,i,u i,l,rfl,by omega,by omega,by omega,by omega,m1,by rw[p6'];omega,sb,le_trans tb (pow_le_pow_right (by decide) (by decide)),λj=>t10 _ (lo i j) (hi' i j),lb,?_⟩
  simp only[aO];walk_at "u";have hz: ∀j,i<j->u i j=0:=λj hj=>T.zero i hin j hj
  have lz': ∀j,i<j->l j=0:=λj hj=>lz j (by omega)
  have hE: ∀j,j<i->Gen n (Rows i u) (mE m j):=λj hj=>by
   have g0:=ok.toTri.gen_cut (ok.all j (by omega)) (i:=i) (by omega) λq h1 h2=>if_neg (by omega)
   exact g0.mono λr ⟨q,hq,e⟩=> .base ⟨q,hq,by rw[un q (by omega)];exact e⟩
  obtain⟨T',G'⟩:=a73 (m:=m) hin T hE lz' hA hB hd g1;have nr: ∀r,r≠i->eV u l m g s t' i r=u r:=λr hr=>by funext j;exact if_neg hr
  have cl:(cutD ((rwF n (u i)).map D.int) (some ((i:Int)+1)) none).length<=n:=by
   rw[show(i:Int)+1=((i+1:Nat):Int)by omega,kF _ _ (by rw[aL];omega),length_drop,aL]
   omega
  have big:(100:Nat)<=sizeLine:=by decide
  refine⟨by decide,by rw[aL];omega,by rw[length_append,aL];simp only[length_cons,length_nil];omega,?_⟩
  rw[eK,jD hin];dsimp only;rw[a05 hin hz];have es:(tbF n n u).set i (D.tup ((rwF n (eV u l m g s t' i i)).map D.int))=tbF n n (eV u l m g s t' i):=a74 hin nr;rw[es];unfold i0;walk_at "u";simp only[e2,e3];rw[fP _ (by omega),fP _ (by omega),dA,dB]
  refine⟨⟨by omega,sg⟩,⟨by omega,sg⟩,A,-B,m,i+1,n,i,l,u i,rfl,by omega,by omega,by omega,by omega,m1,by rw[p6'];omega,Ab,Bb,lb,λj=>t10 _ (lo i j) (hi' i j),?_⟩
  have mm: ∀x:Int,0<=x%m/\x%m<m:=λx=>⟨emod_nonneg _ (by omega),emod_lt_of_pos _ (by omega)⟩
  have rb: ∀r j,0<=eV u l m g s t' i r j/\eV u l m g s t' i r j<=m:=λr j=>by
   by_cases e:r=i
   ·subst e;unfold eV;rw[if_pos rfl];split
    ·have:=mm (s*u r j+t'*l j);omega
    ·split<;>omega
   ·rw[nr r e];exact⟨lo r j,hi' r j⟩
  refine⟨eV u l m g s t' i,lJ u l m A B i,some (.pu (.int (i:Int))),some (.pu (.tup ((rwF n (u i)).map .int))),some (.pu (.int g)),some (.pu (.int s)),some (.pu (.int t')),?_,T',λr j=>(rb r j).1,λr j=>(rb r j).2,?_,?_,?_,λv=>(G' v).trans (G v)⟩
  ·rw[eN'];simp only[aO];rw[show rwF i (lJ u l m A B i)=rwF i (λj=>(A*l j+ -B*u i j)%m)from nG λj hj=>if_pos hj]
  ·intro r hr;rw[eN']at hr;rw[nr r (by omega),un r (by omega)]
  ·intro j hj;rw[eN']at hj;exact if_neg (by omega)
  ·intro j;unfold lJ;split
   ·have:=mm (A*l j+ -B*u i j);exact t10 _ (by omega) (by omega)
   ·exact zero_le _
 ·rintro ρ ⟨u,l,x5,x6,x7,x8,x9,rfl,T,lo,hi',un,lz,lb,G⟩;unfold jQ;walk_at "u";have l0:l=λ_=>0:=by funext j;exact lz j (by omega)
  have G2: ∀v,Gen n (Rows n u) v↔Gen n (RL n t f) v:=λv=>by
   rw[<-G v];exact⟨Gen.mono λr hr=> .base (.inl hr),Gen.mono λr hr=>hr.elim .base λe=>by rw[e,l0];exact .zero⟩
  refine h u ⟨T,m1,ok.m2,lo,hi',λi hi=>(G2 _).mpr ((ok.all i hi).mono λr hr=> .base (.inl hr))⟩ G2
def d9 (t:Nat->Nat->Int)(i:Nat)(f:Nat->Int):Nat->Int:=λj=>f j-(f i/t i i)*t i j
def cP (t:Nat->Nat->Int):Nat->(Nat->Int)->Nat->Int
 | 0,f=>f
 | i+1,f=>cP t i (d9 t i f)
theorem i5 {n:Nat}{t:Nat->Nat->Int}(S:Tri n t): ∀(i:Nat) (f:Nat->Int),i<=n-> ∀j,i<=j->cP t i f j=f j
 | 0,f,_,j,_=>rfl
 | i+1,f,hi,j,hj=>by
  show cP t i (d9 t i f) j=f j
  rw[i5 S i _ (by omega) j (by omega)]
  unfold d9;rw[S.zero i (by omega) j (by omega)]
  omega
theorem nP {n:Nat}{t:Nat->Nat->Int}(S:Tri n t): ∀(i:Nat) (f:Nat->Int),i<=n-> ∀j,j<i->0<=cP t i f j/\cP t i f j<t j j
 | i+1,f,hi,j,hj=>by
  show 0<=cP t i (d9 t i f) j/\cP t i (d9 t i f) j<t j j
  by_cases e:j=i
  ·subst e;rw[i5 S j _ (by omega) j (le_refl _)]
   have hp:=S.pos j (by omega)
   have h1:=emod_nonneg (f j) (show t j j≠0 by omega)
   have h2:=emod_lt_of_pos (f j) (show 0<t j j by omega)
   have h3:d9 t j f j=f j%t j j:=by
    have:=emod_add_mul_ediv (f j) (t j j);unfold d9;rw[Int.mul_comm (f j/t j j)];omega
   rw[h3];exact⟨h1,h2⟩
  ·exact nP S i _ (by omega) j (by omega)
theorem rF {n:Nat}{t:Nat->Nat->Int}: ∀(i:Nat) (f:Nat->Int),Gen n (Rows i t) λj=>f j-cP t i f j
 | 0,f=>Gen.zero.cong λj _=>by show(0:Int)=f j-f j;omega
 | i+1,f=>by
  have h1:Gen n (Rows (i+1) t) λj=>d9 t i f j-cP t i (d9 t i f) j:=(rF i (d9 t i f)).mono λr ⟨q,hq,e⟩=> .base ⟨q,by omega,e⟩
  have h2:Gen n (Rows (i+1) t) (t i):= .base ⟨i,by omega,rfl⟩
  refine(h1.comb (f i/t i i) h2).cong λj _=> ?_
  show d9 t i f j-cP t i (d9 t i f) j+f i/t i i*t i j=f j-cP t i (d9 t i f) j
  unfold d9;omega
theorem nQ {t:Nat->Nat->Int}{g:Nat->Int}{i b:Nat}(ht: ∀j,(t i j).natAbs<=2^600)(hg: ∀j,(g j).natAbs<=2^b): ∀j,(d9 t i g j).natAbs<=2^(b+601):=by
 intro j;unfold d9;have h1:=hg j;have h2:(g i/t i i).natAbs<=2^b:=le_trans (natAbs_ediv_le_natAbs _ _) (hg i);have h3:((g i/t i i)*t i j).natAbs<=2^b*2^600:=by rw[natAbs_mul];exact mul_le_mul h2 (ht j)
 have h4:(g j-(g i/t i i)*t i j).natAbs<=(g j).natAbs+((g i/t i i)*t i j).natAbs:=Int.natAbs_sub_le _ _;have e:2^(b+601)=2^b*2^600+2^b*2^600:=by
  rw[show b+601=b+600+1 from rfl,Nat.pow_succ,pow_add];omega
 have h5:2^b<=2^b*2^600:=Nat.le_mul_of_pos_right _ (Nat.pow_pos (by decide))
 generalize 2^b*2^600=X at *;generalize 2^b=Y at *;generalize 2^(b+601)=Z at *;omega
def iY:Φ:=λds Q=> ∃(i n:Nat) (t:Nat->Nat->Int) (f:Nat->Int),ds=[.lst (tbF i n t),aO (rwF i f)]/\i<=n/\n<=8/\(∀r,r<i->0<t r r)/\(∀r j,(t r j).natAbs<=2^600)/\(∀j,(f j).natAbs<=2^600)/\Q (.pu (aO (rwF i (cP t i f))))
def kZ:US:=(bJ 2 (b9 d6 (aD (d7 [4] [none,none,some 4,none] 3 (qD (aD (aC 2) (aD (uIx (aP 0) (aC 3)) aR))) (gI (bR 0 (bR 1 gH))) (λρ Q=>Q true ρ) (uOp M.gSub (aC 0) (uOp bQ (aC 2) (aC 1)))) aR)))
def iF:US:=(aT (bJ 4 (uOp oI (uIx (aP 2) (aC 3)) (uIx (uV (uIx (aP 0) (aC 3))) (aC 3)))) kZ)
def nR:US:=(nN 2)
def nS:US:=(aT (gY (wE (aD (mZ (aP 1)) aR)) (cA 3) iF) nR)
def nH:US:=(aT (bJ 2 (aC 1)) nS)
theorem vD: ∀ds Q,iY ds Q->ds.length=2:=by rintro ds Q ⟨n,b,t,f,rfl,_⟩;rfl
theorem xM: ∀ds Q,iY ds Q->nH {nx:=λ_=>Q (.pu .non),rt:=Q} (init ["t","r","l","i","m"] ds):=by
 rintro ds Q ⟨I,n,t,f,rfl,hI,n8,tp,tb,fb,h⟩;unfold nH;show(aT _ _:US) _ [some (.pu (.lst (tbF I n t))),some (.pu (aO (rwF I f))),none,none,none];walk_at "u";unfold nS;rw[aK];refine bH I (λk=> .int (((I:Int))-1-k)) [some (.pu (.lst (tbF I n t))),some (.pu (aO (rwF I f))),some (.pu (aO (rwF I f))),none,none] ?_
  (λk ρ=> ∃g x y,ρ=[some (.pu (.lst (tbF I n t))),some (.pu (aO (rwF I f))),some (.pu (aO (rwF I g))),x,y]/\cP t (I-k) g=cP t I f/\ ∀j,(g j).natAbs<=2^(600+601*k)) ⟨f,none,none,rfl,rfl,λj=>fb j⟩ ?_ ?_
 ·intro Q' q;simp only[aO];walk_at "u";rw[aL];refine⟨⟨by omega,by omega⟩,?_⟩
  rw[toNat_natCast];exact q
 ·rintro k ρ hk ⟨g,x,y,rfl,hr,hb⟩;obtain⟨i,hi⟩: ∃i:Nat,i=I-1-k:=⟨_,rfl⟩;have hin:i<I:=by omega
  have ei:(I:Int)-1-(k:Int)=(i:Int):=by omega
  have hpos:=tp i hin;rw[ei];refine⟨by simp,?_⟩
  show iF _ [some (.pu (.lst (tbF I n t))),some (.pu (aO (rwF I f))),some (.pu (aO (rwF I g))),some (.pu (.int (i:Int))),y]
  unfold iF;rw[aK];have e1:atI ((rwF I g).map D.int) (i:Int)=some (.int (g i)):=gM hin;have e2:atI (tbF I n t) (i:Int)=some (.tup ((rwF n (t i)).map .int)):=oY hin;have e3:atI ((rwF n (t i)).map D.int) (i:Int)=some (.int (t i i)):=gM (by omega)
  simp only[aO];walk_at "u";simp only[e1,e2,e3];rw[fP _ hpos];refine⟨⟨by omega,bB (tb i i) (by omega)⟩,?_⟩
  unfold kZ;rw[kP,iS,iT];refine fB (t0:=0) (t1:=1) I (λj=>((rwF I g).map D.int).getD j .non) (λj=>((rwF n (t i)).map D.int).getD j .non) [some (.pu (.lst (tbF I n t))),some (.pu (.tup ((rwF I f).map .int))),some (.pu (.tup ((rwF I g).map .int))),some (.pu (.int (i:Int))),some (.pu (.int (g i/t i i)))] ?_ (by omega)
   (λx y l=>[x,y,some (.pu (.int (g i/t i i))),some (.ow l)]) none none rfl (λ_ _ _ _ _=>rfl) (λ_ _ _=>⟨by simp,by simp⟩) (λ_ _ _ _ q=>q) (λ_ _ _ _=>rfl) (λj=> .int (d9 t i g j)) ?_ ?_
  ·intro Q' q;walk_at "u";rw[e2];walk_at "u";rw[aL,aL,min_eq_left hI];exact q
  ·intro j l Q' hj q;rw[cW hj,cW (by omega)]at q⊢
   walk_at "u"
   refine⟨.inr ⟨bB (le_trans (natAbs_ediv_le_natAbs _ _) (hb i)) (by omega),bB (tb i j) (by decide)⟩,?_⟩
   exact q
  ·walk_at "u"
   rw[eJ];refine⟨d9 t i g,_,_,rfl,?_,λj=> ?_⟩
   ·rw[<-hr,show I-k=i+1 by omega,show I-(k+1)=i by omega]
    rfl
   ·have:=nQ (i:=i) (tb i) hb j;rw[show 600+601*(k+1)=600+601*k+601 by omega]
    exact this
 ·rintro ρ ⟨g,x,y,rfl,hr,hb⟩;unfold nR;walk_at "u";rw[sub_self]at hr;have:g=cP t I f:=hr;rw[this];exact h
def fnL (l:List Int):Nat->Int:=λj=>l.getD j 0
theorem wN {l:List Int}{n:Nat}(h:l.length=n):aO l=aO (rwF n (fnL l)):=by
 rw[<-h];exact congrArg aO (rwF_of l)
theorem tS {l:List Int}{n:Nat}(h:l.length=n): ∀j,n<=j->fnL l j=0:=λj hj=>by
 unfold fnL;rw[getD_eq_getElem?_getD,getElem?_eq_none (by omega)]
 rfl
theorem xN {l:List Int}{b:Nat}(h: ∀x∈l,x.natAbs<=b): ∀j,(fnL l j).natAbs<=b:=λj=>by
 unfold fnL;rw[getD_eq_getElem?_getD];cases e:l[j]? with
 | none=>exact zero_le _
 | some x=>exact h x (mem_of_getElem? e)
def LR (L:List (List Int))(v:Nat->Int):Prop:= ∃l∈L,v=fnL l
structure LOk (n:Nat)(L:List (List Int)):Prop where
 len: ∀l∈L,l.length=n
 sm: ∀l∈L,∀x∈l,x.natAbs<=2^1000
 few:L.length<=1000
structure SOk (n:Nat)(m:Int)(L:List (List Int))(T:Nat->Nat->Int):Prop where
 st:rE n T
 gen: ∀v,Gen n (Rows n T) v↔Gen n (RM n m (LR L)) v
def fF:Φ:=λds Q=> ∃(n:Nat) (m:Int) (L:List (List Int)),ds=[.int (n:Int),.int m,.lst (L.map aO)]/\1<=n/\n<=8/\1<=m/\m<=2^600/\LOk n L/\ ∀T,SOk n m L T->Q (.pu (.tup (tbF n n T)))
def mI:US:=(gX (b9 d6 (aD (aC 5) aR)))
def mJ:US:=(aT (gY (zK (aD (aC 3) aR)) (gI (bR 6 (bR 4 gH))) (jV 5 (uOp bS (lH (b9 iY (aD (aC 5) (aD (v5 (aC 4) eE (iL (aC 6))) aR)))) (v5 (aC 4) (iL (aC 6)) eE)))) mI)
def mK:US:=(aT (bJ 5 (eS aR)) mJ)
def jE:US:=(aT (gY (jO (aC 2)) (cA 4) (bJ 3 (b9 dY (aD (aC 3) (aD (aC 1) (aD (aC 4) aR)))))) mK)
def lL:US:=(aT (bJ 3 (d7 [1,0] [none,some 1,some 0,none] 3 (eW (aD (aC 0) aR)) (cA 0) (λρ Q=>Q true ρ) (uOp bS (uOp bS (uOp tJ (t4 (aD (uC (.int 0)) aR)) (aC 0)) (t4 (aD (aC 1) aR))) (uOp tJ (t4 (aD (uC (.int 0)) aR)) (uOp M.gSub (uOp M.gSub (aC 2) (aC 0)) (uC (.int 1))))))) jE)
theorem tT: ∀ds Q,fF ds Q->ds.length=3:=by rintro ds Q ⟨n,m,L,rfl,_⟩;rfl
theorem p7 {n i:Nat}{m:Int}(hi:i<n):((replicate i [D.int 0]).flatten++[D.int m]++(replicate (n-i-1) [D.int 0]).flatten:List D)=(rwF n (mE m i)).map .int:=by
 rw[fQ,fQ];apply ext_getElem?;intro j
 by_cases h1:j<i
 ·rw[getElem?_append_left (by simp;omega),getElem?_append_left (by simp;exact h1),bM (by omega),getElem?_map,getElem?_replicate,if_pos h1]
  show _=some (D.int (mE m i j))
  rw[show mE m i j=0 from if_neg (by omega)]
  rfl
 ·by_cases h2:j=i
  ·subst h2;rw[getElem?_append_left (by simp),getElem?_append_right (by simp),bM hi,length_map,length_replicate,sub_self]
   show _=some (D.int (mE m j j))
   rw[show mE m j j=m from if_pos rfl]
   rfl
  ·rw[getElem?_append_right (by simp;omega)]
   simp only[length_append,length_map,length_replicate,length_cons,length_nil];rw[getElem?_map,getElem?_replicate]
   by_cases h3:j<n
   ·rw[if_pos (by omega),bM h3]
    show _=some (D.int (mE m i j))
    rw[show mE m i j=0 from if_neg h2]
    rfl
   ·rw[if_neg (by omega),getElem?_eq_none (by rw[aL];omega)]
    rfl
theorem wO {n:Nat}{m:Int}(m1:1<=m)(m2:m<=2^600):TOk n m (mE m)/\ ∀v,Gen n (Rows n (mE m)) v↔Gen n (RM n m (LR [])) v:=by
 have z: ∀i j,0<=mE m i j/\mE m i j<=m:=λi j=>by unfold mE;split<;>omega
 refine⟨⟨⟨λi hi=>by rw[show mE m i i=m from if_pos rfl];exact m1,λi hi j hj=>if_neg (by omega)⟩,m1,m2,λi j=>(z i j).1,λi j=>(z i j).2,λi hi=> .base ⟨i,hi,rfl⟩⟩,λv=>⟨Gen.mono λr ⟨i,hi,e⟩=> .base (.inr ⟨i,hi,e⟩),Gen.mono λr hr=> ?_⟩⟩
 rcases hr with⟨l,hl,_⟩| ⟨i,hi,e⟩
 ·cases hl
 ·exact .base ⟨i,hi,e⟩
theorem tU {n:Nat}{m:Int}{t u:Nat->Nat->Int}{L:List (List Int)}{l:List Int}(ok:TOk n m t)(g: ∀v,Gen n (Rows n t) v↔Gen n (RM n m (LR L)) v)(h: ∀v,Gen n (Rows n u) v↔Gen n (RL n t (fnL l)) v): ∀v,Gen n (Rows n u) v↔Gen n (RM n m (LR (L++[l]))) v:=by
 intro v;rw[h v];constructor
 ·refine Gen.mono λr hr=> ?_
  rcases hr with hr|rfl
  ·exact((g r).mp (.base hr)).mono λs hs=> .base (hs.imp (λ⟨q,hq,e⟩=>⟨q,mem_append_left _ hq,e⟩) id)
  ·exact .base (.inl ⟨l,mem_append_right _ (List.mem_singleton.mpr rfl),rfl⟩)
 ·refine Gen.mono λr hr=> ?_
  rcases hr with⟨q,hq,rfl⟩|hr
  ·rcases List.mem_append.mp hq with hq|hq
   ·exact((g _).mpr (.base (.inl ⟨q,hq,rfl⟩))).mono λs hs=> .base (.inl hs)
   ·rw[List.mem_singleton.mp hq];exact .base (.inr rfl)
  ·exact((g r).mpr (.base (.inr hr))).mono λs hs=> .base (.inl hs)
def bT (t:Nat->Nat->Int):Nat->Nat->Nat->Int
 | 0=>λ_ _=>0
 | i+1=>λr=>if r=i then cP (bT t i) i (t i)else bT t i r
theorem mL (t:Nat->Nat->Int): ∀{i r:Nat},r<i->bT t i r=cP (bT t r) r (t r)
 | i+1,r,h=>by
  show(if r=i then cP (bT t i) i (t i)else bT t i r)=_
  by_cases e:r=i
  ·rw[if_pos e,e]
  ·rw[if_neg e];exact mL t (by omega)
theorem a75 (t:Nat->Nat->Int){i k r:Nat}(h:r<i)(h2:r<k):bT t i r=bT t k r:=by rw[mL t h,mL t h2]
structure FOk (n i:Nat)(m:Int)(t T:Nat->Nat->Int):Prop where
 tri:Tri i T
 ahead: ∀r,r<i-> ∀j,j<r->0<=T r j/\T r j<T j j
 dg: ∀r,r<i->T r r=t r r
 bd: ∀r j,(T r j).natAbs<=2^600
 gen: ∀v,Gen n (Rows i T) v↔Gen n (Rows i t) v
theorem p8 {n:Nat}{m:Int}{t:Nat->Nat->Int}(ok:TOk n m t)(m2:m.natAbs<=2^600): ∀i,i<=n->FOk n i m t (bT t i)
 | 0,_=>⟨⟨λi hi=>absurd hi (not_lt_zero _),λi hi=>absurd hi (not_lt_zero _)⟩,λr hr=>absurd hr (not_lt_zero _),λr hr=>absurd hr (not_lt_zero _),λr j=>zero_le _,λv=>⟨Gen.mono λr ⟨q,hq,_⟩=>absurd hq (not_lt_zero _),Gen.mono λr ⟨q,hq,_⟩=>absurd hq (not_lt_zero _)⟩⟩
 | i+1,hi=>by
  have F:=p8 ok m2 i (by omega)
  have new:bT t (i+1) i=cP (bT t i) i (t i):=if_pos rfl;have old: ∀r,r≠i->bT t (i+1) r=bT t i r:=λr hr=>if_neg hr
  have ab: ∀j,i<=j->cP (bT t i) i (t i) j=t i j:=i5 F.tri i (t i) (le_refl _);have rg: ∀j,j<i->0<=cP (bT t i) i (t i) j/\cP (bT t i) i (t i) j<bT t i j j:=nP F.tri i (t i) (le_refl _);have tt: ∀r j,(t r j).natAbs<=2^600:=λr j=>by have:=ok.lo r j;have:=ok.hi r j;omega
  have g1:Gen n (Rows i (bT t i)) λj=>t i j-bT t (i+1) i j:=by rw[new];exact rF i (t i)
  refine⟨⟨λr hr=> ?_,λr hr j hj=> ?_⟩,λr hr j hj=> ?_,λr hr=> ?_,λr j=> ?_,λv=>⟨Gen.mono λq hq=> ?_,Gen.mono λq hq=> ?_⟩⟩
  ·by_cases e:r=i
   ·subst e;rw[new,ab r (le_refl _)];exact ok.pos r (by omega)
   ·rw[old r e];exact F.tri.pos r (by omega)
  ·by_cases e:r=i
   ·subst e;rw[new,ab j (by omega)];exact ok.zero r (by omega) j hj
   ·rw[old r e];exact F.tri.zero r (by omega) j hj
  ·by_cases e:r=i
   ·subst e;rw[new,old j (by omega)]
    exact rg j hj
   ·rw[old r e,old j (by omega)];exact F.ahead r (by omega) j hj
  ·by_cases e:r=i
   ·subst e;rw[new,ab r (le_refl _)]
   ·rw[old r e];exact F.dg r (by omega)
  ·by_cases e:r=i
   ·subst e;rw[new]
    by_cases hj:j<r
    ·have:=rg j hj;have:=F.bd j j;omega
    ·rw[ab j (by omega)];exact tt r j
   ·rw[old r e];exact F.bd r j
  ·obtain⟨r,hr,rfl⟩:=hq
   by_cases e:r=i
   ·subst e;have h1:Gen n (Rows (r+1) t) λj=>t r j-bT t (r+1) r j:=((F.gen _).mp g1).mono λs ⟨q,hq,e⟩=> .base ⟨q,by omega,e⟩
    have h2:Gen n (Rows (r+1) t) (t r):= .base ⟨r,by omega,rfl⟩
    exact(h2.sub h1).cong λj _=>by omega
   ·rw[old r e];exact((F.gen _).mp (.base ⟨r,by omega,rfl⟩)).mono λs ⟨q,hq,e⟩=> .base ⟨q,by omega,e⟩
  ·obtain⟨r,hr,rfl⟩:=hq;have up: ∀{v},Gen n (Rows i (bT t i)) v->Gen n (Rows (i+1) (bT t (i+1))) v:=λh=>h.mono λs ⟨q,hq,e⟩=> .base ⟨q,by omega,by rw[old q (by omega)];exact e⟩
   by_cases e:r=i
   ·subst e;have h2:Gen n (Rows (r+1) (bT t (r+1))) (bT t (r+1) r):= .base ⟨r,by omega,rfl⟩
    exact(h2.add (up g1)).cong λj _=>by omega
   ·exact up ((F.gen _).mpr (.base ⟨r,by omega,rfl⟩))
theorem a76 {n i:Nat}{t:Nat->Nat->Int}{f:Nat->Int}(hi:i<=n)(h: ∀j,i<=j->f j=t i j):(rwF i f).map D.int++cutD ((rwF n (t i)).map D.int) (some (i:Int)) none=(rwF n f).map D.int:=by
 rw[kF _ _ (by rw[aL];exact hi)]
 apply ext_getElem?
 intro j
 by_cases h1:j<i
 ·rw[getElem?_append_left (by rw[aL];exact h1),bM h1,bM (by omega)]
 ·rw[getElem?_append_right (by rw[aL];omega),aL,getElem?_drop,show i+(j-i)=j by omega]
  by_cases h2:j<n
  ·rw[bM h2,bM h2,h j (by omega)]
  ·rw[getElem?_eq_none (by rw[aL];omega),getElem?_eq_none (by rw[aL];omega)]
theorem tV {n m i:Nat}{t:Nat->Nat->Int}(h:i<n):(tbF n m t).getD i .non=aO (rwF m (t i)):=by rw[getD_eq_getElem?_getD,mG h];rfl
theorem vE (l:List Int):D.nl (.tup (l.map D.int))=true:=by
 simp only[D.nl];exact tK l
theorem vF: ∀ds Q,fF ds Q->lL {nx:=λ_=>Q (.pu .non),rt:=Q} (init ["k","m","r","t","w","b","i"] ds):=by
 rintro ds Q ⟨n,m,L,rfl,n1,n8,m1,m2,ok,h⟩;have big:(10000:Nat)<=sizeLine:=by decide
 unfold lL;show(aT _ _:US) _ [some (.pu (.int (n:Int))),some (.pu (.int m)),some (.pu (.lst (L.map aO))),none,none,none,none];rw[aK,kP]
 refine e9 (t0:=0) n (λk=> .int (0+(k:Int))) [some (.pu (.int (n:Int))),some (.pu (.int m)),some (.pu (.lst (L.map aO))),none,none,none,none] ?_ (by omega) (λx l=>[x,some (.pu (.int m)),some (.pu (.int (n:Int))),some (.ow l)]) none rfl (λ_ _ _=>rfl) (λ_ _=>zero_lt_succ _) (λ_ _ _ q=>q) (λ_ _ _=>rfl) (λk=>aO (rwF n (mE m k))) ?_ ?_
 ·intro Q' q;walk_at "u";refine⟨⟨by omega,by omega⟩,?_⟩
  rw[toNat_natCast];exact q
 ·intro k l Q' hk q;walk_at "u";have e1:(0+(k:Int)).toNat=k:=by omega
  have e2:((n:Int)-(0+(k:Int))-1).toNat=n-k-1:=by omega
  rw[e1,e2];have er:=p7 (m:=m) hk;have el:=congrArg length er;rw[aL]at el;simp only[length_append,length_cons,length_nil]at el;refine⟨by omega,⟨by simp,by omega,by omega,by omega⟩,by omega,by omega,by omega,⟨by simp,by omega,by omega,by omega⟩,?_,?_⟩
  ·simp only[length_append,length_cons,length_nil];omega
  ·rw[er];exact q
 show jE _ [some (.pu (.int (n:Int))),some (.pu (.int m)),some (.pu (.lst (L.map aO))),some (.ow (tbF n n (mE m))),none,none,none]
 unfold jE;rw[aK];obtain⟨ok0,g0⟩:=wO (n:=n) m1 m2;refine bH (L.map aO).length (λi=>(L.map aO).getD i .non) [some (.pu (.int (n:Int))),some (.pu (.int m)),some (.pu (.lst (L.map aO))),some (.ow (tbF n n (mE m))),none,none,none] ?_
  (λi ρ=> ∃(t:Nat->Nat->Int) (x4:Option B),ρ=[some (.pu (.int (n:Int))),some (.pu (.int m)),some (.pu (.lst (L.map aO))),some (.ow (tbF n n t)),x4,none,none]/\TOk n m t/\ ∀v,Gen n (Rows n t) v↔Gen n (RM n m (LR (L.take i))) v)
  ⟨_,none,rfl,ok0,g0⟩ ?_ ?_
 ·intro Q' q;walk_at "u";exact q
 ·rintro i ρ hi ⟨t,x4,rfl,okt,gt⟩;rw[length_map]at hi;have hm:=getElem_mem hi;have ei:(L.map aO).getD i .non=aO L[i]:=by rw[getD_eq_getElem?_getD,getElem?_map,getElem?_eq_getElem hi];rfl
  rw[ei];refine⟨by simp,?_⟩
  walk_at "u"
  refine⟨n,m,t,fnL L[i],by rw[<-wN (ok.len _ hm)],n8,okt,xN (ok.sm _ hm),tS (ok.len _ hm),λu oku gu=>⟨u,_,rfl,oku,?_⟩⟩
  have:=tU okt gt gu;rw[take_succ,getElem?_eq_getElem hi];exact this
 ·rintro ρ ⟨t,x4,rfl,okt,gt⟩;rw[length_map,take_of_length_le (le_refl _)]at gt;have m2':m.natAbs<=2^600:=by rw[p6']at m2;omega
  try dsimp only
  unfold mK;rw[aK];walk_at "u";refine⟨by omega,?_⟩
  unfold mJ;rw[aK];refine bH (tbF n n t).length (λi=> .tup [.int (i:Int),(tbF n n t).getD i .non]) [some (.pu (.int (n:Int))),some (.pu (.int m)),some (.pu (.lst (L.map aO))),some (.pu (.lst (tbF n n t))),x4,some (.ow []),none] ?_
   (λi ρ=> ∃(x4 x6:Option B),ρ=[some (.pu (.int (n:Int))),some (.pu (.int m)),some (.pu (.lst (L.map aO))),some (.pu (.lst (tbF n n t))),x4,some (.ow (tbF i n (bT t i))),x6]) ⟨_,_,rfl⟩ ?_ ?_
  ·intro Q' q;walk_at "u";exact q
  ·rintro i ρ hi ⟨y4,x6,rfl⟩;rw[eK]at hi;rw[tV hi];have F:=p8 okt m2' i (by omega)
   refine⟨by simp,by simp,rfl,?_⟩
   show(jV 5 _:US) _ [some (.pu (.int (n:Int))),some (.pu (.int m)),some (.pu (.lst (L.map aO))),some (.pu (.lst (tbF n n t))),some (.pu (aO (rwF n (t i)))),some (.ow (tbF i n (bT t i))),some (.pu (.int (i:Int)))]
   simp only[aO];walk_at "u";rw[oD (by omega)]
   refine⟨i,n,bT t i,t i,rfl,by omega,n8,λr hr=>by have:=F.tri.pos r hr;omega,F.bd,λj=>by have:=okt.lo i j;have:=okt.hi i j;omega,?_⟩
   simp only[aO];have ab: ∀j,i<=j->cP (bT t i) i (t i) j=t i j:=i5 F.tri i (t i) (le_refl _);have er:=a76 (f:=cP (bT t i) i (t i)) (n:=n) (by omega) ab
   have el:=congrArg length er;rw[length_append,aL,aL]at el;refine⟨vE _,by rw[aL];omega,by rw[eK];omega,some (.pu (.tup ((rwF n (t i)).map .int))),some (.pu (.int (i:Int))),?_⟩
   rw[er];have:=tP i n (bT t i) (cP (bT t i) i (t i));rw[aO]at this;rw[this];rfl
  ·rintro ρ ⟨y4,x6,rfl⟩;rw[eK];unfold mI;walk_at "u";have F:=p8 okt m2' n (le_refl _);exact h _ ⟨⟨F.tri,F.ahead⟩,λv=>(F.gen v).trans (gt v)⟩
def tbL (n m:Nat)(t:Nat->Nat->Int):List D:=(List.range n).map λi=> .lst ((rwF m (t i)).map .int)
theorem kQ (n m:Nat)(t:Nat->Nat->Int):(tbL n m t).length=n:=by simp[tbL]
theorem mM {n m i:Nat}{t:Nat->Nat->Int}(h:i<n):(tbL n m t)[i]? =some (.lst ((rwF m (t i)).map .int)):=by simp[tbL,h]
theorem vG {n m i:Nat}{t:Nat->Nat->Int}(h:i<n):atI (tbL n m t) (i:Int)=some (.lst ((rwF m (t i)).map .int)):=d3 (mM h)
theorem wP {n m i:Nat}{u u':Nat->Nat->Int}(hi:i<n)(h: ∀r,r≠i->u' r=u r):(tbL n m u).set i (.lst ((rwF m (u' i)).map .int))=tbL n m u':=by
 apply ext_getElem?
 intro j
 by_cases e:i=j
 ·subst e;rw[aU (by rw[kQ];exact hi),mM hi]
 ·rw[get_set_ne e]
  by_cases hj:j<n
  ·rw[mM hj,mM hj,h j (λz=>e z.symm)]
  ·rw[getElem?_eq_none (by rw[kQ];omega),getElem?_eq_none (by rw[kQ];omega)]
def swp (u:Nat->Nat->Int)(l:Nat->Int)(i:Nat):Nat->Nat->Int:=λr=>if r=i then l else u r
def gR (u:Nat->Nat->Int)(l:Nat->Int)(m q:Int)(i:Nat):Nat->Int:=λj=>if j<i then(u i j-q*l j)%m else if j=i then u i i-q*l i else 0
theorem a06 {n i:Nat}{u:Nat->Nat->Int}{l:Nat->Int}{m q:Int}(hi:i<n)(T:Tri n u)(hE: ∀j,j<i->Gen n (Rows i u) (mE m j))(lz: ∀j,i<j->l j=0)(l1:1<=l i) :
  Tri n (swp u l i)/\(∀v,Gen n (RL n (swp u l i) (gR u l m q i)) v↔Gen n (RL n u l) v):=by
 have nr: ∀r,r≠i->swp u l i r=u r:=λr hr=>if_neg hr
 have nl:swp u l i i=l:=if_pos rfl;refine⟨⟨λr hr=> ?_,λr hr j hj=> ?_⟩,?_⟩
 ·by_cases e:r=i
  ·subst e;rw[nl];exact l1
  ·rw[nr r e];exact T.pos r hr
 ·by_cases e:r=i
  ·subst e;rw[nl];exact lz j hj
  ·rw[nr r e];exact T.zero r hr j hj
 have E1: ∀j,j<i->Gen n (RL n u l) (mE m j):=λj hj=>(hE j hj).mono λr ⟨q,hq,e⟩=> .base (.inl ⟨q,by omega,e⟩)
 have E2: ∀j,j<i->Gen n (RL n (swp u l i) (gR u l m q i)) (mE m j):=λj hj=>(hE j hj).mono λr ⟨q,hq,e⟩=> .base (.inl ⟨q,by omega,by rw[nr q (by omega)];exact e⟩)
 have X1:Gen n (RL n u l) λj=>u i j-q*l j:=(Gen.comb (-q) (Gen.base (.inl ⟨i,hi,rfl⟩)) (Gen.base (.inr rfl))).cong λj _=>by rw[Int.neg_mul];omega
 have above: ∀j,i<j->u i j=0:=λj hj=>T.zero i hi j hj
 have X2:Gen n (RL n (swp u l i) (gR u l m q i)) λj=>u i j-q*l j:=by
  refine Gen.modE i (by omega) E2 (Gen.base (.inr rfl)) (λj hj=> ?_) (λj h1 h2=> ?_)
  ·show m∣gR u l m q i j-_
   unfold gR;rw[if_pos hj];exact mH _ _
  ·show gR u l m q i j=_
   unfold gR;rw[if_neg (by omega)]
   by_cases e:j=i
   ·subst e;rw[if_pos rfl]
   ·rw[if_neg e,above j (by omega),lz j (by omega)];omega
 have L2:Gen n (RL n (swp u l i) (gR u l m q i)) l:= .base (.inl ⟨i,hi,nl.symm⟩);intro v;constructor
 ·refine Gen.mono λr hr=> ?_
  rcases hr with⟨p,hp,rfl⟩|hr
  ·by_cases e:p=i
   ·subst e;rw[nl];exact .base (.inr rfl)
   ·rw[nr p e];exact .base (.inl ⟨p,hp,rfl⟩)
  ·rw[hr];refine Gen.modE i (by omega) E1 X1 (λj hj=> ?_) (λj h1 h2=> ?_)
   ·show m∣_-gR u l m q i j
    unfold gR;rw[if_pos hj];exact oC _ _
   ·show _=gR u l m q i j
    unfold gR;rw[if_neg (by omega)]
    by_cases e:j=i
    ·subst e;rw[if_pos rfl]
    ·rw[if_neg e,above j (by omega),lz j (by omega)];omega
 ·refine Gen.mono λr hr=> ?_
  rcases hr with⟨p,hp,rfl⟩|hr
  ·by_cases e:p=i
   ·subst e;exact(X2.comb q L2).cong λj _=>by omega
   ·exact .base (.inl ⟨p,hp,by rw[nr p e]⟩)
  ·rw[hr];exact L2
theorem a07 {n i:Nat}{u:Nat->Nat->Int}{l:Nat->Int}{m q:Int}(hi:i<n):((rwF i λj=>(u i j-q*l j)%m).map D.int++[D.int (u i i-q*l i)]++(replicate (n-1-i) [D.int 0]).flatten:List D)=(rwF n (gR u l m q i)).map .int:=by
 rw[fQ];apply ext_getElem?;intro j
 by_cases h1:j<i
 ·rw[getElem?_append_left (by simp[rwF];omega),getElem?_append_left (by simp[rwF];omega),bM h1,bM (by omega)]
  congr 2
  unfold gR;rw[if_pos h1]
 ·by_cases h2:j=i
  ·subst h2;rw[getElem?_append_left (by simp[rwF]),getElem?_append_right (by simp[rwF]),aL,sub_self,bM hi]
   unfold gR;rw[if_neg h1,if_pos rfl];rfl
  ·rw[getElem?_append_right (by simp[rwF];omega)]
   simp only[length_append,aL,length_cons,length_nil];rw[getElem?_map,getElem?_replicate]
   by_cases h3:j<n
   ·rw[if_pos (by omega),bM h3]
    unfold gR;rw[if_neg h1,if_neg h2];rfl
   ·rw[if_neg (by omega),getElem?_eq_none (by rw[aL];omega)]
    rfl
def kG:Φ:=λds Q=> ∃(n:Nat) (m:Int) (L:List (List Int)),ds=[.int (n:Int),.int m,.lst (L.map aO)]/\1<=n/\n<=8/\1<=m/\m<=2^600/\LOk n L/\ ∀T,SOk n m L T->Q (.pu (.tup (tbF n n T)))
def iZ:US:=(bJ 5 (uOp bS (uOp bS (aC 9) (eS (aD (aC 8) aR))) (uOp bQ (eS (aD (uC (.int 0)) aR)) (uOp M.gSub (uOp M.gSub (aC 0) (uC (.int 1))) (aC 6)))))
def fG:US:=(aT (nO 3 (aC 5) (aC 6)) iZ)
def fH:US:=(aT (bJ 9 (d7 [7,1] [none,none,some 7,some 1,none] 4 (qD (aD (aC 9) (aD (aC 5) aR))) (gI (bR 0 (bR 1 gH))) (λρ Q=>Q true ρ) (uOp fU (uOp M.gSub (aC 0) (uOp bQ (aC 2) (aC 1))) (aC 3)))) fG)
def j0:US:=(aT (bJ 9 (uSl (uV (uIx (aP 3) (aC 6))) eE (iL (aC 6)))) fH)
def fI:US:=(aT (bJ 8 (uOp M.gSub (uIx (uV (uIx (aP 3) (aC 6))) (aC 6)) (uOp bQ (aC 7) (uIx (aP 5) (aC 6))))) j0)
def fJ:US:=(aT (bJ 7 (uOp oI (uIx (uV (uIx (aP 3) (aC 6))) (aC 6)) (uIx (aP 5) (aC 6)))) fI)
def gS:US:=(uU (fN (uOp (jY true) (uIx (aP 5) (aC 6)) (uC (.int 0)))) fJ)
def jF:US:=(gY (wD (aD (uOp M.gSub (aC 0) (uC (.int 1))) (aD (uZ (uC (.int 1))) (aD (uZ (uC (.int 1))) aR)))) (cA 6) gS)
def jG:US:=(aT (bJ 5 (d7 [1] [none,some 1,none] 2 (jO (aC 4)) (cA 0) (λρ Q=>Q true ρ) (uOp fU (aC 0) (aC 1)))) jF)
def kH:US:=(nO 3 (d7 [7] [none,none,some 7,none] 3 (qD (aD (uIx (aP 3) (aC 10)) (aD (uIx (aP 3) (aC 11)) aR))) (gI (bR 0 (bR 1 gH))) (λρ Q=>Q true ρ) (uOp M.gSub (aC 0) (uOp bQ (aC 2) (aC 1)))) (aC 10))
def gT:US:=(aT (bJ 7 (uOp oI (uIx (uV (uIx (aP 3) (aC 10))) (aC 11)) (uIx (uV (uIx (aP 3) (aC 11))) (aC 11)))) kH)
def mN:US:=(gY (wD (aD (uOp M.gSub (aC 10) (uC (.int 1))) (aD (uZ (uC (.int 1))) (aD (uZ (uC (.int 1))) aR)))) (cA 11) gT)
def p9:US:=(gX (b9 d6 (aD (d7 [] [none,none] 1 (jO (aC 3)) (cA 0) (λρ Q=>Q true ρ) (b9 d6 (aD (aC 0) aR))) aR)))
def pA:US:=(aT (gY (eW (aD (aC 0) aR)) (cA 10) mN) p9)
def lM:US:=(aT (gY (jO (aC 2)) (cA 4) jG) pA)
def pB:US:=(aT (bJ 3 (d7 [0,1] [none,some 0,some 1,none] 3 (eW (aD (aC 0) aR)) (cA 0) (λρ Q=>Q true ρ) (d7 [2,0] [none,some 2,some 0,none] 3 (eW (aD (aC 1) aR)) (cA 0) (λρ Q=>Q true ρ) (uOp bQ (aC 1) (b9 v1 (aD (uOp (jY false) (aC 2) (aC 0)) aR)))))) lM)
theorem xO: ∀ds Q,kG ds Q->ds.length=3:=by rintro ds Q ⟨n,m,L,rfl,_⟩;rfl
theorem a08 {E:UD}{n i:Nat}{m:Int}{t:Nat->Nat->Int}{L:List (List Int)}{s4 s10 s11:Option B}{f:Nat->Int}(n8:n<=8)(hin:i<n)(m1:1<=m)(m2:m<=2^600)(ok:TOk n m t)
  (h: ∀u l x5 x7 x8 x9,x5=some (B.pu (.lst ((rwF n l).map .int)))\/x5=some (B.ow ((rwF n l).map .int))->Tri n u->(∀r j,0<=u r j)->(∀r j,u r j<=m)->(∀r,r<i->u r=t r)->(∀j,i<=j->l j=0)->(∀j,0<=l j/\l j<m)->(∀v,Gen n (RL n u l) v↔Gen n (RL n t f) v)->
   E.nx [some (.pu (.int (n:Int))),some (.pu (.int m)),some (.pu (.lst (L.map aO))),some (.ow (tbL n n u)),s4,x5,some (.pu (.int (i:Int))),x7,x8,x9,s10,s11])
  {u:Nat->Nat->Int} {l:Nat->Int} {x5 x7 x8 x9:Option B} (hx5:x5=some (B.pu (.lst ((rwF n l).map .int)))\/x5=some (B.ow ((rwF n l).map .int))) (T:Tri n u) (lo: ∀r j,0<=u r j) (hi: ∀r j,u r j<=m) (un: ∀r,r<i->u r=t r) (lz: ∀j,i<j->l j=0) (lb: ∀j,0<=l j/\l j<m) (G: ∀v,Gen n (RL n u l) v↔Gen n (RL n t f) v) :
  gS E [some (.pu (.int (n:Int))),some (.pu (.int m)),some (.pu (.lst (L.map aO))),some (.ow (tbL n n u)),s4,x5,some (.pu (.int (i:Int))),x7,x8,x9,s10,s11]:=by
 have big:(10000:Nat)<=sizeLine:=by decide
 rw[p6']at m2;have t6: ∀x:Int,0<=x->x<=m->Sm x:=λx h1 h2=>bB (e:=600) (by omega) (by omega)
 unfold gS
 refine⟨λk ρ=> ∃u l x5 x7 x8 x9,ρ=[some (.pu (.int (n:Int))),some (.pu (.int m)),some (.pu (.lst (L.map aO))),some (.ow (tbL n n u)),s4,x5,some (.pu (.int (i:Int))),x7,x8,x9,s10,s11]/\(x5=some (B.pu (.lst ((rwF n l).map .int)))\/x5=some (B.ow ((rwF n l).map .int)))/\k=(l i).toNat/\Tri n u/\(∀r j,0<=u r j)/\(∀r j,u r j<=m)/\(∀r,r<i->u r=t r)/\(∀j,i<j->l j=0)/\(∀j,0<=l j/\l j<m)/\ ∀v,Gen n (RL n u l) v↔Gen n (RL n t f) v,⟨_,u,l,x5,x7,x8,x9,rfl,hx5,rfl,T,lo,hi,un,lz,lb,G⟩,?_⟩
 rintro k ρ ⟨u,l,x5,x7,x8,x9,rfl,hx5,rfl,T,lo,hi,un,lz,lb,G⟩;have e1:atI ((rwF n l).map D.int) (i:Int)=some (.int (l i)):=gM hin;have e2:atI (tbL n n u) (i:Int)=some (.lst ((rwF n (u i)).map .int)):=vG hin;have e3:atI ((rwF n (u i)).map D.int) (i:Int)=some (.int (u i i)):=gM hin
 have body:1<=l i-> ∀(Z:UD),(∀l' x7 x8 x9,l'=gR u l m (u i i/l i) i->Z.nx [some (.pu (.int (n:Int))),some (.pu (.int m)),some (.pu (.lst (L.map aO))),some (.ow (tbL n n (swp u l i))),s4,some (.ow ((rwF n l').map .int)),some (.pu (.int (i:Int))),x7,x8,x9,s10,s11])->
   fJ Z [some (.pu (.int (n:Int))),some (.pu (.int m)),some (.pu (.lst (L.map aO))),some (.ow (tbL n n u)),s4,x5,some (.pu (.int (i:Int))),x7,x8,x9,s10,s11]:=by
  intro l1 Z hD;have sl:Sm (l i):=t6 _ (lb i).1 (by have:=(lb i).2;omega)
  have sq:Sm (u i i/l i):=bB (e:=600) (le_trans (natAbs_ediv_le_natAbs _ _) (by have:=lo i i;have:=hi i i;omega)) (by omega)
  have el: ∀j,Sm (l j):=λj=>t6 _ (lb j).1 (by have:=(lb j).2;omega)
  have fin:fH Z [some (.pu (.int (n:Int))),some (.pu (.int m)),some (.pu (.lst (L.map aO))),some (.ow (tbL n n u)),s4,x5,some (.pu (.int (i:Int))),some (.pu (.int (u i i/l i))),some (.pu (.int (u i i-u i i/l i*l i))),some (.ow ((rwF i (u i)).map .int)),s10,s11]:=by
   unfold fH;rw[aK,kP]
   refine fB (t0:=0) (t1:=1) i (λj=>((rwF i (u i)).map D.int).getD j .non) (λj=>((rwF n l).map D.int).getD j .non) [some (.pu (.int (n:Int))),some (.pu (.int m)),some (.pu (.lst (L.map aO))),some (.ow (tbL n n u)),s4,some (.pu (.lst ((rwF n l).map .int))),some (.pu (.int (i:Int))),some (.pu (.int (u i i/l i))),some (.pu (.int (u i i-u i i/l i*l i))),some (.pu (.lst ((rwF i (u i)).map .int))),s10,s11] ?_ (by omega)
    (λx y z=>[x,y,some (.pu (.int (u i i/l i))),some (.pu (.int m)),some (.ow z)]) none none rfl (λ_ _ _ _ _=>rfl) (λ_ _ _=>⟨by simp,by simp⟩) (λ_ _ _ _ q=>q) (λ_ _ _ _=>rfl) (λj=> .int ((u i j-u i i/l i*l j)%m)) ?_ ?_
   ·intro Q' q;rcases hx5 with rfl|rfl
    ·walk_at "u"
     rw[aL,aL,min_eq_left (by omega)]
     exact q
    ·walk_at "u"
     rw[aL,aL,min_eq_left (by omega)]
     exact q
   ·intro j z Q' hj q;rw[cW hj,cW (by omega)]at q⊢
    walk_at "u"
    rw[bP _ (by omega)]
    exact⟨.inr ⟨sq,el j⟩,by omega,q⟩
   rw[eJ];show fG _ [some (.pu (.int (n:Int))),some (.pu (.int m)),some (.pu (.lst (L.map aO))),some (.ow (tbL n n u)),s4,some (.pu (.lst ((rwF n l).map .int))),some (.pu (.int (i:Int))),some (.pu (.int (u i i/l i))),some (.pu (.int (u i i-u i i/l i*l i))),some (.ow ((rwF i λj=>(u i j-u i i/l i*l j)%m).map .int)),s10,s11]
   unfold fG;rw[aK];walk_at "u";rw[kQ,jD hin];dsimp only;have es:(tbL n n u).set i (.lst ((rwF n l).map .int))=tbL n n (swp u l i):=by
    have:=wP (m:=n) (u:=u) (u':=swp u l i) hin λr hr=>if_neg hr
    rw[show swp u l i i=l from if_pos rfl]at this
    exact this
   rw[es];unfold iZ;walk_at "u";rw[show((n:Int)-1-(i:Int)).toNat=n-1-i by omega]
   have er:=a07 (u:=u) (l:=l) (m:=m) (q:=u i i/l i) hin;have eln:=congrArg length er;rw[aL]at eln;simp only[length_append,aL,length_cons,length_nil]at eln;refine⟨by omega,by rw[aL];omega,by omega,⟨by omega,by omega,by omega⟩,?_,?_⟩
   ·simp only[length_append,aL,length_cons,length_nil];omega
   ·rw[er];exact hD _ _ _ _ rfl
  have tail:fI Z [some (.pu (.int (n:Int))),some (.pu (.int m)),some (.pu (.lst (L.map aO))),some (.ow (tbL n n u)),s4,x5,some (.pu (.int (i:Int))),some (.pu (.int (u i i/l i))),x8,x9,s10,s11]:=by
   unfold fI;rw[aK];rcases hx5 with rfl|rfl
   all_goals
    walk_at "u"
    simp only[e1,e2,e3];refine⟨.inr ⟨sq,sl⟩,?_⟩;unfold j0;rw[aK];walk_at "u";simp only[e2];rw[oD (by omega)]
    exact fin
  unfold fJ;rw[aK];rcases hx5 with rfl|rfl
  all_goals
   walk_at "u"
   simp only[e1,e2,e3];rw[fP _ (by omega)]
   exact⟨⟨by omega,sl⟩,tail⟩
 have lp:=lb i;have hE: ∀j,j<i->Gen n (Rows i u) (mE m j):=λj hj=>by
  have g0:=ok.toTri.gen_cut (ok.all j (by omega)) (i:=i) (by omega) λq h1 h2=>if_neg (by omega)
  exact g0.mono λr ⟨q,hq,e⟩=> .base ⟨q,hq,by rw[un q (by omega)];exact e⟩
 have lz0:l i=0-> ∀j,i<=j->l j=0:=λc j hj=>by
  by_cases e:j=i
  ·rw[e];exact c
  ·exact lz j (by omega)
 have stp:1<=l i-> ∀(l':Nat->Int),l'=gR u l m (u i i/l i) i->(l' i).toNat< (l i).toNat/\Tri n (swp u l i)/\(∀r j,0<=swp u l i r j)/\(∀r j,swp u l i r j<=m)/\(∀r,r<i->swp u l i r=t r)/\(∀j,i<j->l' j=0)/\(∀j,0<=l' j/\l' j<m)/\ ∀v,Gen n (RL n (swp u l i) l') v↔Gen n (RL n t f) v:=λl1 l' e=>by
  subst e;obtain⟨T',G'⟩:=a06 (m:=m) (q:=u i i/l i) hin T hE lz l1;have em:=emod_add_mul_ediv (u i i) (l i);have m0:=emod_nonneg (u i i) (show l i≠0 by omega)
  have mlt:=emod_lt_of_pos (u i i) (show 0<l i by omega)
  rw[Int.mul_comm]at em;have ei:gR u l m (u i i/l i) i i=u i i-u i i/l i*l i:=by
   unfold gR;rw[if_neg (by omega),if_pos rfl]
  have sw: ∀r j,0<=swp u l i r j/\swp u l i r j<=m:=λr j=>by
   unfold swp;split
   ·have:=lb j;omega
   ·exact⟨lo r j,hi r j⟩
  refine⟨by rw[ei];omega,T',λr j=>(sw r j).1,λr j=>(sw r j).2,λr hr=>by rw[show swp u l i r=u r from if_neg (by omega)];exact un r hr,λj hj=> ?_,λj=> ?_,λv=>(G' v).trans (G v)⟩
  ·unfold gR;rw[if_neg (by omega),if_neg (by omega)]
  ·by_cases c1:j<i
   ·unfold gR;rw[if_pos c1];exact⟨emod_nonneg _ (by omega),emod_lt_of_pos _ (by omega)⟩
   ·by_cases c2:j=i
    ·rw[c2,ei];omega
    ·unfold gR;rw[if_neg c1,if_neg c2];omega
 rcases hx5 with e5|e5
 all_goals
  subst e5;walk_at "u";simp only[e1]
  by_cases c:l i=0
  ·rw[if_neg (by omega)]
   exact h u l _ x7 x8 x9 (by first|exact .inl rfl|exact .inr rfl) T lo hi un (lz0 c) lb G
  ·rw[if_pos c];refine body (by omega) _ λl' y7 y8 y9 e=> ?_
   obtain⟨s1,s2,s3,s4',s5,s6,s7,s8⟩:=stp (by omega) l' e
   exact⟨_,s1,swp u l i,l',_,y7,y8,y9,rfl,.inr rfl,rfl,s2,s3,s4',s5,s6,s7,s8⟩
theorem a77 {E:UD}{n:Nat}{m:Int}{t:Nat->Nat->Int}{L:List (List Int)}{f:Nat->Int}{r:List Int}{x5 x6 x7 x8 x9 s10 s11:Option B}(n1:1<=n)(n8:n<=8)(m1:1<=m)(m2:m<=2^600)(ok:TOk n m t)(hr:r.length=n)
  (h: ∀u s4 x5 x6 x7 x8 x9,TOk n m u->(∀v,Gen n (Rows n u) v↔Gen n (RL n t (fnL r)) v)->E.nx [some (.pu (.int (n:Int))),some (.pu (.int m)),some (.pu (.lst (L.map aO))),some (.ow (tbL n n u)),s4,x5,x6,x7,x8,x9,s10,s11]) :
  jG E [some (.pu (.int (n:Int))),some (.pu (.int m)),some (.pu (.lst (L.map aO))),some (.ow (tbL n n t)),some (.pu (aO r)),x5,x6,x7,x8,x9,s10,s11]:=by
 have big:(10000:Nat)<=sizeLine:=by decide
 unfold jG;rw[aK,kP,wN hr];simp only[aO]
 refine e9 (t0:=0) n (λj=>((rwF n (fnL r)).map D.int).getD j .non) [some (.pu (.int (n:Int))),some (.pu (.int m)),some (.pu (.lst (L.map aO))),some (.ow (tbL n n t)),some (.pu (.tup ((rwF n (fnL r)).map .int))),x5,x6,x7,x8,x9,s10,s11] ?_ (by omega) (λx l=>[x,some (.pu (.int m)),some (.ow l)]) none rfl (λ_ _ _=>rfl) (λ_ _=>zero_lt_succ _) (λ_ _ _ q=>q) (λ_ _ _=>rfl) (λj=> .int (fnL r j%m)) ?_ ?_
 ·intro Q' q;walk_at "u";rw[aL];exact q
 ·intro j l Q' hj q;rw[cW hj]at q⊢;walk_at "u";rw[bP _ (by omega)]
  exact⟨by omega,q⟩
 rw[eJ];show jF _ [some (.pu (.int (n:Int))),some (.pu (.int m)),some (.pu (.lst (L.map aO))),some (.ow (tbL n n t)),some (.pu (.tup ((rwF n (fnL r)).map .int))),some (.ow ((rwF n λj=>fnL r j%m).map .int)),x6,x7,x8,x9,s10,s11]
 unfold jF;have l0: ∀j,0<=(λj=>fnL r j%m) j/\(λj=>fnL r j%m) j<m:=λj=>⟨emod_nonneg _ (by omega),emod_lt_of_pos _ (by omega)⟩
 have lz: ∀j,n<=j->(λj=>fnL r j%m) j=0:=λj hj=>by
  show fnL r j%m=0
  rw[tS hr j hj];rfl
 have G0: ∀v,Gen n (RL n t λj=>fnL r j%m) v↔Gen n (RL n t (fnL r)) v:=by
  have E1: ∀{l:Nat->Int} j,j<n->Gen n (RL n t l) (mE m j):=λj hj=>(ok.all j hj).mono λs hs=> .base (.inl hs)
  refine λv=>⟨Gen.mono λs hs=> ?_,Gen.mono λs hs=> ?_⟩
  ·rcases hs with hs|hs
   ·exact .base (.inl hs)
   ·rw[hs];exact Gen.modE n (le_refl _) E1 (Gen.base (.inr rfl)) (λj _=>oC _ _) λj h1 h2=>by omega
  ·rcases hs with hs|hs
   ·exact .base (.inl hs)
   ·rw[hs];exact Gen.modE n (le_refl _) E1 (Gen.base (.inr rfl)) (λj _=>mH _ _) λj h1 h2=>by omega
 generalize (λj=>fnL r j%m)=l00 at l0 lz G0⊢
 refine bH n (λk=> .int ((n:Int)-1-k)) [some (.pu (.int (n:Int))),some (.pu (.int m)),some (.pu (.lst (L.map aO))),some (.ow (tbL n n t)),some (.pu (.tup ((rwF n (fnL r)).map .int))),some (.ow ((rwF n l00).map .int)),x6,x7,x8,x9,s10,s11] ?_
  (λk ρ=> ∃(u:Nat->Nat->Int) (l:Nat->Int) (y5 y6 y7 y8 y9:Option B),ρ=[some (.pu (.int (n:Int))),some (.pu (.int m)),some (.pu (.lst (L.map aO))),some (.ow (tbL n n u)),some (.pu (.tup ((rwF n (fnL r)).map .int))),y5,y6,y7,y8,y9,s10,s11]/\(y5=some (B.pu (.lst ((rwF n l).map .int)))\/y5=some (B.ow ((rwF n l).map .int)))/\Tri n u/\(∀r j,0<=u r j)/\(∀r j,u r j<=m)/\(∀r,r<n-k->u r=t r)/\(∀j,n-k<=j->l j=0)/\(∀j,0<=l j/\l j<m)/\ ∀v,Gen n (RL n u l) v↔Gen n (RL n t (fnL r)) v)
  ⟨t,l00,_,_,_,_,_,rfl,.inr rfl,ok.toTri,ok.lo,ok.hi,λ_ _=>rfl,lz,l0,G0⟩ ?_ ?_
 ·intro Q' q;walk_at "u";refine⟨trivial,⟨by omega,by omega,by omega,by omega⟩,?_⟩
  rw[show((n:Int)-1- -1).toNat=n by omega]
  exact q
 ·rintro k ρ hk ⟨u,l,y5,y6,y7,y8,y9,rfl,h5,T,lo,hi,un,lz,lb,G⟩;obtain⟨i,hi0⟩: ∃i:Nat,i=n-1-k:=⟨_,rfl⟩;have ei:(n:Int)-1-(k:Int)=(i:Int):=by omega
  have eN:n-k=i+1:=by omega
  have eN':n-(k+1)=i:=by omega
  rw[ei];rw[eN]at un lz;refine⟨by simp,?_⟩
  refine a08 (t:=t) (f:=fnL r) (i:=i) n8 (by omega) m1 m2 ok ?_ h5 T lo hi (λr hr=>un r (by omega)) (λj hj=>lz j (by omega)) lb G
  intro u l z5 z7 z8 z9 h1 h2 h3 h4 h5 h6 h7 h8;exact⟨u,l,z5,some (.pu (.int (i:Int))),z7,z8,z9,rfl,h1,h2,h3,h4,(by rw[eN'];exact h5),(by rw[eN'];exact h6),h7,h8⟩
 ·rintro ρ ⟨u,l,y5,y6,y7,y8,y9,rfl,h5,T,lo,hi,un,lz,lb,G⟩;have l0':l=λ_=>0:=by funext j;exact lz j (by omega)
  have G2: ∀v,Gen n (Rows n u) v↔Gen n (RL n t (fnL r)) v:=λv=>by
   rw[<-G v];exact⟨Gen.mono λr hr=> .base (.inl hr),Gen.mono λr hr=>hr.elim .base λe=>by rw[e,l0'];exact .zero⟩
  exact h u _ _ _ _ _ _ ⟨T,m1,m2,lo,hi,λi hi=>(G2 _).mpr ((ok.all i hi).mono λr hr=> .base (.inl hr))⟩ G2
theorem vH {js:List Nat}{cap:List (Option Nat)}{last t0:Nat}{ui:UI}{te:UE}{ρ:Ev}{Q:B->Ev->Prop}(n:Nat)(it:Nat->D)(ρ1:Ev)(hui: ∀Q:Nat->(Nat->D)->Ev->Prop,Q n it ρ1->ui ρ Q)(hn:n<=1000000)
  (G:Option B->List D->Ev) (x0:Option B) (h0:hW (n6 ρ1 js) cap last=G x0 []) (h1: ∀x l b,(G x l).set t0 (some b)=G (some b) l) (h1': ∀x l,t0< (G x l).length) (h2: ∀x l (Q:List D->Prop),Q l->eX (G x l) last Q) (h3: ∀x l l',(G x l).set last (some (.ow l'))=G x l')
  (f:Nat->List D) (hte: ∀i l (Q':B->Ev->Prop),i<n->Q' (.ow (f i)) (G (some (.pu (it i))) l)->te (G (some (.pu (it i))) l) Q') (hq:Q (.ow ((List.range n).map λi=> .lst (f i))) (n6 ρ1 js)) :
  d7 js cap last ui (cA t0) (λρ Q=>Q true ρ) te ρ Q:=by
 refine hui _ ⟨λi ρ'=> ∃x,ρ'=G x ((List.range i).map λi=> .lst (f i)),⟨x0,h0⟩,?_,?_⟩
 ·rintro i ρ' hi ⟨x,rfl⟩;refine⟨h1' _ _,?_⟩;rw[h1];dsimp only;rw[if_pos rfl];refine hte i _ _ hi (h2 _ _ _ ⟨?_,some (.pu (it i)),?_⟩)
  ·rw[length_map,length_range];exact lt_of_lt_of_le hi (le_trans hn (by decide))
  ·rw[h3,range_succ,map_append];rfl
 ·rintro ρ' ⟨x,rfl⟩;exact h2 _ _ _ hq
theorem a09 (i:Nat)(t ti:UE)(D:UD)(ρ:Ev):nO i t ti D ρ=t ρ λb ρ1=>eX ρ1 i λ_=>ti ρ1 λj ρ2=>eX ρ2 i λl=>match j.d with
 | .int k=>(match ixN l.length k with
  | some n=>D.nx (ρ2.set i (some (.ow (l.set n b.d))))
  | none=>False)
 | _=>False:=rfl
def fR (t:Nat->Nat->Int)(i:Nat)(g:Nat->Int):Nat->Nat->Int:=λr=>if r<i then bT t i r else if r=i then g else t r
theorem a17: ∀ds Q,kG ds Q->pB {nx:=λ_=>Q (.pu .non),rt:=Q} (init ["a","b","c","d","e","f","g","h","i","j","k","l"] ds):=by
 rintro ds Q ⟨n,m,L,rfl,n1,n8,m1,m2,ok,h⟩;have big:(10000:Nat)<=sizeLine:=by decide
 have m2':m.natAbs<=2^600:=by have:=m2;rw[p6']at this;omega
 unfold pB;show(aT _ _:US) _ [some (.pu (.int (n:Int))),some (.pu (.int m)),some (.pu (.lst (L.map aO))),none,none,none,none,none,none,none,none,none];rw[aK,kP]
 refine vH (t0:=0) n (λk=> .int (0+(k:Int))) [some (.pu (.int (n:Int))),some (.pu (.int m)),some (.pu (.lst (L.map aO))),none,none,none,none,none,none,none,none,none] ?_ (by omega) (λx l=>[x,some (.pu (.int (n:Int))),some (.pu (.int m)),some (.ow l)]) none rfl (λ_ _ _=>rfl) (λ_ _=>zero_lt_succ _) (λ_ _ _ q=>q) (λ_ _ _=>rfl) (λk=>(rwF n (mE m k)).map .int) ?_ ?_
 ·intro Q' q;walk_at "u";refine⟨⟨by omega,by omega⟩,?_⟩
  rw[toNat_natCast];exact q
 ·intro k l Q' hk q;refine e9 (t0:=0) n (λj=> .int (0+(j:Int))) [some (.pu (.int (0+(k:Int)))),some (.pu (.int (n:Int))),some (.pu (.int m)),some (.ow l)] ?_ (by omega) (λx l=>[x,some (.pu (.int m)),some (.pu (.int (0+(k:Int)))),some (.ow l)]) none rfl (λ_ _ _=>rfl) (λ_ _=>zero_lt_succ _) (λ_ _ _ q=>q) (λ_ _ _=>rfl) (λj=> .int (mE m k j)) ?_ ?_
  ·intro Q' q;walk_at "u";refine⟨⟨by omega,by omega⟩,?_⟩
   rw[toNat_natCast];exact q
  ·intro j l Q' hj q;walk_at "u";have em:(m*if 0+(k:Int)=0+(j:Int)then 1 else 0)=mE m k j:=by
    unfold mE
    by_cases e:j=k
    ·subst e;rw[if_pos rfl,if_pos rfl];omega
    ·rw[if_neg (by omega),if_neg e];omega
   rw[em];exact⟨.inr ⟨bB m2' (by omega),by split<;>exact bB (e:=1) (by decide) (by decide)⟩,q⟩
  ·rw[eJ];exact q
 show lM _ [some (.pu (.int (n:Int))),some (.pu (.int m)),some (.pu (.lst (L.map aO))),some (.ow (tbL n n (mE m))),none,none,none,none,none,none,none,none]
 unfold lM;rw[aK];obtain⟨ok0,g0⟩:=wO (n:=n) m1 m2;refine bH (L.map aO).length (λi=>(L.map aO).getD i .non) [some (.pu (.int (n:Int))),some (.pu (.int m)),some (.pu (.lst (L.map aO))),some (.ow (tbL n n (mE m))),none,none,none,none,none,none,none,none] ?_
  (λi ρ=> ∃(t:Nat->Nat->Int) (x4 x5 x6 x7 x8 x9:Option B),ρ=[some (.pu (.int (n:Int))),some (.pu (.int m)),some (.pu (.lst (L.map aO))),some (.ow (tbL n n t)),x4,x5,x6,x7,x8,x9,none,none]/\TOk n m t/\ ∀v,Gen n (Rows n t) v↔Gen n (RM n m (LR (L.take i))) v)
  ⟨_,none,none,none,none,none,none,rfl,ok0,g0⟩ ?_ ?_
 ·intro Q' q;walk_at "u";exact q
 ·rintro i ρ hi ⟨t,x4,x5,x6,x7,x8,x9,rfl,okt,gt⟩;rw[length_map]at hi;have hm:=getElem_mem hi;have ei:(L.map aO).getD i .non=aO L[i]:=by rw[getD_eq_getElem?_getD,getElem?_map,getElem?_eq_getElem hi];rfl
  rw[ei];refine⟨by simp,?_⟩
  refine a77 (f:=fnL L[i]) n1 n8 m1 m2 okt (ok.len _ hm) ?_
  intro u s4 y5 y6 y7 y8 y9 oku gu;refine⟨u,_,_,_,_,_,_,rfl,oku,?_⟩;have:=tU okt gt gu;rw[take_succ,getElem?_eq_getElem hi];exact this
 ·rintro ρ ⟨t,x4,x5,x6,x7,x8,x9,rfl,okt,gt⟩;rw[length_map,take_of_length_le (le_refl _)]at gt;have tt: ∀r j,(t r j).natAbs<=2^600:=λr j=>by have:=okt.lo r j;have:=okt.hi r j;omega
  try dsimp only
  unfold pA;rw[aK];have mid0: ∀i,fR t i (t i)=λr=>if r<i then bT t i r else t r:=λi=>by
   funext r
   unfold fR;split
   ·rfl
   ·split
    ·rename_i e;rw[e]
    ·rfl
  refine bH n (λi=> .int (0+(i:Int))) [some (.pu (.int (n:Int))),some (.pu (.int m)),some (.pu (.lst (L.map aO))),some (.ow (tbL n n t)),x4,x5,x6,x7,x8,x9,none,none] ?_
   (λi ρ=> ∃(y7 y10 y11:Option B),ρ=[some (.pu (.int (n:Int))),some (.pu (.int m)),some (.pu (.lst (L.map aO))),some (.ow (tbL n n (fR t i (t i)))),x4,x5,x6,y7,x8,x9,y10,y11]) ⟨x7,none,none,?_⟩ ?_ ?_
  ·intro Q' q;walk_at "u";refine⟨⟨by omega,by omega⟩,?_⟩
   rw[toNat_natCast];exact q
  ·rw[mid0];rfl
  ·rintro i ρ hi ⟨y7,y10,y11,rfl⟩;refine⟨by simp,?_⟩
   have F:=p8 okt m2' i (by omega)
   unfold mN;show(gY _ _ _:US) _ [some (.pu (.int (n:Int))),some (.pu (.int m)),some (.pu (.lst (L.map aO))),some (.ow (tbL n n (fR t i (t i)))),x4,x5,x6,y7,x8,x9,some (.pu (.int (0+(i:Int)))),y11]
   refine bH i (λk=> .int (0+(i:Int)-1-k)) [some (.pu (.int (n:Int))),some (.pu (.int m)),some (.pu (.lst (L.map aO))),some (.ow (tbL n n (fR t i (t i)))),x4,x5,x6,y7,x8,x9,some (.pu (.int (0+(i:Int)))),y11] ?_
    (λk ρ=> ∃(g:Nat->Int) (y7 y11:Option B),ρ=[some (.pu (.int (n:Int))),some (.pu (.int m)),some (.pu (.lst (L.map aO))),some (.ow (tbL n n (fR t i g))),x4,x5,x6,y7,x8,x9,some (.pu (.int (0+(i:Int)))),y11]/\cP (bT t i) (i-k) g=cP (bT t i) i (t i)/\ ∀j,(g j).natAbs<=2^(600+601*k)) ⟨t i,_,_,rfl,rfl,λj=>by rw[Nat.mul_zero];exact tt i j⟩ ?_ ?_
   ·intro Q' q;walk_at "u";refine⟨trivial,⟨by omega,by omega,by omega,by omega⟩,?_⟩
    rw[show(0+(i:Int)-1- -1).toNat=i by omega]
    exact q
   ·rintro k ρ hk ⟨g,z7,z11,rfl,hr,hb⟩;obtain⟨q,hq⟩: ∃q:Nat,q=i-1-k:=⟨_,rfl⟩;have eq:0+(i:Int)-1-(k:Int)=(q:Int):=by omega
    have ez:0+(i:Int)=(i:Int):=by omega
    rw[eq,ez];refine⟨by simp,?_⟩
    show gT _ [some (.pu (.int (n:Int))),some (.pu (.int m)),some (.pu (.lst (L.map aO))),some (.ow (tbL n n (fR t i g))),x4,x5,x6,z7,x8,x9,some (.pu (.int (i:Int))),some (.pu (.int (q:Int)))]
    have ri:fR t i g i=g:=by unfold fR;rw[if_neg (by omega),if_pos rfl]
    have rq:fR t i g q=bT t i q:=by unfold fR;rw[if_pos (by omega)]
    have e1:atI (tbL n n (fR t i g)) (i:Int)=some (.lst ((rwF n g).map .int)):=by rw[vG (by omega),ri]
    have e2:atI (tbL n n (fR t i g)) (q:Int)=some (.lst ((rwF n (bT t i q)).map .int)):=by rw[vG (by omega),rq]
    have e3:atI ((rwF n g).map D.int) (q:Int)=some (.int (g q)):=gM (by omega)
    have e4:atI ((rwF n (bT t i q)).map D.int) (q:Int)=some (.int (bT t i q q)):=gM (by omega)
    have dp:=F.tri.pos q (by omega)
    unfold gT;rw[aK];walk_at "u";simp only[e1,e2,e3,e4];rw[fP _ (by omega)]
    refine⟨⟨by omega,bB (F.bd q q) (by omega)⟩,?_⟩
    unfold kH;rw[a09];refine fB (t0:=0) (t1:=1) n (λj=>((rwF n g).map D.int).getD j .non) (λj=>((rwF n (bT t i q)).map D.int).getD j .non) [some (.pu (.int (n:Int))),some (.pu (.int m)),some (.pu (.lst (L.map aO))),some (.ow (tbL n n (fR t i g))),x4,x5,x6,some (.pu (.int (g q/bT t i q q))),x8,x9,some (.pu (.int (i:Int))),some (.pu (.int (q:Int)))] ?_ (by omega)
     (λx y z=>[x,y,some (.pu (.int (g q/bT t i q q))),some (.ow z)]) none none rfl (λ_ _ _ _ _=>rfl) (λ_ _ _=>⟨by simp,by simp⟩) (λ_ _ _ _ q=>q) (λ_ _ _ _=>rfl) (λj=> .int (d9 (bT t i) q g j)) ?_ ?_
    ·intro Q' q';walk_at "u";simp only[e1,e2];rw[aL,aL,min_self];exact q'
    ·intro j l Q' hj q';rw[cW hj,cW (by omega)]at q'⊢
     walk_at "u"
     refine⟨.inr ⟨bB (le_trans (natAbs_ediv_le_natAbs _ _) (hb q)) (by omega),bB (F.bd q j) (by decide)⟩,?_⟩
     exact q'
    ·walk_at "u"
     rw[eJ,kQ,jD hi];dsimp only;have es:(tbL n n (fR t i g)).set i (.lst ((rwF n (d9 (bT t i) q g)).map .int))=tbL n n (fR t i (d9 (bT t i) q g)):=by
      have:=wP (m:=n) (u:=fR t i g) (u':=fR t i (d9 (bT t i) q g)) hi λr hr=>by unfold fR;rw[if_neg hr,if_neg hr]
      rw[show fR t i (d9 (bT t i) q g) i=d9 (bT t i) q g by unfold fR;rw[if_neg (by omega),if_pos rfl]]at this
      exact this
     rw[es];refine⟨d9 (bT t i) q g,_,_,rfl,?_,λj=> ?_⟩
     ·rw[<-hr,show i-k=q+1 by omega,show i-(k+1)=q by omega]
      rfl
     ·have:=nQ (i:=q) (F.bd q) hb j;rw[show 600+601*(k+1)=600+601*k+601 by omega]
      exact this
   ·rintro ρ ⟨g,z7,z11,rfl,hr,hb⟩;refine⟨z7,some (.pu (.int (0+(i:Int)))),z11,?_⟩;rw[sub_self]at hr;have eg:g=cP (bT t i) i (t i):=hr;have:fR t i g=fR t (i+1) (t (i+1)):=by
     rw[mid0,eg]
     funext r
     unfold fR
     by_cases c1:r<i
     ·rw[if_pos c1,if_pos (by omega)]
      exact a75 t c1 (by omega)
     ·by_cases c2:r=i
      ·subst c2;rw[if_neg c1,if_pos rfl,if_pos (by omega)]
       exact(mL t (by omega)).symm
      ·rw[if_neg c1,if_neg c2,if_neg (by omega)]
    rw[this]
  ·rintro ρ ⟨y7,y10,y11,rfl⟩;unfold p9;have F:=p8 okt m2' n (le_refl _);have ht:tbL n n (fR t n (t n))=tbL n n (bT t n):=by
    unfold tbL;refine map_congr_left λr hr=> ?_
    rw[show fR t n (t n) r=bT t n r from if_pos (List.mem_range.mp hr)]
   rw[ht];dsimp only;rw[mF,iS,iT]
   refine e9 (t0:=0) n (λi=>(tbL n n (bT t n)).getD i .non) [some (.pu (.int (n:Int))),some (.pu (.int m)),some (.pu (.lst (L.map aO))),some (.pu (.lst (tbL n n (bT t n)))),x4,x5,x6,y7,x8,x9,y10,y11] ?_ (by omega) (λx l=>[x,some (.ow l)]) none rfl (λ_ _ _=>rfl) (λ_ _=>zero_lt_succ _) (λ_ _ _ q=>q) (λ_ _ _=>rfl) (λi=>aO (rwF n (bT t n i))) ?_ ?_
   ·intro Q' q;walk_at "u";rw[kQ];exact q
   ·intro i l Q' hi q;have eg:(tbL n n (bT t n)).getD i .non= .lst ((rwF n (bT t n i)).map .int):=by rw[getD_eq_getElem?_getD,mM hi];rfl
    rw[eg]at q⊢;walk_at "u";exact q
   ·walk_at "u"
    exact h _ ⟨⟨F.tri,F.ahead⟩,λv=>(F.gen v).trans (gt v)⟩
theorem a18 {α:Type}{L:List α}{Q:B->Prop}(h:Q (.pu (.bl true))):z0 [.lst (L.map λ_=>D.bl true)] Q:=by
 have e: ∀L:List α,∃bs,gL (L.map λ_=>D.bl true)=some bs/\bs.all id=true:=λL=>by
  induction L with
  | nil=>exact⟨[],rfl,rfl⟩
  | cons a L ih=>
   obtain⟨bs,e,h⟩:=ih;refine⟨true::bs,?_,by simpa using h⟩
   show gL (.bl true::L.map λ_=>D.bl true)=_
   simp only[gL,e,map_some]
 obtain⟨bs,e1,e2⟩:=e L;show(match gL (L.map λ_=>D.bl true)with
  | some bs=>Q (.pu (.bl (bs.all id)))
  | none=>False)
 rw[e1];dsimp only;rw[e2];exact h
def pC:Φ:=λds Q=> ∃ns:List Int,ds=[aO ns,.int (ns.length:Int)]/\ns.length<=1000/\Q (.pu (.bl true))
def wQ:US:=(gX (b9 z0 (aD (d7 [] [none,none] 1 (jO (aC 0)) (cA 0) (λρ Q=>Q true ρ) (b9 kE (aD (aC 0) aR))) aR)))
def vI:US:=(aT (kU (uOr (yP (fN (b9 xA (aD (aC 0) (aD (uC (.ty "tuple")) aR))))) (fN (uOp (jY true) (mZ (aP 0)) (aC 1)))) (gX (uC (.bl false))) fW) wQ)
theorem a78: ∀ds Q,pC ds Q->ds.length=2:=by rintro ds Q ⟨ns,rfl,_⟩;rfl
theorem rd_row: ∀ds Q,pC ds Q->vI {nx:=λ_=>Q (.pu .non),rt:=Q} (init ["f","m"] ds):=by
 rintro ds Q ⟨ns,rfl,hl,h⟩;unfold vI;show(aT _ _:US) _ [some (.pu (aO ns)),some (.pu (.int (ns.length:Int)))];rw[aK];simp only[aO];walk_at "u";simp only[isI,length_map,not_true,if_false,false_eq_true,Bool.not_true];unfold wQ;rw[mF,iS,iT]
 refine e9 (t0:=0) (ns.map D.int).length (λi=>(ns.map D.int).getD i .non) [some (.pu (.tup (ns.map .int))),some (.pu (.int (ns.length:Int)))] ?_ (by rw[length_map];omega) (λx l=>[x,some (.ow l)]) none rfl (λ_ _ _=>rfl) (λ_ _=>zero_lt_succ _) (λ_ _ _ q=>q) (λ_ _ _=>rfl) (λ_=> .bl true) ?_ (a18 h)
 ·intro Q' q;walk_at "u";exact q
 ·intro i l Q' hi q;rw[length_map]at hi;have eg:(ns.map D.int).getD i .non= .int ns[i]:=by rw[getD_eq_getElem?_getD,getElem?_map,getElem?_eq_getElem hi];rfl
  rw[eg]at q⊢;walk_at "u";exact⟨_,rfl,q⟩
def eB:Φ:=λds Q=> ∃(n:Nat) (t:Nat->Nat->Int),ds=[.tup (tbF n n t),.int (n:Int)]/\n<=8/\Q (.pu (.bl true))
def mO:US:=(gX (b9 z0 (aD (d7 [1] [none,some 1,none] 2 (jO (aC 0)) (cA 0) (λρ Q=>Q true ρ) (b9 pC (aD (aC 0) (aD (aC 1) aR)))) aR)))
def kI:US:=(aT (kU (uOr (yP (fN (b9 xA (aD (aC 0) (aD (uC (.ty "tuple")) aR))))) (fN (uOp (jY true) (mZ (aP 0)) (aC 1)))) (gX (uC (.bl false))) fW) mO)
theorem sK: ∀ds Q,eB ds Q->ds.length=2:=by rintro ds Q ⟨ns,n,rfl,_⟩;rfl
theorem tW: ∀ds Q,eB ds Q->kI {nx:=λ_=>Q (.pu .non),rt:=Q} (init ["f","m"] ds):=by
 rintro ds Q ⟨n,t,rfl,n8,h⟩;unfold kI;show(aT _ _:US) _ [some (.pu (.tup (tbF n n t))),some (.pu (.int (n:Int)))];rw[aK];walk_at "u";simp only[isI,eK,not_true,if_false,false_eq_true,Bool.not_true];unfold mO;rw[mF,iS,iT]
 refine e9 (t0:=0) n (λi=>(tbF n n t).getD i .non) [some (.pu (.tup (tbF n n t))),some (.pu (.int (n:Int)))] ?_ (by omega) (λx l=>[x,some (.pu (.int (n:Int))),some (.ow l)]) none rfl (λ_ _ _=>rfl) (λ_ _=>zero_lt_succ _) (λ_ _ _ q=>q) (λ_ _ _=>rfl) (λ_=> .bl true) ?_ (a18 h)
 ·intro Q' q;walk_at "u";rw[eK];exact q
 ·intro i l Q' hi q;rw[tV hi]at q⊢;walk_at "u";exact⟨rwF n (t i),by rw[dZ],by rw[dZ];omega,q⟩
def ew (k:Nat):Nat:=[0,60,40,26,20,16,13,11,10].getD k 0
def kR:Φ:=λds Q=> ∃(raw:List Int) (at' k:Nat),ds=[.lst (raw.map .int),.int (at':Int),.int (k:Int)]/\raw.length=36/\(∀x∈raw,0<=x/\x<1000000)/\at'<=1000/\1<=k/\k<=8/\ ∀x:Int,0<=x->x<10^ew k->Q (.pu (.int x))
def rG:US:=(nN 4)
def rH:US:=(aT (gY (eW (aD (uC (.int 12)) aR)) (cA 5) (bJ 4 (uOp fU (uOp bQ (aC 4) (uOp bS (uC (.int 1)) (uIx (aP 0) (uOp fU (uOp bS (aC 1) (uOp bQ (uC (.int 7)) (aC 5))) (uC (.int 36)))))) (aC 3)))) rG)
def nI:US:=(aT (bJ 4 (uC (.int 1))) rH)
def sL:US:=(aT (bJ 3 (uIx (uV (eS (aD (uOp kW (uC (.int 10)) (uC (.int 60))) (aD (uOp kW (uC (.int 10)) (uC (.int 40))) (aD (uOp kW (uC (.int 10)) (uC (.int 26))) (aD (uOp kW (uC (.int 10)) (uC (.int 20))) (aD (uOp kW (uC (.int 10)) (uC (.int 16))) (aD (uOp kW (uC (.int 10)) (uC (.int 13))) (aD (uOp kW (uC (.int 10)) (uC (.int 11))) (aD (uOp kW (uC (.int 10)) (uC (.int 10))) aR)))))))))) (uOp M.gSub (aC 2) (uC (.int 1))))) nI)
theorem a19: ∀ds Q,kR ds Q->ds.length=3:=by rintro ds Q ⟨ns,n,k,rfl,_⟩;rfl
theorem mP {l:List Int}{j:Nat}(h:j<l.length):atI (l.map D.int) (j:Int)=some (.int (l[j])):=d3 (by rw[getElem?_map,getElem?_eq_getElem h];rfl)
theorem a20 {Q:B->Prop}{raw:List Int}{at' k:Nat}{most:Int}(hr:raw.length=36)(hb: ∀x∈raw,0<=x/\x<1000000)(m1:1<=most)(m2:most<=2^600)(h: ∀x:Int,0<=x->x<most->Q (.pu (.int x))) :
  nI {nx:=λ_=>Q (.pu .non),rt:=Q} [some (.pu (.lst (raw.map .int))),some (.pu (.int (at':Int))),some (.pu (.int (k:Int))),some (.pu (.int most)),none,none]:=by
 rw[p6']at m2;unfold nI;rw[aK];walk_at "u";unfold rH;rw[aK];refine bH 12 (λi=> .int (0+(i:Int))) [some (.pu (.lst (raw.map .int))),some (.pu (.int (at':Int))),some (.pu (.int (k:Int))),some (.pu (.int most)),some (.pu (.int 1)),none] ?_
  (λi ρ=> ∃(f:Int) (x5:Option B),ρ=[some (.pu (.lst (raw.map .int))),some (.pu (.int (at':Int))),some (.pu (.int (k:Int))),some (.pu (.int most)),some (.pu (.int f)),x5]/\0<=f/\f<=most/\(i=0\/f<most)) ⟨1,none,rfl,by decide,m1,.inl rfl⟩ ?_ ?_
 ·intro Q' q;walk_at "u";exact⟨⟨by omega,by decide⟩,q⟩
 ·rintro i ρ hi ⟨f,x5,rfl,f0,f1,_⟩;refine⟨by simp,?_⟩
  obtain⟨j,hj⟩: ∃j:Nat,j=(at'+7*i)%36:=⟨_,rfl⟩;have ej:((at':Int)+7*(0+(i:Int))).fmod 36=(j:Int):=by rw[bP _ (by decide)];omega
  have hj':j<raw.length:=by omega
  have b:=hb _ (getElem_mem hj');walk_at "u";rw[ej,mP hj'];dsimp only;rw[bP _ (show 0<most by omega)]
  refine⟨.inr ⟨bB (e:=64) (by decide) (by decide),bB (e:=64) (by omega) (by decide)⟩,by decide,.inr ⟨bB (e:=600) (by omega) (by decide),bB (e:=64) (by omega) (by decide)⟩,by omega,_,_,rfl,emod_nonneg _ (by omega),?_,.inr ?_⟩
  ·exact Int.le_of_lt (emod_lt_of_pos _ (by omega))
  ·exact emod_lt_of_pos _ (by omega)
 ·rintro ρ ⟨f,x5,rfl,f0,f1,f2⟩;unfold rG;walk_at "u";exact h f f0 (by omega)
theorem a79: ∀ds Q,kR ds Q->sL {nx:=λ_=>Q (.pu .non),rt:=Q} (init ["a","b","c","d","e","f"] ds):=by
 rintro ds Q ⟨raw,at',k,rfl,hr,hb,ha,k1,k8,h⟩;unfold sL;show(aT _ _:US) _ [some (.pu (.lst (raw.map .int))),some (.pu (.int (at':Int))),some (.pu (.int (k:Int))),none,none,none];rw[aK];walk_at "u";obtain⟨j,rfl⟩: ∃j,k=j+1:=⟨k-1,by omega⟩
 rw[show(((j+1:Nat):Int)-1)=(j:Int)by omega]
 have hat:atI [D.int (10^(60:Int).toNat),D.int (10^(40:Int).toNat),D.int (10^(26:Int).toNat),D.int (10^(20:Int).toNat),D.int (10^(16:Int).toNat),D.int (10^(13:Int).toNat),D.int (10^(11:Int).toNat),D.int (10^(10:Int).toNat)] (j:Int)=some (.int (10^ew (j+1))):=by
  apply d3
  match j,k8 with
  | 0,_|1,_|2,_|3,_|4,_|5,_|6,_|7,_=>rfl
 have pw:(10:Int)^ew (j+1)<=2^600/\(1:Int)<=10^ew (j+1):=by
  match j,k8 with
  | 0,_|1,_|2,_|3,_|4,_|5,_|6,_|7,_=>decide +kernel
 rw[hat];exact⟨cpl (by decide) (by decide) (by decide),cpl (by decide) (by decide) (by decide),cpl (by decide) (by decide) (by decide),cpl (by decide) (by decide) (by decide),cpl (by decide) (by decide) (by decide),cpl (by decide) (by decide) (by decide),cpl (by decide) (by decide) (by decide),cpl (by decide) (by decide) (by decide),by decide,a20 hr hb pw.2 pw.1 h⟩
structure DrO (k:Nat)(T:Nat->Nat->Int):Prop where
 st:rE k T
 hi: ∀i,i<k->T i i<=10^ew k
def kJ:Φ:=λds Q=> ∃(c:Int) (k:Nat) (p:Int),ds=[.int c,.int (k:Int),.int p]/\0<p/\1<=k/\k<=8/\ ∀T,DrO k T->Q (.pu (.tup (tbF k k T)))
def kK:US:=(bJ 6 (uOp bS (aC 6) (uC (.int 1))))
def gU:US:=(aT (kU (fN (uOp (jY false) (uIx (aP 3) (uC (.int 0))) (uC (.int 6)))) (nO 9 (uOp fU (b9 kR (aD (aC 4) (aD (aC 6) (aD (aC 1) aR)))) (uIx (uV (uIx (aP 5) (aC 10))) (aC 10))) (aC 10)) fW) kK)
def gW:US:=(aT (nO 9 (uOp fU (uIx (aP 4) (aC 6)) (uIx (uV (uIx (aP 5) (aC 10))) (aC 10))) (aC 10)) gU)
def mQ:US:=(jV 5 (b9 d6 (aD (aC 9) aR)))
def mR:US:=(aT (gY (eW (aD (aC 7) aR)) (cA 10) gW) mQ)
def gB:US:=(aT (bJ 9 (uOp bS (uOp bS (uOp bQ (eS (aD (uC (.int 0)) aR)) (aC 7)) (eS (aD (aC 8) aR))) (uOp bQ (eS (aD (uC (.int 0)) aR)) (uOp M.gSub (uOp M.gSub (aC 1) (uC (.int 1))) (aC 7))))) mR)
def jH:US:=(aT (kU (fN (uOp (jY false) (uIx (aP 3) (uC (.int 0))) (uC (.int 6)))) (bJ 8 (uOp bS (uC (.int 1)) (b9 kR (aD (aC 4) (aD (aC 7) (aD (aC 1) aR)))))) fW) gB)
def jI:US:=(aT (kU (fN (uOp (oJ λi j=>decide (i<j)) (uIx (aP 3) (uC (.int 0))) (uC (.int 6)))) (bJ 8 (uOp bS (uC (.int 1)) (uOp fU (uIx (aP 4) (aC 7)) (uC (.int 9))))) fW) jH)
def jJ:US:=(aT (bJ 8 (uOp bS (uC (.int 1)) (uIx (aP 4) (aC 7)))) jI)
def pD:US:=(gX (b9 d6 (aD (aC 5) aR)))
def pE:US:=(aT (gY (eW (aD (aC 1) aR)) (cA 7) jJ) pD)
def pF:US:=(aT (bJ 6 (aC 1)) pE)
def pG:US:=(aT (bJ 5 (eS aR)) pF)
def pH:US:=(aT (bJ 4 (uSl (uV (b9 dH (aD (aC 0) (aD (uOp bS (eS (aD (uC (.int 8)) aR)) (uOp bQ (eS (aD (uOp kW (uC (.int 10)) (uC (.int 6))) aR)) (uC (.int 36)))) (aD (aC 2) aR))))) (iL (uC (.int 1))) eE)) pG)
def pI:US:=(aT (bJ 3 (b9 dH (aD (aC 0) (aD (eS (aD (uC (.int 8)) aR)) (aD (aC 2) aR))))) pH)
theorem xP: ∀ds Q,kJ ds Q->ds.length=3:=by rintro ds Q ⟨ns,n,k,rfl,_⟩;rfl
def Lst (x:Option B)(l:List D):Prop:=x=some (.pu (.lst l))\/x=some (.ow l)
theorem p10 {k:Nat}(k1:1<=k)(k8:k<=8):(1000000:Int)<=10^ew k:=by
 match k,k1,k8 with
 | 1,_,_|2,_,_|3,_,_|4,_,_|5,_,_|6,_,_|7,_,_|8,_,_=>decide +kernel
theorem rd_d0 {E:UD}{c p d:Int}{k i:Nat}{raw:List Int}{x4 s5 s6 s8 s9 s10:Option B}(k1:1<=k)(k8:k<=8)(hr:raw.length=36)(hb: ∀x∈raw,0<=x/\x<1000000)(hi:i<k)(h4:Lst x4 (raw.map .int))
  (h: ∀o x4,Lst x4 (raw.map .int)->1<=o->o<=10^ew k->gB E [some (.pu (.int c)),some (.pu (.int (k:Int))),some (.pu (.int p)),some (.ow [.int d]),x4,s5,s6,some (.pu (.int (i:Int))),some (.pu (.int o)),s9,s10]) :
  jJ E [some (.pu (.int c)),some (.pu (.int (k:Int))),some (.pu (.int p)),some (.ow [.int d]),x4,s5,s6,some (.pu (.int (i:Int))),s8,s9,s10]:=by
 have hi':i<raw.length:=by omega
 have b:=hb _ (getElem_mem hi');have pw:=p10 k1 k8;have a0:atI [D.int d] 0=some (.int d):=rfl;have c2: ∀o x4,Lst x4 (raw.map .int)->1<=o->o<=10^ew k->jH E [some (.pu (.int c)),some (.pu (.int (k:Int))),some (.pu (.int p)),some (.ow [.int d]),x4,s5,s6,some (.pu (.int (i:Int))),some (.pu (.int o)),s9,s10]:=by
  intro o x4 h4 o1 o2;unfold jH;rw[aK];rcases h4 with rfl|rfl
  all_goals
   walk_at "u"
   simp only[a0]
   by_cases cc:d=6
   ·rw[if_pos cc];refine⟨raw,i,k,rfl,hr,hb,by omega,k1,k8,λx h1 h2=> ?_⟩
    exact h _ _ (.inl rfl) (by omega) (by omega)
   ·rw[if_neg cc];exact h _ _ (by first|exact .inl rfl|exact .inr rfl) o1 o2
 have c1: ∀o x4,Lst x4 (raw.map .int)->1<=o->o<=10^ew k->jI E [some (.pu (.int c)),some (.pu (.int (k:Int))),some (.pu (.int p)),some (.ow [.int d]),x4,s5,s6,some (.pu (.int (i:Int))),some (.pu (.int o)),s9,s10]:=by
  intro o x4 h4 o1 o2;unfold jI;rw[aK];rcases h4 with rfl|rfl
  all_goals
   walk_at "u"
   simp only[a0,mP hi'];rw[bP _ (show(0:Int)<9 by decide)]
   by_cases cc:d<6
   ·rw[if_pos (by simpa using cc)]
    exact⟨by decide,c2 _ _ (by first|exact .inl rfl|exact .inr rfl) (by omega) (by omega)⟩
   ·rw[if_neg (by simpa using cc)]
    exact c2 _ _ (by first|exact .inl rfl|exact .inr rfl) o1 o2
 unfold jJ;rw[aK];rcases h4 with rfl|rfl
 all_goals
  walk_at "u"
  simp only[mP hi'];exact c1 _ _ (by first|exact .inl rfl|exact .inr rfl) (by omega) (by omega)
structure RwO (T:Nat->Nat->Int)(o:Int)(i j:Nat)(g:Nat->Int):Prop where
 low: ∀r,r<j->0<=g r/\g r<T r r
 cor:g i=o
 high: ∀r,i<r->g r=0
theorem RwO.more {T:Nat->Nat->Int}{o x:Int}{i j:Nat}{g:Nat->Int}(h:RwO T o i j g)(hj:j<i)(x0:0<=x)(x1:x<T j j):RwO T o i (j+1) λr=>if r=j then x else g r:=by
 refine⟨λr hr=> ?_,?_,λr hr=> ?_⟩
 ·by_cases e:r=j
  ·subst e;rw[if_pos rfl];exact⟨x0,x1⟩
  ·rw[if_neg e];exact h.low r (by omega)
 ·rw[if_neg (by omega)];exact h.cor
 ·rw[if_neg (by omega)];exact h.high r hr
theorem rd_d1 {E:UD}{c p d o:Int}{k i j at':Nat}{raw:List Int}{T:Nat->Nat->Int}{g:Nat->Int}{x4 s8:Option B}(k1:1<=k)(k8:k<=8)(hr:raw.length=36)(hb: ∀x∈raw,0<=x/\x<1000000)(hi:i<k)(hj:j<i)(ha:at'<36)(tp: ∀r,r<i->1<=T r r)(h4:Lst x4 (raw.map .int))(hg:RwO T o i j g)
  (h: ∀g x4,Lst x4 (raw.map .int)->RwO T o i (j+1) g->E.nx [some (.pu (.int c)),some (.pu (.int (k:Int))),some (.pu (.int p)),some (.ow [.int d]),x4,some (.ow (tbF i k T)),some (.pu (.int ((at':Int)+1))),some (.pu (.int (i:Int))),s8,some (.ow ((rwF k g).map .int)),some (.pu (.int (j:Int)))]) :
  gW E [some (.pu (.int c)),some (.pu (.int (k:Int))),some (.pu (.int p)),some (.ow [.int d]),x4,some (.ow (tbF i k T)),some (.pu (.int (at':Int))),some (.pu (.int (i:Int))),s8,some (.ow ((rwF k g).map .int)),some (.pu (.int (j:Int)))]:=by
 have ha':at'<raw.length:=by omega
 have e1:atI (tbF i k T) (j:Int)=some (.tup ((rwF k (T j)).map .int)):=oY hj;have e2:atI ((rwF k (T j)).map D.int) (j:Int)=some (.int (T j j)):=gM (by omega)
 have a0:atI [D.int d] 0=some (.int d):=rfl;have t1:=tp j hj;have c1: ∀x x4,Lst x4 (raw.map .int)->0<=x->x<T j j->gU E [some (.pu (.int c)),some (.pu (.int (k:Int))),some (.pu (.int p)),some (.ow [.int d]),x4,some (.ow (tbF i k T)),some (.pu (.int (at':Int))),some (.pu (.int (i:Int))),s8,some (.ow ((rwF k λr=>if r=j then x else g r).map .int)),some (.pu (.int (j:Int)))]:=by
  intro x x4 h4 x0 x1;unfold gU kK;rw[aK];rcases h4 with rfl|rfl
  all_goals
   walk_at "u"
   simp only[a0]
   by_cases cc:d=6
   ·rw[if_pos cc];refine⟨raw,at',k,rfl,hr,hb,by omega,k1,k8,λy h1 h2=> ?_⟩
    simp only[e1,e2];rw[bP _ (show 0<T j j by omega),aL,jD (show j<k by omega)]
    dsimp only;rw[wL (by omega)]
    refine⟨by omega,h _ _ (.inl rfl) ?_⟩
    have hg':=hg.more hj (emod_nonneg y (show T j j≠0 by omega)) (emod_lt_of_pos y (show 0<T j j by omega))
    have ef:(λr=>if r=j then y%T j j else if r=j then x else g r)=λr=>if r=j then y%T j j else g r:=by
     funext r
     by_cases e:r=j
     ·rw[if_pos e,if_pos e]
     ·rw[if_neg e,if_neg e,if_neg e]
    rw[ef];exact hg'
   ·rw[if_neg cc];exact h _ _ (by first|exact .inl rfl|exact .inr rfl) (hg.more hj x0 x1)
 unfold gW;rw[aK];rcases h4 with rfl|rfl
 all_goals
  walk_at "u"
  simp only[mP ha',e1,e2];rw[bP _ (show 0<T j j by omega),aL,jD (show j<k by omega)]
  dsimp only;rw[wL (by omega)]
  exact⟨by omega,c1 _ _ (by first|exact .inl rfl|exact .inr rfl) (emod_nonneg _ (show T j j≠0 by omega)) (emod_lt_of_pos _ (show 0<T j j by omega))⟩
def tri:Nat->Nat
 | 0=>0
 | i+1=>tri i+i
theorem tri_lt {i k j:Nat}(hi:i<k)(k8:k<=8)(hj:j<i):k+tri i+j<36:=by
 have:tri i+i<=28:=by
  have:i<=7:=by omega
  match i,this with
  | 0,_|1,_|2,_|3,_|4,_|5,_|6,_|7,_=>decide
 omega
structure DpO (k i:Nat)(T:Nat->Nat->Int):Prop where
 pos: ∀r,r<i->1<=T r r
 zero: ∀r,r<i-> ∀j,r<j->T r j=0
 ahead: ∀r,r<i-> ∀j,j<r->0<=T r j/\T r j<T j j
 hi: ∀r,r<i->T r r<=10^ew k
theorem DpO.more {k i:Nat}{T:Nat->Nat->Int}{o:Int}{g:Nat->Int}(h:DpO k i T)(hg:RwO T o i i g)(o1:1<=o)(o2:o<=10^ew k):DpO k (i+1) λr=>if r=i then g else T r:=by
 refine⟨λr hr=> ?_,λr hr j hj=> ?_,λr hr j hj=> ?_,λr hr=> ?_⟩
 ·by_cases e:r=i
  ·subst e;rw[if_pos rfl,hg.cor];exact o1
  ·rw[if_neg e];exact h.pos r (by omega)
 ·by_cases e:r=i
  ·subst e;rw[if_pos rfl];exact hg.high j hj
  ·rw[if_neg e];exact h.zero r (by omega) j hj
 ·rw[if_neg (show j≠i by omega)]
  by_cases e:r=i
  ·subst e;rw[if_pos rfl];exact hg.low j hj
  ·rw[if_neg e];exact h.ahead r (by omega) j hj
 ·by_cases e:r=i
  ·subst e;rw[if_pos rfl,hg.cor];exact o2
  ·rw[if_neg e];exact h.hi r (by omega)
theorem rd_d3 {E:UD}{c p d o:Int}{k i:Nat}{raw:List Int}{T:Nat->Nat->Int}{x4 s9 s10:Option B}(k1:1<=k)(k8:k<=8)(hr:raw.length=36)(hb: ∀x∈raw,0<=x/\x<1000000)(hi:i<k)(ok:DpO k i T)(h4:Lst x4 (raw.map .int))(o1:1<=o)(o2:o<=10^ew k)
  (h: ∀T x4 s8 s9 s10,Lst x4 (raw.map .int)->DpO k (i+1) T->E.nx [some (.pu (.int c)),some (.pu (.int (k:Int))),some (.pu (.int p)),some (.ow [.int d]),x4,some (.ow (tbF (i+1) k T)),some (.pu (.int ((k+tri (i+1):Nat):Int))),some (.pu (.int (i:Int))),s8,s9,s10]) :
  gB E [some (.pu (.int c)),some (.pu (.int (k:Int))),some (.pu (.int p)),some (.ow [.int d]),x4,some (.ow (tbF i k T)),some (.pu (.int ((k+tri i:Nat):Int))),some (.pu (.int (i:Int))),some (.pu (.int o)),s9,s10]:=by
 unfold gB;rw[aK];walk_at "u";rw[show((k:Int)-1-(i:Int)).toNat=k-i-1 by omega,toNat_natCast]
 have er:=p7 (m:=o) hi;have el:=congrArg length er;rw[aL]at el;simp only[length_append,length_cons,length_nil]at el;have big:(10000:Nat)<=sizeLine:=by decide
 rw[er];refine⟨by omega,⟨by omega,by omega,by omega⟩,by omega,by omega,by omega,⟨by omega,by omega,by omega⟩,?_,?_⟩
 ·simp only[length_append,length_cons,length_nil];omega
 unfold mR;rw[aK];refine bH i (λj=> .int (0+(j:Int))) [some (.pu (.int c)),some (.pu (.int (k:Int))),some (.pu (.int p)),some (.ow [.int d]),x4,some (.ow (tbF i k T)),some (.pu (.int ((k+tri i:Nat):Int))),some (.pu (.int (i:Int))),some (.pu (.int o)),some (.ow ((rwF k (mE o i)).map .int)),s10] ?_
  (λj ρ=> ∃(g:Nat->Int) (x4 s10:Option B),ρ=[some (.pu (.int c)),some (.pu (.int (k:Int))),some (.pu (.int p)),some (.ow [.int d]),x4,some (.ow (tbF i k T)),some (.pu (.int ((k+tri i+j:Nat):Int))),some (.pu (.int (i:Int))),some (.pu (.int o)),some (.ow ((rwF k g).map .int)),s10]/\Lst x4 (raw.map .int)/\RwO T o i j g)
  ⟨_,x4,s10,rfl,h4,λr hr=>absurd hr (not_lt_zero _),if_pos rfl,λr hr=>if_neg (by omega)⟩ ?_ ?_
 ·intro Q' q;walk_at "u";exact⟨⟨by omega,by omega⟩,by rw[toNat_natCast];exact q⟩
 ·rintro j ρ hj ⟨g,x4,s10,rfl,h4,hg⟩;refine⟨by simp,?_⟩
  have ez:0+(j:Int)=(j:Int):=by omega
  rw[ez];refine rd_d1 (at':=k+tri i+j) k1 k8 hr hb hi hj (tri_lt hi k8 hj) ok.pos h4 hg λg' y4 h5 hg'=>⟨g',y4,some (.pu (.int (j:Int))),?_,h5,hg'⟩
  rfl
 ·rintro ρ ⟨g,x4,s10,rfl,h4,hg⟩;unfold mQ;walk_at "u";have:=h (λr=>if r=i then g else T r) x4 (some (.pu (.int o))) (some (.pu (.lst ((rwF k g).map .int)))) s10 h4 (ok.more hg o1 o2)
  rw[<-tP,show k+tri (i+1)=k+tri i+i from(add_assoc _ _ _).symm]at this
  exact⟨by rw[eK];omega,this⟩
theorem a21 {xs:List Int}{w v:Int}{n:Nat}(h:Below xs (w::replicate n v)):(xs.drop 1).length=n/\ ∀x∈xs.drop 1,0<=x/\x<v:=by
 obtain⟨hl,hb⟩:=h;simp only[length_cons,length_replicate]at hl;refine⟨by rw[length_drop];omega,λx hx=> ?_⟩
 obtain⟨i,hi⟩:=List.getElem?_of_mem hx;rw[getElem?_drop]at hi;have:i<n:=by
  have:=(List.getElem?_eq_some_iff.mp hi).1;omega
 refine hb (1+i) x v hi ?_
 rw[add_comm,List.getElem?_cons_succ,getElem?_replicate,if_pos this]
theorem a22: ∀ds Q,kJ ds Q->pI {nx:=λ_=>Q (.pu .non),rt:=Q} (init ["a","b","c","d","e","f","g","h","i","j","k"] ds):=by
 rintro ds Q ⟨c,k,p,rfl,p0,k1,k8,h⟩;have big:(10000:Nat)<=sizeLine:=by decide
 unfold pI;show(aT _ _:US) _ [some (.pu (.int c)),some (.pu (.int (k:Int))),some (.pu (.int p)),none,none,none,none,none,none,none,none];rw[aK];walk_at "u";refine⟨by decide,c,[8],p,rfl,by decide,p0,by decide,λdeep hd=> ?_⟩
 obtain⟨d,rfl⟩: ∃d,deep=[d]:=by
  match deep,hd.1 with
  | [d],_=>exact⟨d,rfl⟩
 unfold pH;rw[aK];walk_at "u";rw[fQ];refine⟨by decide,cpl (by decide) (by decide) (by decide),by decide,⟨by decide,by decide,by decide⟩,by simp;omega,c,8::replicate 36 1000000,p,rfl,by simp,p0,?_,λxs hx=> ?_⟩
 ·intro w hw;rcases List.mem_cons.mp hw with rfl|hw
  ·decide
  ·rw[List.eq_of_mem_replicate hw];decide
 obtain⟨hr,hb⟩:=a21 hx;dsimp only;have ed:cutD (xs.map D.int) (some 1) none=(xs.drop 1).map D.int:=by
  have:=kF (xs.map D.int) 1 (by rw[length_map,hx.1];simp)
  rw[map_drop];exact this
 rw[ed];generalize xs.drop 1=raw at hr hb;unfold pG;rw[aK];walk_at "u";refine⟨by omega,?_⟩
 unfold pF;rw[aK];walk_at "u";unfold pE;rw[aK];refine bH k (λj=> .int (0+(j:Int))) [some (.pu (.int c)),some (.pu (.int (k:Int))),some (.pu (.int p)),some (.ow [.int d]),some (.ow (raw.map .int)),some (.ow []),some (.pu (.int (k:Int))),none,none,none,none] ?_
  (λi ρ=> ∃(T:Nat->Nat->Int) (x4 s7 s8 s9 s10:Option B),ρ=[some (.pu (.int c)),some (.pu (.int (k:Int))),some (.pu (.int p)),some (.ow [.int d]),x4,some (.ow (tbF i k T)),some (.pu (.int ((k+tri i:Nat):Int))),s7,s8,s9,s10]/\Lst x4 (raw.map .int)/\DpO k i T)
  ⟨λ_ _=>0,_,none,none,none,none,rfl,.inr rfl,λr hr=>absurd hr (not_lt_zero _),λr hr=>absurd hr (not_lt_zero _),λr hr=>absurd hr (not_lt_zero _),λr hr=>absurd hr (not_lt_zero _)⟩ ?_ ?_
 ·intro Q' q;walk_at "u";exact⟨⟨by omega,by omega⟩,by rw[toNat_natCast];exact q⟩
 ·rintro i ρ hi ⟨T,x4,s7,s8,s9,s10,rfl,h4,ok⟩;refine⟨by simp,?_⟩
  have ez:0+(i:Int)=(i:Int):=by omega
  rw[ez];refine rd_d0 k1 k8 hr hb hi h4 λo y4 h5 o1 o2=> ?_
  exact rd_d3 k1 k8 hr hb hi ok h5 o1 o2 λT z4 z8 z9 z10 h6 ok'=>⟨T,z4,_,z8,z9,z10,rfl,h6,ok'⟩
 ·rintro ρ ⟨T,x4,s7,s8,s9,s10,rfl,h4,ok⟩;unfold pD;walk_at "u";exact h T ⟨⟨⟨ok.pos,ok.zero⟩,ok.ahead⟩,ok.hi⟩
def j3:Φ:=λds Q=> ∃(c:Int) (k:Nat) (T:Nat->Nat->Int) (m p:Int),ds=[.int c,.tup (tbF k k T),.int m,.int p]/\0<p/\1<=k/\k<=8/\1<=m/\m<=2^600/\(∀i j,(T i j).natAbs<=2^600)/\(∀j,j<k->Gen k (Rows k T) (mE m j))/\ ∀L,LOk k L->L.length<=20->(∀v,Gen k (RM k m (LR L)) v↔Gen k (Rows k T) v)->Q (.ow (L.map aO))
def pJ:US:=(gX (d7 [] [none,none] 1 (jO (uOp bS (uSl (aP 6) (iL (aC 11)) eE) (uSl (aP 6) eE (iL (aC 11))))) (cA 0) (λρ Q=>Q true ρ) (b9 d6 (aD (aC 0) aR))))
def lP:US:=(aT (bJ 11 (uOp fU (uOp bS (uIx (aP 5) (uC (.int 0))) (uOp bQ (uC (.int 3)) (uIx (aP 5) (uC (.int 1))))) (mZ (aP 6)))) pJ)
def lQ:US:=(aT (kU (fN (uOp (oJ λi j=>decide (j<i)) (uIx (aP 5) (uC (.int 1))) (uC (.int 1)))) (jV 6 (b9 hV (aD (uIx (aP 6) (uC (.int 0))) aR))) fW) lP)
def jK:US:=(aT (kU (fN (uOp (jY false) (uOp fU (uIx (aP 5) (uC (.int 1))) (uC (.int 2))) (uC (.int 1)))) (jV 6 (uOp bQ (eS (aD (uC (.int 0)) aR)) (aC 4))) fW) lQ)
def lR:US:=(aT (gY (eW (aD (uIx (aP 5) (uC (.int 0))) aR)) (cA 7) (aT (bJ 10 (uOp bQ (eS (aD (uC (.int 0)) aR)) (aC 4))) (aT (gY (eW (aD (aC 4) aR)) (cA 8) (bJ 10 (d7 [4,7,8] [none,none,some 5,some 4,some 7,some 8,none] 6 (qD (aD (aC 10) (aD (uIx (aP 1) (aC 8)) aR))) (gI (bR 0 (bR 1 gH))) (λρ Q=>Q true ρ) (uOp bS (aC 0) (uOp bQ (uOp M.gSub (uIx (aP 2) (uOp bS (uOp bS (uOp bS (uC (.int 2)) (uOp bQ (uC (.int 6)) (aC 3))) (uOp bQ (uC (.int 8)) (aC 4))) (aC 5))) (uC (.int 2))) (aC 1)))))) (jV 6 (aC 10))))) jK)
def pK:US:=(aT (tO 6 7 (aD (uOp bQ (uC (.int 2)) (aC 4)) aR) (aT (rA 6 8 (uOp fU (aC 7) (aC 4))) (aT (rA 6 9 (uIx (aP 5) (uOp bS (uC (.int 2)) (uOp bQ (uC (.int 3)) (aC 7))))) (aT (a68 (fN (uOp (jY true) (aC 9) (aC 8))) (tN 6 (d7 [7] [none,none,some 5,some 7,none] 4 (qD (aD (uIx (aP 6) (aC 8)) (aD (uIx (aP 6) (aC 9)) aR))) (gI (bR 0 (bR 1 gH))) (λρ Q=>Q true ρ) (uOp bS (aC 0) (uOp bQ (uOp M.gSub (uIx (aP 2) (uOp bS (uC (.int 3)) (uOp bQ (uC (.int 3)) (aC 3)))) (uC (.int 2))) (aC 1)))) (aC 8)) fW) (sG 6 (uOp bS (uIx (uV (uIx (aP 6) (aC 8))) (aC 9)) (uOp bQ (aC 2) (uOp M.gSub (uIx (aP 5) (uOp bS (uC (.int 4)) (uOp bQ (uC (.int 3)) (aC 7)))) (uC (.int 1))))) (aC 8) (aC 9)))))) lR)
def pL:US:=(aT (sI 6 (aC 1)) pK)
def pM:US:=(aT (bJ 5 (b9 dH (aD (aC 0) (aD (uOp bS (uOp bS (eS (aD (uC (.int 4)) (aD (uC (.int 4)) aR))) (uOp bQ (eS (aD (aC 4) (aD (uC (.int 5)) (aD (uC (.int 3)) aR)))) (uOp bQ (uC (.int 2)) (aC 4)))) (uOp bQ (eS (aD (uC (.int 5)) aR)) (uC (.int 24)))) (aD (aC 3) aR))))) pL)
def nJ:US:=(aT (bJ 4 (mZ (aP 1))) pM)
theorem vJ: ∀ds Q,j3 ds Q->ds.length=4:=by rintro ds Q ⟨c,k,T,m,p,rfl,_⟩;rfl
def kL (u:Nat->Nat->Int)(i:Nat)(w:Nat->Int):Nat->Nat->Int:=λr=>if r=i then λj=>u i j+w j else u r
theorem wR {k i:Nat}{m:Int}{u:Nat->Nat->Int}{w:Nat->Int}(hi:i<k)(hw:Gen k (λv=>(∃r,r<k/\r≠i/\v=u r)\/ ∃j,j<k/\v=mE m j) w): ∀v,Gen k (RM k m (Rows k (kL u i w))) v↔Gen k (RM k m (Rows k u)) v:=by
 have nr: ∀r,r≠i->kL u i w r=u r:=λr hr=>if_neg hr
 have ni:kL u i w i=λj=>u i j+w j:=if_pos rfl
 have w1:Gen k (RM k m (Rows k u)) w:=hw.mono λv hv=> .base (hv.imp (λ⟨r,hr,_,e⟩=>⟨r,hr,e⟩) id)
 have w2:Gen k (RM k m (Rows k (kL u i w))) w:=hw.mono λv hv=> .base (hv.imp (λ⟨r,hr,n,e⟩=>⟨r,hr,by rw[nr r n];exact e⟩) id)
 refine λv=>⟨Gen.mono λr hr=> ?_,Gen.mono λr hr=> ?_⟩
 ·rcases hr with⟨q,hq,rfl⟩|hr
  ·by_cases e:q=i
   ·subst e;rw[ni];exact Gen.add (.base (.inl ⟨q,hq,rfl⟩)) w1
   ·rw[nr q e];exact .base (.inl ⟨q,hq,rfl⟩)
  ·exact .base (.inr hr)
 ·rcases hr with⟨q,hq,rfl⟩|hr
  ·by_cases e:q=i
   ·subst e;have h1:Gen k (RM k m (Rows k (kL u q w))) (kL u q w q):= .base (.inl ⟨q,hq,rfl⟩);rw[ni]at h1;exact(Gen.sub h1 w2).cong λj _=>by omega
   ·exact .base (.inl ⟨q,hq,by rw[nr q e]⟩)
  ·exact .base (.inr hr)
def cG (k:Nat)(u:Nat->Nat->Int):List (List Int):=(List.range k).map λi=>rwF k (u i)
theorem fK (k:Nat)(u:Nat->Nat->Int):(cG k u).length=k:=by simp[cG]
theorem j4 {k i:Nat}{u:Nat->Nat->Int}(h:i<k):(cG k u)[i]? =some (rwF k (u i)):=by simp[cG,h]
theorem rJ {k i:Nat}{u u':Nat->Nat->Int}(hi:i<k)(h: ∀r,r≠i->u' r=u r):(cG k u).set i (rwF k (u' i))=cG k u':=by
 apply ext_getElem?
 intro j
 by_cases e:i=j
 ·subst e;rw[aU (by rw[fK];exact hi),j4 hi]
 ·rw[get_set_ne e]
  by_cases hj:j<k
  ·rw[j4 hj,j4 hj,h j (λz=>e z.symm)]
  ·rw[getElem?_eq_none (by rw[fK];omega),getElem?_eq_none (by rw[fK];omega)]
theorem pN {k i:Nat}{u:Nat->Nat->Int}(h:i<k):atI ((cG k u).map cV) (i:Int)=some (.lst ((rwF k (u i)).map .int)):=d3 (by rw[getElem?_map,j4 h];rfl)
theorem rK (k:Nat)(u:Nat->Nat->Int):(cG k u).map qE=tbF k k u:=by
 unfold cG tbF;rw[map_map];rfl
theorem xQ {k:Nat}{m:Int}{u:Nat->Nat->Int}: ∀v,Gen k (RM k m (LR (cG k u))) v↔Gen k (RM k m (Rows k u)) v:=by
 have e: ∀i j,j<k->fnL (rwF k (u i)) j=u i j:=λi j hj=>by
  unfold fnL;rw[getD_eq_getElem?_getD,hZ hj];rfl
 refine λv=>⟨Gen.mono λr hr=> ?_,Gen.mono λr hr=> ?_⟩
 ·rcases hr with⟨l,hl,rfl⟩|hr
  ·obtain⟨i,hi,rfl⟩:=List.mem_map.mp hl;exact(Gen.base (.inl ⟨i,List.mem_range.mp hi,rfl⟩)).cong λj hj=>(e i j hj).symm
  ·exact .base (.inr hr)
 ·rcases hr with⟨i,hi,rfl⟩|hr
  ·exact(Gen.base (.inl ⟨rwF k (u i),List.mem_map.mpr ⟨i,List.mem_range.mpr hi,rfl⟩,rfl⟩)).cong λj hj=>e i j hj
  ·exact .base (.inr hr)
structure HOk (k:Nat)(m:Int)(T:Nat->Nat->Int)(N:Nat)(L:List (List Int)):Prop where
 len: ∀l∈L,l.length=k
 sm: ∀l∈L,∀x∈l,x.natAbs<=2^1000
 few:L.length<=N
 pos:1<=L.length
 gen: ∀v,Gen k (RM k m (LR L)) v↔Gen k (Rows k T) v
theorem HOk.app {k N:Nat}{m:Int}{T:Nat->Nat->Int}{L:List (List Int)}{l:List Int}(h:HOk k m T N L)(hl:l.length=k)(hs: ∀x∈l,x.natAbs<=2^1000)(g:Gen k (Rows k T) (fnL l)):HOk k m T (N+1) (L++[l]):=by
 refine⟨λr hr=> ?_,λr hr=> ?_,by rw[length_append];have:=h.few;simp;omega,by rw[length_append];simp,λv=> ?_⟩
 ·rcases List.mem_append.mp hr with hr|hr
  ·exact h.len r hr
  ·rw[List.mem_singleton.mp hr];exact hl
 ·rcases List.mem_append.mp hr with hr|hr
  ·exact h.sm r hr
  ·rw[List.mem_singleton.mp hr];exact hs
 ·rw[<-h.gen v];refine⟨Gen.mono λr hr=> ?_,Gen.mono λr hr=> ?_⟩
  ·rcases hr with⟨q,hq,rfl⟩|hr
   ·rcases List.mem_append.mp hq with hq|hq
    ·exact .base (.inl ⟨q,hq,rfl⟩)
    ·rw[List.mem_singleton.mp hq];exact(h.gen _).mpr g
   ·exact .base (.inr hr)
  ·rcases hr with⟨q,hq,rfl⟩|hr
   ·exact .base (.inl ⟨q,mem_append_left _ hq,rfl⟩)
   ·exact .base (.inr hr)
theorem HOk.turn {k N f:Nat}{m:Int}{T:Nat->Nat->Int}{L:List (List Int)}(h:HOk k m T N L):HOk k m T N (L.drop f++L.take f):=by
 have mm: ∀l,l∈L.drop f++L.take f↔l∈L:=λl=>by
  rw[List.mem_append,or_comm,<-List.mem_append,List.take_append_drop]
 refine⟨λr hr=>h.len r ((mm r).mp hr),λr hr=>h.sm r ((mm r).mp hr),?_,?_,λv=> ?_⟩
 ·rw[length_append,add_comm,<-length_append,List.take_append_drop];exact h.few
 ·rw[length_append,add_comm,<-length_append,List.take_append_drop];exact h.pos
 ·rw[<-h.gen v];exact⟨Gen.mono λr hr=> .base (hr.imp (λ⟨l,hl,e⟩=>⟨l,(mm l).mp hl,e⟩) id),Gen.mono λr hr=> .base (hr.imp (λ⟨l,hl,e⟩=>⟨l,(mm l).mpr hl,e⟩) id)⟩
structure XOk (k:Nat)(xs:List Int):Prop where
 len:xs.length=26+6*k
 b0:0<=xs.getD 0 0/\xs.getD 0 0<4
 b1:0<=xs.getD 1 0/\xs.getD 1 0<4
 bj: ∀s,s<2*k->0<=xs.getD (2+3*s) 0/\xs.getD (2+3*s) 0<k
 bc: ∀s,s<2*k->0<=xs.getD (3+3*s) 0/\xs.getD (3+3*s) 0<5
 bm: ∀s,s<2*k->0<=xs.getD (4+3*s) 0/\xs.getD (4+3*s) 0<3
 bs: ∀t,t<24->0<=xs.getD (2+6*k+t) 0/\xs.getD (2+6*k+t) 0<5
theorem rep3 {a b c:Int}: ∀{n s j:Nat},s<n->j<3->((replicate n [a,b,c]).flatten)[3*s+j]? =[a,b,c][j]?
 | n+1,0,j,_,hj=>by
  rw[replicate_succ,flatten_cons,getElem?_append_left (by simp;omega),Nat.mul_zero,Nat.zero_add]
 | n+1,s+1,j,hs,hj=>by
  rw[replicate_succ,flatten_cons,getElem?_append_right (by simp;omega)]
  rw[show 3*(s+1)+j-[a,b,c].length=3*s+j by simp;omega]
  exact rep3 (by omega) hj
theorem fS {a b c:Int}: ∀n:Nat,((replicate n [a,b,c]).flatten).length=3*n
 | 0=>rfl
 | n+1=>by rw[replicate_succ,flatten_cons,length_append,fS n];simp;omega
def wsH (k:Nat):List Int:=[4,4]++(replicate (2*k) [(k:Int),5,3]).flatten++replicate 24 5
theorem x_ok {k:Nat}{xs:List Int}(h:Below xs (wsH k)):XOk k xs:=by
 obtain⟨hl,hb⟩:=h;have wl:(wsH k).length=26+6*k:=by
  unfold wsH;rw[length_append,length_append,fS,length_replicate];simp;omega
 have at': ∀j w,(wsH k)[j]? =some w->0<=xs.getD j 0/\xs.getD j 0<w:=λj w hw=>by
  have hj:j<xs.length:=by rw[hl];exact(List.getElem?_eq_some_iff.mp hw).1
  rw[getD_eq_getElem?_getD,getElem?_eq_getElem hj];exact hb j _ w (getElem?_eq_getElem hj) hw
 have mid: ∀s j,s<2*k->j<3->(wsH k)[2+3*s+j]? =[(k:Int),5,3][j]? :=λs j hs hj=>by
  unfold wsH;rw[getElem?_append_left (by rw[length_append,fS];simp;omega),getElem?_append_right (by simp;omega)]
  rw[show 2+3*s+j-([4,4]:List Int).length=3*s+j by simp;omega]
  exact rep3 hs hj
 refine⟨by rw[hl,wl],at' 0 4 rfl,at' 1 4 rfl,λs hs=>at' _ _ (mid s 0 hs (by decide)),λs hs=> ?_,λs hs=> ?_,λt ht=>at' _ _ ?_⟩
 ·have:=mid s 1 hs (by decide)
  rw[show 2+3*s+1=3+3*s by omega]at this
  exact at' _ _ this
 ·have:=mid s 2 hs (by decide)
  rw[show 2+3*s+2=4+3*s by omega]at this
  exact at' _ _ this
 ·unfold wsH;rw[getElem?_append_right (by rw[length_append,fS];simp;omega),length_append,fS,getElem?_replicate,if_pos (by simp;omega)]
theorem lB {l:List Int}{j:Nat}(h:j<l.length):atI (l.map D.int) (j:Int)=some (.int (l.getD j 0)):=by
 rw[mP h,getD_eq_getElem?_getD,getElem?_eq_getElem h];rfl
theorem a23 {ρ:Ev}(h: ∀x∈ρ,∀l,x≠some (.bo l)):v8 ρ:=λi l e=>h _ (mem_of_getElem? e) l rfl
theorem tX {r t0:Nat}{ta:UA}{tb:US}{E:UD}{ρ:Ev}(ne:t0≠r)(j:Nat)(hta: ∀Q:List D->Ev->Prop,Q [.int (j:Int)] ρ->ta ρ Q)(hj:j<2^60)(Pv:Nat->Ev->Prop)(h0:Pv 0 ρ)
  (hs: ∀i ρ',i<j->Pv i ρ'->t0<ρ'.length/\tb {nx:=Pv (i+1),rt:=λ_=>False} (ρ'.set t0 (some (.pu (.int (0+(i:Int))))))) (hf: ∀ρ',Pv j ρ'->E.nx ρ'):tO r t0 ta tb E ρ:=by
 refine⟨ne,hta _ ⟨(j:Int),rfl,⟨by omega,by omega⟩,Pv,h0,?_,?_⟩⟩
 ·rw[toNat_natCast];exact hs
 ·rw[toNat_natCast];exact hf
def hb3:US:=(sG 6 (uOp bS (uIx (uV (uIx (aP 6) (aC 8))) (aC 9)) (uOp bQ (aC 2) (uOp M.gSub (uIx (aP 5) (uOp bS (uC (.int 4)) (uOp bQ (uC (.int 3)) (aC 7)))) (uC (.int 1))))) (aC 8) (aC 9))
def hbr:US:=(tN 6 (d7 [7] [none,none,some 5,some 7,none] 4 (qD (aD (uIx (aP 6) (aC 8)) (aD (uIx (aP 6) (aC 9)) aR))) (gI (bR 0 (bR 1 gH))) (λρ Q=>Q true ρ) (uOp bS (aC 0) (uOp bQ (uOp M.gSub (uIx (aP 2) (uOp bS (uC (.int 3)) (uOp bQ (uC (.int 3)) (aC 3)))) (uC (.int 2))) (aC 1)))) (aC 8))
def hb2:US:=(aT (a68 (fN (uOp (jY true) (aC 9) (aC 8))) hbr fW) hb3)
def hb1:US:=(aT (rA 6 9 (uIx (aP 5) (uOp bS (uC (.int 2)) (uOp bQ (uC (.int 3)) (aC 7))))) hb2)
def hb0:US:=(aT (rA 6 8 (uOp fU (aC 7) (aC 4))) hb1)
theorem qG:pK=(aT (tO 6 7 (aD (uOp bQ (uC (.int 2)) (aC 4)) aR) hb0) lR):=rfl
theorem a24 {n j:Nat}{f:Nat->Int}{v:Int}(h:j<n):(rwF n f).set j v=rwF n λx=>if x=j then v else f x:=by
 apply ext_getElem?
 intro r
 by_cases e:j=r
 ·subst e;rw[aU (by rw[dZ];exact h),hZ h,if_pos rfl]
 ·rw[get_set_ne e]
  by_cases hr:r<n
  ·rw[hZ hr,hZ hr,if_neg (λz=>e z.symm)]
  ·rw[getElem?_eq_none (by rw[dZ];omega),getElem?_eq_none (by rw[dZ];omega)]
theorem a94 {E:UD}{c m p:Int}{k s i q:Nat}{T u:Nat->Nat->Int}{xs:List Int}{x10 x11:Option B}(x:XOk k xs)(k8:k<=8)(hs:s<2*k)(hi:i<k)(hq:q<k)(sm:Sm m)
  (h:E.nx [some (.pu (.int c)),some (.pu (.tup (tbF k k T))),some (.pu (.int m)),some (.pu (.int p)),some (.pu (.int (k:Int))),some (.ow (xs.map .int)),some (.ow ((cG k (kL u i λj=>if j=q then m*(xs.getD (4+3*s) 0-1)else 0)).map cV)),some (.pu (.int (s:Int))),some (.pu (.int (i:Int))),some (.pu (.int (q:Int))),x10,x11]) :
  hb3 E [some (.pu (.int c)),some (.pu (.tup (tbF k k T))),some (.pu (.int m)),some (.pu (.int p)),some (.pu (.int (k:Int))),some (.ow (xs.map .int)),some (.ow ((cG k u).map cV)),some (.pu (.int (s:Int))),some (.pu (.int (i:Int))),some (.pu (.int (q:Int))),x10,x11]:=by
 have e1:atI ((cG k u).map cV) (i:Int)=some (.lst ((rwF k (u i)).map .int)):=pN hi;have e2:atI ((rwF k (u i)).map D.int) (q:Int)=some (.int (u i q)):=gM hq;have e3:atI (xs.map D.int) (4+3*(s:Int))=some (.int (xs.getD (4+3*s) 0)):=by
  have:=lB (l:=xs) (j:=4+3*s) (by rw[x.len];omega)
  rw[<-this]
  congr 1
 have b:=x.bm s hs;unfold hb3;walk_at "u";simp only[e1,e2,e3];refine⟨.inr ⟨bB (e:=64) (by decide) (by decide),bB (e:=64) (by omega) (by decide)⟩,.inr ⟨sm,bB (e:=64) (by omega) (by decide)⟩,_,rfl,i,cG k u,rwF k (u i),rfl,rfl,j4 hi,q,rfl,by rw[dZ];exact hq,?_⟩
 have es:(cG k u).set i ((rwF k (u i)).set q (u i q+m*(xs.getD (4+3*s) 0-1)))=cG k (kL u i λj=>if j=q then m*(xs.getD (4+3*s) 0-1)else 0):=by
  rw[<-rJ (u:=u) (u':=kL u i λj=>if j=q then m*(xs.getD (4+3*s) 0-1)else 0) hi λr hr=>if_neg hr,a24 hq]
  congr 1
  refine nG λj hj=> ?_
  unfold kL;rw[if_pos rfl];dsimp only
  by_cases e:j=q
  ·rw[if_pos e,if_pos e,e]
  ·rw[if_neg e,if_neg e];omega
 rw[es];exact h
theorem rd_hr {E:UD}{c m p:Int}{k s i q e:Nat}{T u:Nat->Nat->Int}{xs:List Int}{x10 x11:Option B}(x:XOk k xs)(k8:k<=8)(hs:s<2*k)(hi:i<k)(hq:q<k)(hu: ∀r j,(u r j).natAbs<=2^e)(he:e<9000)
  (h:E.nx [some (.pu (.int c)),some (.pu (.tup (tbF k k T))),some (.pu (.int m)),some (.pu (.int p)),some (.pu (.int (k:Int))),some (.ow (xs.map .int)),some (.ow ((cG k (kL u i λj=>(xs.getD (3+3*s) 0-2)*u q j)).map cV)),some (.pu (.int (s:Int))),some (.pu (.int (i:Int))),some (.pu (.int (q:Int))),x10,x11]) :
  hbr E [some (.pu (.int c)),some (.pu (.tup (tbF k k T))),some (.pu (.int m)),some (.pu (.int p)),some (.pu (.int (k:Int))),some (.ow (xs.map .int)),some (.ow ((cG k u).map cV)),some (.pu (.int (s:Int))),some (.pu (.int (i:Int))),some (.pu (.int (q:Int))),x10,x11]:=by
 have e1:atI ((cG k u).map cV) (i:Int)=some (.lst ((rwF k (u i)).map .int)):=pN hi;have e2:atI ((cG k u).map cV) (q:Int)=some (.lst ((rwF k (u q)).map .int)):=pN hq;have e3:atI (xs.map D.int) (3+3*(s:Int))=some (.int (xs.getD (3+3*s) 0)):=by
  have:=lB (l:=xs) (j:=3+3*s) (by rw[x.len];omega)
  rw[<-this]
  congr 1
 have b:=x.bc s hs;unfold hbr tN
 refine fB (t0:=0) (t1:=1) k (λj=>((rwF k (u i)).map D.int).getD j .non) (λj=>((rwF k (u q)).map D.int).getD j .non) [some (.pu (.int c)),some (.pu (.tup (tbF k k T))),some (.pu (.int m)),some (.pu (.int p)),some (.pu (.int (k:Int))),some (.ow (xs.map .int)),some (.ow ((cG k u).map cV)),some (.pu (.int (s:Int))),some (.pu (.int (i:Int))),some (.pu (.int (q:Int))),x10,x11] ?_ (by omega)
  (λx y z=>[x,y,some (.bo (xs.map .int)),some (.pu (.int (s:Int))),some (.ow z)]) none none rfl (λ_ _ _ _ _=>rfl) (λ_ _ _=>⟨by simp,by simp⟩) (λ_ _ _ _ q=>q) (λ_ _ _ _=>rfl) (λj=> .int (u i j+(xs.getD (3+3*s) 0-2)*u q j)) ?_ ?_
 ·intro Q' q';walk_at "u";simp only[e1,e2];rw[aL,aL,min_self];exact q'
 ·intro j l Q' hj q';rw[cW hj,cW (by omega)]at q'⊢
  walk_at "u"
  simp only[e3];exact⟨.inr ⟨bB (e:=64) (by decide) (by decide),bB (e:=64) (by omega) (by decide)⟩,.inr ⟨bB (e:=64) (by omega) (by decide),bB (hu q j) he⟩,q'⟩
 ·walk_at "u"
  rw[eJ];refine⟨_,rfl,i,cG k u,rfl,rfl,by rw[fK];exact hi,?_⟩
  have es:(cG k u).set i (rwF k λj=>u i j+(xs.getD (3+3*s) 0-2)*u q j)=cG k (kL u i λj=>(xs.getD (3+3*s) 0-2)*u q j):=by
   rw[<-rJ (u:=u) (u':=kL u i λj=>(xs.getD (3+3*s) 0-2)*u q j) hi λr hr=>if_neg hr]
   congr 2
   exact(if_pos rfl).symm
  rw[es];exact h
structure UOk (k:Nat)(m:Int)(T:Nat->Nat->Int)(e:Nat)(u:Nat->Nat->Int):Prop where
 bd: ∀r j,(u r j).natAbs<=2^e
 gen: ∀v,Gen k (RM k m (Rows k u)) v↔Gen k (Rows k T) v
theorem UOk.row {k e i q:Nat}{m z:Int}{T u:Nat->Nat->Int}(h:UOk k m T e u)(hi:i<k)(hq:q<k)(ne:q≠i)(z1: -2<=z)(z2:z<=2):UOk k m T (e+2) (kL u i λj=>z*u q j):=by
 refine⟨λr j=> ?_,λv=>(wR hi (Gen.mul (.base (.inl ⟨q,hq,ne,rfl⟩)) z) v).trans (h.gen v)⟩
 have p4:2^(e+2)=4*2^e:=by rw[pow_add];omega
 rw[p4];unfold kL;split
 ·have h1:=h.bd i j;have h2:=h.bd q j;have h3:(z*u q j).natAbs<=2*2^e:=by
   rw[natAbs_mul];exact mul_le_mul (by omega) h2
  dsimp only;generalize z*u q j=y at h3;generalize 2^e=P at *;omega
 ·have:=h.bd r j;omega
theorem UOk.cell {k e i q:Nat}{m z:Int}{T u:Nat->Nat->Int}(h:UOk k m T e u)(hi:i<k)(hq:q<k)(z1: -1<=z)(z2:z<=1)(hm:m.natAbs<=2^e):UOk k m T (e+1) (kL u i λj=>if j=q then m*z else 0):=by
 have hw:Gen k (λv=>(∃r,r<k/\r≠i/\v=u r)\/ ∃j,j<k/\v=mE m j) λj=>if j=q then m*z else 0:=by
  refine(Gen.mul (.base (.inr ⟨q,hq,rfl⟩)) z).cong λj _=> ?_
  unfold mE;split
  ·rw[Int.mul_comm]
  ·rw[mul_zero]
 refine⟨λr j=> ?_,λv=>(wR hi hw v).trans (h.gen v)⟩
 have p4:2^(e+1)=2*2^e:=by rw[pow_add];omega
 rw[p4];have h3:(m*z).natAbs<=2^e:=by
  rw[natAbs_mul]
  calc m.natAbs*z.natAbs<=m.natAbs*1:=mul_le_mul (le_refl _) (by omega)
   _<=2^e:=by omega
 unfold kL;split
 ·have h1:=h.bd i j;dsimp only;generalize m*z=y at h3;generalize 2^e=P at *;split<;>omega
 ·have:=h.bd r j;omega
theorem UOk.up {k e e':Nat}{m:Int}{T u:Nat->Nat->Int}(h:UOk k m T e u)(he:e<=e'):UOk k m T e' u:=⟨λr j=>le_trans (h.bd r j) (pow_le_pow_right (by decide) he),h.gen⟩
theorem rd_hb {E:UD}{c m p:Int}{k s:Nat}{T u:Nat->Nat->Int}{xs:List Int}{x8 x9 x10 x11:Option B}(x:XOk k xs)(k1:1<=k)(k8:k<=8)(hs:s<2*k)(hm:m.natAbs<=2^600)(hu:UOk k m T (600+3*s) u)
  (h: ∀u x8 x9,UOk k m T (600+3*(s+1)) u->E.nx [some (.pu (.int c)),some (.pu (.tup (tbF k k T))),some (.pu (.int m)),some (.pu (.int p)),some (.pu (.int (k:Int))),some (.ow (xs.map .int)),some (.ow ((cG k u).map cV)),some (.pu (.int (s:Int))),x8,x9,x10,x11]) :
  hb0 E [some (.pu (.int c)),some (.pu (.tup (tbF k k T))),some (.pu (.int m)),some (.pu (.int p)),some (.pu (.int (k:Int))),some (.ow (xs.map .int)),some (.ow ((cG k u).map cV)),some (.pu (.int (s:Int))),x8,x9,x10,x11]:=by
 obtain⟨i,hi⟩: ∃i,i=s%k:=⟨_,rfl⟩;have hik:i<k:=by rw[hi];exact Nat.mod_lt _ (by omega)
 have ei:(s:Int).fmod (k:Int)=(i:Int):=by rw[bP _ (by omega),hi];norm_cast
 have bq:=x.bj s hs;obtain⟨q,hq⟩: ∃q:Nat,(q:Int)=xs.getD (2+3*s) 0:=⟨(xs.getD (2+3*s) 0).toNat,by omega⟩
 have e3:atI (xs.map D.int) (2+3*(s:Int))=some (.int (q:Int)):=by
  have:=lB (l:=xs) (j:=2+3*s) (by rw[x.len];omega)
  rw[hq,<-this]
  congr 1
 have hqk:q<k:=by omega
 have b1:=x.bc s hs;have b2:=x.bm s hs;unfold hb0;rw[aK];walk_at "u";rw[ei];refine⟨by decide,by omega,rfl,?_⟩
 unfold hb1;rw[aK];walk_at "u";simp only[e3];refine⟨by decide,.inr ⟨bB (e:=64) (by decide) (by decide),bB (e:=64) (by omega) (by decide)⟩,rfl,?_⟩
 have sm:Sm m:=bB hm (by decide)
 unfold hb2;rw[aK];walk_at "u"
 by_cases e:q=i
 ·rw[if_neg (by omega)]
  refine a94 x k8 hs hik hqk sm (h _ _ _ ?_)
  exact(hu.cell hik hqk (by omega) (by omega) (le_trans hm (pow_le_pow_right (by decide) (by omega)))).up (by omega)
 ·rw[if_pos (by omega)]
  refine rd_hr x k8 hs hik hqk hu.bd (by omega) ?_
  refine a94 x k8 hs hik hqk sm (h _ _ _ ?_)
  exact((hu.row hik hqk e (by omega) (by omega)).cell hik hqk (by omega) (by omega) (le_trans hm (pow_le_pow_right (by decide) (by omega)))).up (by omega)
def hs2:US:=(bJ 10 (d7 [4,7,8] [none,none,some 5,some 4,some 7,some 8,none] 6 (qD (aD (aC 10) (aD (uIx (aP 1) (aC 8)) aR))) (gI (bR 0 (bR 1 gH))) (λρ Q=>Q true ρ) (uOp bS (aC 0) (uOp bQ (uOp M.gSub (uIx (aP 2) (uOp bS (uOp bS (uOp bS (uC (.int 2)) (uOp bQ (uC (.int 6)) (aC 3))) (uOp bQ (uC (.int 8)) (aC 4))) (aC 5))) (uC (.int 2))) (aC 1)))))
def hs1:US:=(aT (gY (eW (aD (aC 4) aR)) (cA 8) hs2) (jV 6 (aC 10)))
def hs0:US:=(aT (bJ 10 (uOp bQ (eS (aD (uC (.int 0)) aR)) (aC 4))) hs1)
theorem qH:lR=(aT (gY (eW (aD (uIx (aP 5) (uC (.int 0))) aR)) (cA 7) hs0) jK):=rfl
structure GsO (k:Nat)(T:Nat->Nat->Int)(e:Nat)(g:Nat->Int):Prop where
 bd: ∀j,(g j).natAbs<=2^e
 gen:Gen k (Rows k T) g
theorem GsO.more {k e i:Nat}{T:Nat->Nat->Int}{z:Int}{g:Nat->Int}(h:GsO k T (602+e) g)(hT: ∀i j,(T i j).natAbs<=2^600)(hi:i<k)(z1: -2<=z)(z2:z<=2):GsO k T (602+(e+1)) λj=>g j+z*T i j:=by
 refine⟨λj=> ?_,Gen.add h.gen (Gen.mul (.base ⟨i,hi,rfl⟩) z)⟩
 have h1:=h.bd j;have h2:=hT i j;have h3:(z*T i j).natAbs<=2*2^600:=by
  rw[natAbs_mul];exact mul_le_mul (by omega) h2
 have h4:2^(602+(e+1))=2*2^(602+e):=by rw[<-add_assoc,pow_add];omega
 have h5:2*2^600<=2^(602+e):=le_trans (show 2*2^600<=2^602 by decide +kernel) (pow_le_pow_right (by decide) (by omega))
 generalize z*T i j=y at h3;generalize 2^(602+e)=P at *;generalize 2^600=R at *;generalize 2^(602+(e+1))=S at *;omega
theorem rd_s2 {E:UD}{c m p:Int}{k s i e:Nat}{T:Nat->Nat->Int}{g:Nat->Int}{xs:List Int}{x6 x9 x10 x11:Option B}(x:XOk k xs)(k8:k<=8)(hs:s<3)(hi:i<k)(hT: ∀i j,(T i j).natAbs<=2^600)(h10:Lst x10 ((rwF k g).map .int))(hg:GsO k T (602+e) g)
  (h: ∀g,GsO k T (602+(e+1)) g->E.nx [some (.pu (.int c)),some (.pu (.tup (tbF k k T))),some (.pu (.int m)),some (.pu (.int p)),some (.pu (.int (k:Int))),some (.ow (xs.map .int)),x6,some (.pu (.int (s:Int))),some (.pu (.int (i:Int))),x9,some (.ow ((rwF k g).map .int)),x11]) :
  hs2 E [some (.pu (.int c)),some (.pu (.tup (tbF k k T))),some (.pu (.int m)),some (.pu (.int p)),some (.pu (.int (k:Int))),some (.ow (xs.map .int)),x6,some (.pu (.int (s:Int))),some (.pu (.int (i:Int))),x9,x10,x11]:=by
 have e1:atI (tbF k k T) (i:Int)=some (.tup ((rwF k (T i)).map .int)):=oY hi;have e3:atI (xs.map D.int) (2+6*(k:Int)+8*(s:Int)+(i:Int))=some (.int (xs.getD (2+6*k+(8*s+i)) 0)):=by
  have:=lB (l:=xs) (j:=2+6*k+(8*s+i)) (by rw[x.len];omega)
  rw[<-this]
  congr 1
  omega
 have b:=x.bs (8*s+i) (by omega)
 unfold hs2;rw[kP];refine fB (t0:=0) (t1:=1) k (λj=>((rwF k g).map D.int).getD j .non) (λj=>((rwF k (T i)).map D.int).getD j .non) [some (.pu (.int c)),some (.pu (.tup (tbF k k T))),some (.pu (.int m)),some (.pu (.int p)),some (.pu (.int (k:Int))),some (.ow (xs.map .int)),x6,some (.pu (.int (s:Int))),some (.pu (.int (i:Int))),x9,some (.pu (.lst ((rwF k g).map .int))),x11] ?_ (by omega)
  (λx y z=>[x,y,some (.bo (xs.map .int)),some (.pu (.int (k:Int))),some (.pu (.int (s:Int))),some (.pu (.int (i:Int))),some (.ow z)]) none none rfl (λ_ _ _ _ _=>rfl) (λ_ _ _=>⟨by simp,by simp⟩) (λ_ _ _ _ q=>q) (λ_ _ _ _=>rfl) (λj=> .int (g j+(xs.getD (2+6*k+(8*s+i)) 0-2)*T i j)) ?_ ?_
 ·intro Q' q';rcases h10 with rfl|rfl
  all_goals
   walk_at "u"
   simp only[e1];rw[aL,aL,min_self];exact q'
 ·intro j l Q' hj q';rw[cW hj,cW (by omega)]at q'⊢
  walk_at "u"
  simp only[e3];refine⟨.inr ⟨bB (e:=64) (by decide) (by decide),bB (e:=64) (by omega) (by decide)⟩,.inr ⟨bB (e:=64) (by decide) (by decide),bB (e:=64) (by omega) (by decide)⟩,.inr ⟨bB (e:=64) (by omega) (by decide),bB (hT i j) (by decide)⟩,q'⟩
 ·walk_at "u"
  rw[eJ];exact h _ (hg.more hT hi (by omega) (by omega))
theorem rd_s0 {E:UD}{c m p:Int}{k s:Nat}{T:Nat->Nat->Int}{xs:List Int}{L:List (List Int)}{N:Nat}{x8 x9 x10 x11:Option B}(x:XOk k xs)(k1:1<=k)(k8:k<=8)(hs:s<3)(hT: ∀i j,(T i j).natAbs<=2^600)(hL:HOk k m T N L)(hN:N<=100)
  (h: ∀L x8 x9 x10,HOk k m T (N+1) L->E.nx [some (.pu (.int c)),some (.pu (.tup (tbF k k T))),some (.pu (.int m)),some (.pu (.int p)),some (.pu (.int (k:Int))),some (.ow (xs.map .int)),some (.ow (L.map cV)),some (.pu (.int (s:Int))),x8,x9,x10,x11]) :
  hs0 E [some (.pu (.int c)),some (.pu (.tup (tbF k k T))),some (.pu (.int m)),some (.pu (.int p)),some (.pu (.int (k:Int))),some (.ow (xs.map .int)),some (.ow (L.map cV)),some (.pu (.int (s:Int))),x8,x9,x10,x11]:=by
 have big:(10000:Nat)<=sizeLine:=by decide
 unfold hs0;rw[aK];walk_at "u";rw[toNat_natCast,fQ,show replicate k (0:Int)=rwF k λ_=>0 by unfold rwF;rw[List.map_const',length_range]]
 refine⟨by omega,⟨by omega,by omega,by omega⟩,?_⟩
 unfold hs1;rw[aK];refine bH k (λj=> .int (0+(j:Int))) [some (.pu (.int c)),some (.pu (.tup (tbF k k T))),some (.pu (.int m)),some (.pu (.int p)),some (.pu (.int (k:Int))),some (.ow (xs.map .int)),some (.ow (L.map cV)),some (.pu (.int (s:Int))),x8,x9,some (.ow ((rwF k λ_=>0).map .int)),x11] ?_
  (λi ρ=> ∃(g:Nat->Int) (x8:Option B),ρ=[some (.pu (.int c)),some (.pu (.tup (tbF k k T))),some (.pu (.int m)),some (.pu (.int p)),some (.pu (.int (k:Int))),some (.ow (xs.map .int)),some (.ow (L.map cV)),some (.pu (.int (s:Int))),x8,x9,some (.ow ((rwF k g).map .int)),x11]/\GsO k T (602+i) g)
  ⟨_,x8,rfl,λj=>zero_le _,.zero⟩ ?_ ?_
 ·intro Q' q;walk_at "u";exact⟨⟨by omega,by omega⟩,by rw[toNat_natCast];exact q⟩
 ·rintro i ρ hi ⟨g,x8,rfl,hg⟩;refine⟨by simp,?_⟩
  have ez:0+(i:Int)=(i:Int):=by omega
  rw[ez];exact rd_s2 x k8 hs hi hT (.inr rfl) hg λg' hg'=>⟨g',_,rfl,hg'⟩
 ·rintro ρ ⟨g,x8,rfl,hg⟩;walk_at "u";have fg: ∀j,j<k->fnL (rwF k g) j=g j:=λj hj=>by
   unfold fnL;rw[getD_eq_getElem?_getD,hZ hj];rfl
  have:=h (L++[rwF k g]) x8 x9 (some (.pu (.lst ((rwF k g).map .int)))) (hL.app (dZ _ _) (λy hy=> ?_) (hg.gen.cong λj hj=>(fg j hj).symm))
  ·rw[map_append]at this;refine⟨?_,this⟩;rw[length_map];have:=hL.few;omega
  ·obtain⟨j,_,rfl⟩:=List.mem_map.mp hy;exact le_trans (hg.bd j) (pow_le_pow_right (by decide) (by omega))
theorem a95 {Q:B->Prop}{c m p:Int}{k:Nat}{T:Nat->Nat->Int}{xs:List Int}{L:List (List Int)}{N:Nat}{x7 x8 x9 x10 x11:Option B}(x:XOk k xs)(hL:HOk k m T N L)(hN:N<=100)
  (h: ∀L,HOk k m T N L->Q (.ow (L.map aO))) :
  lP {nx:=λ_=>Q (.pu .non),rt:=Q} [some (.pu (.int c)),some (.pu (.tup (tbF k k T))),some (.pu (.int m)),some (.pu (.int p)),some (.pu (.int (k:Int))),some (.ow (xs.map .int)),some (.ow (L.map cV)),x7,x8,x9,x10,x11]:=by
 have a0:atI (xs.map D.int) 0=some (.int (xs.getD 0 0)):=lB (j:=0) (by rw[x.len];omega)
 have a1:atI (xs.map D.int) 1=some (.int (xs.getD 1 0)):=lB (j:=1) (by rw[x.len];omega)
 have few:=hL.few;have pos:=hL.pos;have b0:=x.b0;have b1:=x.b1;unfold lP;rw[aK];walk_at "u";simp only[a0,a1];rw[length_map,bP _ (show(0:Int)< (L.length:Int)by omega)]
 obtain⟨f,hf⟩: ∃f:Nat,(f:Int)=(xs.getD 0 0+3*xs.getD 1 0)%(L.length:Int):=⟨((xs.getD 0 0+3*xs.getD 1 0)%(L.length:Int)).toNat,by rw[Int.toNat_of_nonneg (emod_nonneg _ (by omega))]⟩
 have hf2:(xs.getD 0 0+3*xs.getD 1 0)%(L.length:Int)<L.length:=emod_lt_of_pos _ (by omega)
 rw[<-hf]at hf2⊢;refine⟨.inr ⟨bB (e:=64) (by decide) (by decide),bB (e:=64) (by omega) (by decide)⟩,by omega,?_⟩
 have hT:=hL.turn (f:=f);have few':=hT.few;unfold pJ;rw[mF]
 refine e9 (t0:=0) (L.drop f++L.take f).length (λi=>((L.drop f++L.take f).map cV).getD i .non) [some (.pu (.int c)),some (.pu (.tup (tbF k k T))),some (.pu (.int m)),some (.pu (.int p)),some (.pu (.int (k:Int))),some (.ow (xs.map .int)),some (.ow (L.map cV)),x7,x8,x9,x10,some (.pu (.int (f:Int)))] ?_ (by omega) (λx l=>[x,some (.ow l)]) none rfl (λ_ _ _=>rfl) (λ_ _=>zero_lt_succ _) (λ_ _ _ q=>q) (λ_ _ _=>rfl) (λi=>aO ((L.drop f++L.take f).getD i [])) ?_ ?_
 ·intro Q' q;walk_at "u";rw[kF _ _ (by rw[length_map];omega),a04 _ _ (by rw[length_map];omega),<-map_drop,<-map_take,<-map_append,length_map]
  refine⟨?_,by rw[length_map];exact q⟩
  rw[length_map,<-length_append];have big:(10000:Nat)<=sizeLine:=by decide
  omega
 ·intro i l Q' hi q;have eg:((L.drop f++L.take f).map cV).getD i .non=cV ((L.drop f++L.take f).getD i []):=by
   rw[getD_eq_getElem?_getD,getElem?_map,getD_eq_getElem?_getD,getElem?_eq_getElem hi];rfl
  rw[eg]at q⊢;simp only[cV]at q⊢;walk_at "u";exact q
 ·have em:(List.range (L.drop f++L.take f).length).map (λi=>aO ((L.drop f++L.take f).getD i []))=(L.drop f++L.take f).map aO:=by
   apply ext_getElem?
   intro i
   by_cases hi:i< (L.drop f++L.take f).length
   ·rw[getElem?_map,List.getElem?_range hi,getElem?_map,getElem?_eq_getElem hi,map_some,getD_eq_getElem?_getD,getElem?_eq_getElem hi];rfl
   ·rw[getElem?_eq_none (by simp at hi ⊢; omega),getElem?_eq_none (by simp at hi ⊢; omega)]
  rw[em];exact h _ hT
theorem a96 {Q:B->Prop}{c m p:Int}{k:Nat}{T:Nat->Nat->Int}{xs:List Int}{L:List (List Int)}{N:Nat}{x7 x8 x9 x10 x11:Option B}(x:XOk k xs)(hL:HOk k m T N L)(hN:N<=90)(hE: ∀j,j<k->Gen k (Rows k T) (mE m j))
  (h: ∀L,HOk k m T (N+1) L->Q (.ow (L.map aO))) :
  lQ {nx:=λ_=>Q (.pu .non),rt:=Q} [some (.pu (.int c)),some (.pu (.tup (tbF k k T))),some (.pu (.int m)),some (.pu (.int p)),some (.pu (.int (k:Int))),some (.ow (xs.map .int)),some (.ow (L.map cV)),x7,x8,x9,x10,x11]:=by
 have big:(10000:Nat)<=sizeLine:=by decide
 have a1:atI (xs.map D.int) 1=some (.int (xs.getD 1 0)):=lB (j:=1) (by rw[x.len];omega)
 have few:=hL.few;have pos:=hL.pos;obtain⟨l0,L',rfl⟩: ∃l0 L',L=l0::L':=by
  cases L with
  | nil=>simp at pos
  | cons a b=>exact⟨a,b,rfl⟩
 have a2:atI ((l0::L').map cV) 0=some (.lst (l0.map .int)):=d3 (j:=0) rfl;have m0:l0∈l0::L':=mem_cons_self ..;have g0:Gen k (Rows k T) (fnL l0):=(hL.gen _).mp (.base (.inl ⟨l0,m0,rfl⟩));unfold lQ;rw[aK];walk_at "u";simp only[a1,a2]
 by_cases cc:1<xs.getD 1 0
 ·rw[if_pos (by simpa using cc)]
  have:=hL.app (hL.len _ m0) (hL.sm _ m0) g0;refine⟨by rw[length_map];omega,?_⟩
  have r:=a95 (Q:=Q) (c:=c) (p:=p) (x7:=x7) (x8:=x8) (x9:=x9) (x10:=x10) (x11:=x11) x this (by omega) h
  rw[map_append]at r;exact r
 ·rw[if_neg (by simpa using cc)]
  exact a95 x (N:=N+1) ⟨hL.len,hL.sm,by omega,hL.pos,hL.gen⟩ (by omega) h
theorem rd_h5 {Q:B->Prop}{c m p:Int}{k:Nat}{T:Nat->Nat->Int}{xs:List Int}{L:List (List Int)}{N:Nat}{x7 x8 x9 x10 x11:Option B}(x:XOk k xs)(k8:k<=8)(hL:HOk k m T N L)(hN:N<=80)(hE: ∀j,j<k->Gen k (Rows k T) (mE m j))
  (h: ∀L,HOk k m T (N+1+1) L->Q (.ow (L.map aO))) :
  jK {nx:=λ_=>Q (.pu .non),rt:=Q} [some (.pu (.int c)),some (.pu (.tup (tbF k k T))),some (.pu (.int m)),some (.pu (.int p)),some (.pu (.int (k:Int))),some (.ow (xs.map .int)),some (.ow (L.map cV)),x7,x8,x9,x10,x11]:=by
 have big:(10000:Nat)<=sizeLine:=by decide
 have a1:atI (xs.map D.int) 1=some (.int (xs.getD 1 0)):=lB (j:=1) (by rw[x.len];omega)
 have few:=hL.few;unfold jK;rw[aK];walk_at "u";simp only[a1];refine⟨by decide,?_⟩
 by_cases cc:(xs.getD 1 0).fmod 2=1
 ·rw[if_pos cc,toNat_natCast,fQ,show replicate k (0:Int)=rwF k λ_=>0 by unfold rwF;rw[List.map_const',length_range]]
  refine⟨by omega,⟨by omega,by omega,by omega⟩,by rw[length_map];omega,?_⟩
  have:=hL.app (l:=rwF k λ_=>0) (dZ _ _) (λy hy=>by
   obtain⟨j,_,rfl⟩:=List.mem_map.mp hy;exact zero_le _) (Gen.zero.cong λj hj=>by unfold fnL;rw[getD_eq_getElem?_getD,hZ hj];rfl)
  have r:=a96 (Q:=Q) (c:=c) (p:=p) (x7:=x7) (x8:=x8) (x9:=x9) (x10:=x10) (x11:=x11) x this (by omega) hE h
  rw[map_append]at r;exact r
 ·rw[if_neg cc];exact a96 x (N:=N+1) ⟨hL.len,hL.sm,by omega,hL.pos,hL.gen⟩ (by omega) hE h
theorem xR: ∀ds Q,j3 ds Q->nJ {nx:=λ_=>Q (.pu .non),rt:=Q} (init ["a","b","c","d","e","f","g","h","i","j","k","l"] ds):=by
 rintro ds Q ⟨c,k,T,m,p,rfl,p0,k1,k8,m1,m2,hT,hE,h⟩;have big:(10000:Nat)<=sizeLine:=by decide
 have m2':m.natAbs<=2^600:=by rw[p6']at m2;omega
 unfold nJ;show(aT _ _:US) _ [some (.pu (.int c)),some (.pu (.tup (tbF k k T))),some (.pu (.int m)),some (.pu (.int p)),none,none,none,none,none,none,none,none];rw[aK];walk_at "u";rw[eK];unfold pM;rw[aK];walk_at "u";have ef:(replicate (2*k) [D.int (k:Int),D.int 5,D.int 3]).flatten=((replicate (2*k) [(k:Int),5,3]).flatten).map .int:=by
  rw[List.map_flatten,List.map_replicate];rfl
 rw[show(2*(k:Int)).toNat=2*k by omega,ef,fQ]
 have ew:([D.int 4,D.int 4]++((replicate (2*k) [(k:Int),5,3]).flatten).map .int++(replicate (toNat 24) (5:Int)).map .int:List D)=(wsH k).map .int:=by
  unfold wsH;rw[map_append,map_append];rfl
 have wl:(wsH k).length=26+6*k:=by
  unfold wsH;rw[length_append,length_append,fS,length_replicate];simp;omega
 rw[ew];refine⟨by omega,by omega,.inr ⟨bB (e:=64) (by decide) (by decide),bB (e:=64) (by omega) (by decide)⟩,⟨by omega,by omega,by omega⟩,by rw[length_map,fS];omega,by omega,⟨by decide,by decide,by decide⟩,?_,c,wsH k,p,rfl,by omega,p0,?_,λxs hx=> ?_⟩
 ·rw[length_append,length_map,fS,length_map,length_replicate];show 0+1+1+3*(2*k)+24<=_;omega
 ·intro w hw;unfold wsH at hw;rcases List.mem_append.mp hw with hw|hw
  ·rcases List.mem_append.mp hw with hw|hw
   ·simp at hw;omega
   ·obtain⟨l,hl,hw⟩:=List.mem_flatten.mp hw;rw[List.eq_of_mem_replicate hl]at hw;simp at hw;omega
  ·rw[List.eq_of_mem_replicate hw];decide
 have x:=x_ok hx;dsimp only;unfold pL;rw[aK];walk_at "u";refine⟨a23 (by simp),by simp,cG k T,by rw[rK],by rw[rK],by rw[fK];omega,?_⟩
 have u0:UOk k m T 600 T:=⟨hT,λv=>⟨Gen.mono λr hr=>hr.elim .base λ⟨j,hj,e⟩=>by rw[e];exact hE j hj,Gen.mono λr hr=> .base (.inl hr)⟩⟩
 rw[qG,aK];refine tX (by decide) (2*k) ?_ (by omega) (λs ρ=> ∃(u:Nat->Nat->Int) (x7 x8 x9:Option B),ρ=[some (.pu (.int c)),some (.pu (.tup (tbF k k T))),some (.pu (.int m)),some (.pu (.int p)),some (.pu (.int (k:Int))),some (.ow (xs.map .int)),some (.ow ((cG k u).map cV)),x7,x8,x9,none,none]/\UOk k m T (600+3*s) u) ⟨T,none,none,none,rfl,u0⟩ ?_ ?_
 ·intro Q' q;walk_at "u";rw[show(2*(k:Int))=((2*k:Nat):Int)by omega]
  exact⟨.inr ⟨bB (e:=64) (by decide) (by decide),bB (e:=64) (by omega) (by decide)⟩,q⟩
 ·rintro s ρ hs ⟨u,x7,x8,x9,rfl,hu⟩;refine⟨by simp,?_⟩
  have ez:0+(s:Int)=(s:Int):=by omega
  rw[ez];exact rd_hb x k1 k8 hs m2' hu λu' y8 y9 hu'=>⟨u',_,y8,y9,rfl,hu'⟩
 ·rintro ρ ⟨u,x7,x8,x9,rfl,hu⟩;have hL:HOk k m T 8 (cG k u):=by
   refine⟨λl hl=> ?_,λl hl y hy=> ?_,by rw[fK];exact k8,by rw[fK];exact k1,λv=>(xQ v).trans (hu.gen v)⟩
   ·obtain⟨i,_,rfl⟩:=List.mem_map.mp hl;exact dZ _ _
   ·obtain⟨i,_,rfl⟩:=List.mem_map.mp hl;obtain⟨j,_,rfl⟩:=List.mem_map.mp hy;exact le_trans (hu.bd i j) (pow_le_pow_right (by decide) (by omega))
  have a0:atI (xs.map D.int) 0=some (.int (xs.getD 0 0)):=lB (j:=0) (by rw[x.len];omega)
  have b0:=x.b0;obtain⟨w,hw⟩: ∃w:Nat,(w:Int)=xs.getD 0 0:=⟨(xs.getD 0 0).toNat,by omega⟩
  dsimp only;rw[qH,aK];refine bH w (λj=> .int (0+(j:Int))) [some (.pu (.int c)),some (.pu (.tup (tbF k k T))),some (.pu (.int m)),some (.pu (.int p)),some (.pu (.int (k:Int))),some (.ow (xs.map .int)),some (.ow ((cG k u).map cV)),x7,x8,x9,none,none] ?_
   (λs ρ=> ∃(L:List (List Int)) (x7 x8 x9 x10:Option B),ρ=[some (.pu (.int c)),some (.pu (.tup (tbF k k T))),some (.pu (.int m)),some (.pu (.int p)),some (.pu (.int (k:Int))),some (.ow (xs.map .int)),some (.ow (L.map cV)),x7,x8,x9,x10,none]/\HOk k m T (8+s) L) ⟨_,_,_,_,_,rfl,hL⟩ ?_ ?_
  ·intro Q' q;walk_at "u";simp only[a0];rw[<-hw,toNat_natCast];exact⟨⟨by omega,by omega⟩,q⟩
  ·rintro s ρ hs ⟨L,x7,x8,x9,x10,rfl,hL⟩;refine⟨by simp,?_⟩
   have ez:0+(s:Int)=(s:Int):=by omega
   rw[ez];exact rd_s0 x k1 k8 (by omega) hT hL (by omega) λL y8 y9 y10 hL'=>⟨L,_,y8,y9,y10,rfl,hL'⟩
  ·rintro ρ ⟨L,x7,x8,x9,x10,rfl,hL⟩;refine rd_h5 x k8 hL (by omega) hE λL' hL'=>h L' ⟨hL'.len,hL'.sm,le_trans hL'.few (by omega)⟩ (le_trans hL'.few (by omega)) hL'.gen
def Pdk (k:Nat)(d:D):Prop:= ∃p,pd d=some p/\p.depth<=k
theorem Pdk.int {k:Nat}{i:Int}:Pdk k (.int i):=⟨_,rfl,zero_le _⟩
theorem pdkL {k:Nat}: ∀{l:List D},(∀d∈l,Pdk k d)-> ∃ps,pdL l=some ps/\PyData.depthAll ps<=k
 | [],_=>⟨[],rfl,zero_le _⟩
 | d::l,h=>by
  obtain⟨p,e,hp⟩:=h d (mem_cons_self ..);obtain⟨ps,es,hps⟩:=pdkL λx hx=>h x (mem_cons_of_mem _ hx)
  refine⟨p::ps,by simp only[pdL,e,es,bind_some,map_some],?_⟩
  simp only[PyData.depthAll];exact Nat.max_le.mpr ⟨hp,hps⟩
theorem Pdk.tup {k:Nat}{l:List D}(h: ∀d∈l,Pdk k d):Pdk (k+1) (.tup l):=by
 obtain⟨ps,e,hp⟩:=pdkL h;exact⟨.tuple ps,by simp only[pd,e,map_some],by simp only[PyData.depth];omega⟩
theorem Pdk.lst {k:Nat}{l:List D}(h: ∀d∈l,Pdk k d):Pdk (k+1) (.lst l):=by
 obtain⟨ps,e,hp⟩:=pdkL h;exact⟨.list ps,by simp only[pd,e,map_some],by simp only[PyData.depth];omega⟩
theorem Pdk.up {k m:Nat}{d:D}(h:Pdk k d)(hm:k<=m):Pdk m d:=let ⟨p,e,hp⟩:=h;⟨p,e,le_trans hp hm⟩
theorem Pdk.row (ns:List Int):Pdk 1 (aO ns):= .tup λd hd=>by
 obtain⟨n,_,rfl⟩:=List.mem_map.mp hd;exact .int
theorem Pdk.same {neg:Bool}{k:Nat}{d:D}{Q:B->Prop}(h:Pdk k d)(hk:k<=60)(q:Q (.pu (.bl (neg ^^ true)))):v6 neg d d Q:=by
 obtain⟨p,e,hp⟩:=h;exact⟨p,p,e,e,le_trans hp hk,by rw[PySem.SeqAt.eqv_refl p (nB d e)];exact q⟩
theorem Pdk.tbl (n m:Nat)(t:Nat->Nat->Int):Pdk 2 (.tup (tbF n m t)):= .tup λd hd=>by
 obtain⟨i,_,rfl⟩:=List.mem_map.mp hd;exact .row _
theorem Pdk.rows (L:List (List Int)):Pdk 2 (.lst (L.map aO)):= .lst λd hd=>by
 obtain⟨i,_,rfl⟩:=List.mem_map.mp hd;exact .row _
def fT (T:Nat->Nat->Int):Nat->Int
 | 0=>1
 | i+1=>fT T i*T i i
theorem rL {k:Nat}{T:Nat->Nat->Int}(h:Tri k T): ∀i,i<=k-> ∀j,j<i->Gen k (Rows i T) (mE (fT T i) j)
 | i+1,hi,j,hj=>by
  have ih:=rL h i (by omega)
  have up: ∀{v},Gen k (Rows i T) v->Gen k (Rows (i+1) T) v:=λg=>g.mono λr ⟨q,hq,e⟩=> .base ⟨q,by omega,e⟩
  by_cases e:j=i
  ·subst e;have g1:Gen k (Rows (j+1) T) λx=>fT T j*T j x:=Gen.mul (.base ⟨j,by omega,rfl⟩) _
   refine Gen.modE j (by omega) (λx hx=>up (ih x hx)) g1 (λx hx=> ?_) (λx h1 h2=> ?_)
   ·rw[show mE (fT T (j+1)) j x=0 from if_neg (by omega),Int.sub_zero]
    exact Int.dvd_mul_right _ _
   ·by_cases e2:x=j
    ·subst e2;exact(if_pos rfl).symm
    ·rw[show mE (fT T (j+1)) j x=0 from if_neg e2,h.zero j (by omega) x (by omega),mul_zero]
  ·refine up ((Gen.mul (ih j (by omega)) (T i i)).cong λx _=> ?_)
   unfold mE;split
   ·show T i i*fT T i=fT T i*T i i
    rw[Int.mul_comm]
   ·rw[mul_zero]
theorem rM {k:Nat}{T:Nat->Nat->Int}(h:DrO k T): ∀i,i<=k->1<=fT T i/\fT T i<=(10^ew k)^i
 | 0,_=>⟨Int.le_refl _,Int.le_refl _⟩
 | i+1,hi=>by
  obtain⟨h1,h2⟩:=rM h i (by omega)
  have t1:=h.st.pos i (by omega)
  have t2:=h.hi i (by omega)
  refine⟨?_,?_⟩
  ·show 1<=fT T i*T i i
   have:=Int.mul_le_mul h1 t1 (by decide) (by omega)
   omega
  ·show fT T i*T i i<=(10^ew k)^(i+1)
   rw[Int.pow_succ];exact Int.mul_le_mul h2 t2 (by omega) (pow_nonneg (pow_nonneg (by decide)))
theorem a25 {k i:Nat}(k1:1<=k)(k8:k<=8)(hi:i<=k):5*((10:Int)^ew k)^i<=2^600:=by
 have h1:5*((10:Int)^ew k)^k<=2^600:=by
  match k,k1,k8 with
  | 1,_,_|2,_,_|3,_,_|4,_,_|5,_,_|6,_,_|7,_,_|8,_,_=>decide +kernel
 have h2:((10:Int)^ew k)^i<=((10:Int)^ew k)^k:=by
  have p:=p10 k1 k8;have:((10:Int)^ew k)^i<=((10:Int)^ew k)^(i+(k-i)):=by
   generalize k-i=d
   induction d with
   | zero=>exact Int.le_refl _
   | succ d ih=>
    refine Int.le_trans ih ?_
    rw[<-add_assoc,Int.pow_succ];have:0<=((10:Int)^ew k)^(i+d):=pow_nonneg (by omega)
    calc ((10:Int)^ew k)^(i+d)=((10:Int)^ew k)^(i+d)*1:=by rw[mul_one]
     _<=_:=Int.mul_le_mul_of_nonneg_left (by omega) this
  rw[show i+(k-i)=k by omega]at this
  exact this
 exact Int.le_trans (Int.mul_le_mul_of_nonneg_left h2 (by decide)) h1
theorem SOk.same {n:Nat}{m:Int}{L L':List (List Int)}{T U:Nat->Nat->Int}(h:SOk n m L T)(h':SOk n m L' U)(g: ∀v,Gen n (RM n m (LR L')) v↔Gen n (RM n m (LR L)) v):tbF n n U=tbF n n T:=by
 have e:=rE.uniq h'.st h.st (λi hi=>(h.gen _).mpr ((g _).mp ((h'.gen _).mp (.base ⟨i,hi,rfl⟩)))) (λi hi=>(h'.gen _).mpr ((g _).mpr ((h.gen _).mp (.base ⟨i,hi,rfl⟩))))
 unfold tbF;refine map_congr_left λi hi=> ?_
 rw[nG λj hj=>e i (List.mem_range.mp hi) j hj]
theorem vK (n m:Nat)(t:Nat->Nat->Int):D.nl (.tup (tbF n m t))=true:=by
 have e: ∀l:List (List Int),D.nls (l.map aO)=true:=λl=>by
  induction l with
  | nil=>rfl
  | cons a l ih=>
   show(D.nl (aO a)&&D.nls (l.map aO))=true
   rw[ih,show D.nl (aO a)=true from vE a]
   rfl
 show D.nls (tbF n m t)=true
 have:tbF n m t=((List.range n).map λi=>rwF m (t i)).map aO:=by unfold tbF;rw[map_map];rfl
 rw[this];exact e _
theorem a26 (l:List (List Int)):D.nls (l.map aO)=true:=by
 induction l with
 | nil=>rfl
 | cons a l ih=>
  show(D.nl (aO a)&&D.nls (l.map aO))=true
  rw[ih,show D.nl (aO a)=true from vE a]
  rfl
def pO:US:=(bJ 7 (lH (b9 kG (aD (aC 2) (aD (aC 3) (aD (aC 5) aR))))))
def pP:US:=(aT (gY (eW (aD (uIx (aP 4) (uC (.int 0))) aR)) (cA 6) (jV 5 (b9 d6 (aD (d7 [3] [none,some 3,none] 2 (jO (uSl (aP 4) (iL (uOp bS (uC (.int 1)) (uOp bQ (aC 2) (aC 6)))) (iL (uOp bS (uOp bS (uC (.int 1)) (uOp bQ (aC 2) (aC 6))) (aC 2))))) (cA 0) (λρ Q=>Q true ρ) (uOp M.gSub (uOp fU (aC 0) (uOp bS (uOp bQ (uC (.int 3)) (aC 1)) (uC (.int 1)))) (aC 1))) aR)))) pO)
def pQ:US:=(aT (bJ 5 (eS aR)) pP)
def jL:US:=(aT (bJ 4 (b9 dH (aD (b9 hX (aD (aC 0) (aD (uC (.int 1)) aR))) (aD (uOp bS (eS (aD (uC (.int 6)) aR)) (uOp bQ (eS (aD (uOp kW (uC (.int 10)) (uC (.int 8))) aR)) (uC (.int 40)))) (aD (uC (.int 999999929)) aR))))) pQ)
def pR:US:=(aT (bJ 3 (uOp bS (uC (.int 1)) (uOp fU (uIx (aP 1) (uC (.int 4))) (uIx (uV (eS (aD (uC (.int 60)) (aD (uOp kW (uC (.int 10)) (uC (.int 6))) aR)))) (uIx (aP 1) (uC (.int 2))))))) jL)
def pS:US:=(bJ 5 (b9 j3 (aD (b9 hX (aD (aC 0) (aD (uC (.int 2)) aR))) (aD (aC 7) (aD (aC 3) (aD (uC (.int 999999883)) aR))))))
def lU:US:=(aT (gY (eW (aD (aC 2) aR)) (cA 6) (bJ 3 (uOp bQ (aC 3) (uIx (uV (uIx (aP 7) (aC 6))) (aC 6))))) pS)
def pT:US:=(aT (bJ 3 (uOp bS (uC (.int 1)) (uIx (aP 1) (uC (.int 3))))) lU)
def pU:US:=(aT (bJ 7 (b9 kJ (aD (b9 hX (aD (aC 0) (aD (uC (.int 1)) aR))) (aD (aC 2) (aD (uC (.int 999999893)) aR))))) pT)
def tY:US:=(gX (sZ (b9 eB (aD (aC 10) (aD (aC 2) aR))) (sZ (uOp (v6 false) (aC 10) (aC 7)) (uOp (v6 false) (aC 9) (aC 7)))))
def tZ:US:=(aT (bJ 10 (lH (b9 fF (aD (aC 2) (aD (aC 3) (aD (aC 5) aR)))))) tY)
def u3:US:=(aT (jV 5 (b9 d6 (aD (uOp bS (eS (aD (aC 3) aR)) (uOp bQ (eS (aD (uC (.int 0)) aR)) (uOp M.gSub (aC 2) (uC (.int 1))))) aR))) tZ)
def u4:US:=(aT (zX 5) u3)
def u5:US:=(aT (kU (wH (uOr (yP (fN (b9 eB (aD (aC 9) (aD (aC 2) aR))))) (uOr (fN (uOp (v6 true) (aC 9) (aC 7))) (fN (uOp (v6 true) (aC 5) (aC 8)))))) (gX (uC (.bl false))) fW) u4)
def u6:US:=(aT (bJ 9 (lH (b9 fF (aD (aC 2) (aD (aC 3) (aD (aC 5) aR)))))) u5)
def mS:US:=(aT (bJ 8 (lH (b9 hV (aD (aC 5) aR)))) u6)
def u7:US:=(aT (kU (wH (fN (uOp (jY false) (uIx (aP 1) (uC (.int 1))) (uC (.int 0))))) pR pU) mS)
def u8:US:=(aT (bJ 2 (uOp bS (uC (.int 1)) (uIx (aP 1) (uC (.int 0))))) u7)
def sM:US:=(aT (bJ 1 (b9 dH (aD (b9 hX (aD (aC 0) (aD (uC (.int 0)) aR))) (aD (eS (aD (uC (.int 8)) (aD (uC (.int 3)) (aD (uC (.int 2)) (aD (uC (.int 5)) (aD (uOp kW (uC (.int 10)) (uC (.int 6))) aR)))))) (aD (uC (.int 999999937)) aR))))) u8)
theorem wS {Q:B->Prop}{k:Nat}{m:Int}{L:List (List Int)}{T:Nat->Nat->Int}{s0 s1 s4 s6:Option B}(k1:1<=k)(k8:k<=8)(m1:1<=m)(m2:m<=2^600)(ok:LOk k L)(few:L.length<=20)(due:SOk k m L T)(hQ:Q (.pu (.bl true))) :
  mS {nx:=λ_=>Q (.pu .non),rt:=Q} [s0,s1,some (.pu (.int (k:Int))),some (.pu (.int m)),s4,some (.ow (L.map aO)),s6,some (.pu (.tup (tbF k k T))),none,none,none]:=by
 have big:(10000:Nat)<=sizeLine:=by decide
 unfold mS;rw[aK];walk_at "u";refine⟨a26 L,?_⟩;unfold u6;rw[aK];walk_at "u";refine⟨k,m,L,rfl,k1,k8,m1,m2,ok,λU hU=> ?_⟩
 rw[due.same hU λ_=>Iff.rfl]
 refine⟨vK _ _ _,?_⟩
 unfold u5;rw[aK];walk_at "u";refine⟨k,T,rfl,k8,?_⟩;dsimp only;rw[if_neg (by decide)]
 refine(Pdk.tbl k k T).same (by decide) ?_
 simp only[true_xor,Bool.not_true,false_eq_true,if_false];refine(Pdk.rows L).same (by decide) ?_
 simp only[true_xor,Bool.not_true,false_eq_true,if_false];unfold u4;rw[aK];walk_at "u";unfold u3;rw[aK];walk_at "u";rw[show((k:Int)-1).toNat=k-1 by omega]
 have er:([D.int m]++(replicate (k-1) [D.int 0]).flatten:List D)=(rwF k (mE m 0)).map .int:=by
  have:=p7 (m:=m) (n:=k) (i:=0) (by omega)
  rw[show k-0-1=k-1 by omega]at this
  exact this
 have el:=congrArg length er;rw[aL]at el;simp only[length_append,length_cons,length_nil]at el;rw[er];refine⟨by omega,by omega,⟨by omega,by omega,by omega⟩,by omega,by rw[List.length_reverse,length_map];omega,?_⟩
 have eL:(L.map aO).reverse++[D.tup ((rwF k (mE m 0)).map .int)]=(L.reverse++[rwF k (mE m 0)]).map aO:=by
  rw[map_append,List.map_reverse];rfl
 rw[eL];have mm: ∀l,l∈L.reverse++[rwF k (mE m 0)]↔l∈L\/l=rwF k (mE m 0):=λl=>by simp
 have m2':m.natAbs<=2^600:=by rw[p6']at m2;omega
 have ok2:LOk k (L.reverse++[rwF k (mE m 0)]):=by
  refine⟨λl hl=> ?_,λl hl x hx=> ?_,by simp;omega⟩
  ·rcases(mm l).mp hl with hl|rfl
   ·exact ok.len l hl
   ·exact dZ _ _
  ·rcases(mm l).mp hl with hl|rfl
   ·exact ok.sm l hl x hx
   ·obtain⟨j,_,rfl⟩:=List.mem_map.mp hx;have h6:(2:Nat)^600<=2^1000:=pow_le_pow_right (by decide) (by decide)
    unfold mE;split
    ·exact le_trans m2' h6
    ·exact zero_le _
 have g2: ∀v,Gen k (RM k m (LR (L.reverse++[rwF k (mE m 0)]))) v↔Gen k (RM k m (LR L)) v:=by
  refine λv=>⟨Gen.mono λr hr=> ?_,Gen.mono λr hr=> .base (hr.imp (λ⟨l,hl,e⟩=>⟨l,(mm l).mpr (.inl hl),e⟩) id)⟩
  rcases hr with⟨l,hl,rfl⟩|hr
  ·rcases(mm l).mp hl with hl|rfl
   ·exact .base (.inl ⟨l,hl,rfl⟩)
   ·refine(Gen.base (.inr ⟨0,by omega,rfl⟩)).cong λj hj=> ?_
    unfold fnL;rw[getD_eq_getElem?_getD,hZ hj];rfl
  ·exact .base (.inr hr)
 unfold tZ;rw[aK];walk_at "u";refine⟨k,m,_,rfl,k1,k8,m1,m2,ok2,λU hU=> ?_⟩
 rw[due.same hU g2];refine⟨vK _ _ _,?_⟩;unfold tY;walk_at "u";refine⟨k,T,rfl,k8,?_⟩;dsimp only;rw[if_pos rfl];refine(Pdk.tbl k k T).same (by decide) ?_
 dsimp only;rw[if_pos (by decide)]
 exact(Pdk.tbl k k T).same (by decide) hQ
theorem DrO.norm {k:Nat}{T:Nat->Nat->Int}(h:DrO k T): ∃U,DrO k U/\tbF k k U=tbF k k T/\ ∀i j,(U i j).natAbs<=(10^ew k:Int).natAbs:=by
 refine⟨λi=>if i<k then T i else λ_=>0,⟨⟨⟨λi hi=> ?_,λi hi j hj=> ?_⟩,λi hi j hj=> ?_⟩,λi hi=> ?_⟩,?_,λi j=> ?_⟩
 ·rw[if_pos hi];exact h.st.pos i hi
 ·rw[if_pos hi];exact h.st.zero i hi j hj
 ·rw[if_pos hi,if_pos (by omega)];exact h.st.ahead i hi j hj
 ·rw[if_pos hi];exact h.hi i hi
 ·unfold tbF;refine map_congr_left λi hi=> ?_
  dsimp only;rw[if_pos (List.mem_range.mp hi)]
 ·dsimp only;split
  ·rename_i hi
   by_cases e:j<i
   ·have h1:=h.st.ahead i hi j e;have h2:=h.hi j (by omega)
    omega
   ·by_cases e2:j=i
    ·subst e2;have h1:=h.st.pos j hi;have h2:=h.hi j hi;omega
    ·rw[h.st.zero i hi j (by omega)];exact zero_le _
  ·exact zero_le _
theorem rd_e2 {E:UD}{ns:List Int}{k:Nat}{d:Int}{T:Nat->Nat->Int}{s1 s4:Option B}(hl:ns.length<=63)(k1:1<=k)(k8:k<=8)(d0:0<=d)(d5:d<5)(dr:DrO k T)(tb: ∀i j,(T i j).natAbs<=(10^ew k:Int).natAbs)
  (h: ∀m L s6,1<=m->m<=2^600->LOk k L->L.length<=20->SOk k m L T->E.nx [some (.pu (.rol (ns.map .int))),s1,some (.pu (.int (k:Int))),some (.pu (.int m)),s4,some (.ow (L.map aO)),s6,some (.pu (.tup (tbF k k T))),none,none,none]) :
  lU E [some (.pu (.rol (ns.map .int))),s1,some (.pu (.int (k:Int))),some (.pu (.int (1+d))),s4,none,none,some (.pu (.tup (tbF k k T))),none,none,none]:=by
 have pw0:(10:Int)^ew k<=2^600:=by
  have h1:=a25 (i:=1) k1 k8 k1;have h2:=p10 k1 k8;rw[Int.pow_one]at h1;omega
 have sT: ∀i j,(T i j).natAbs<=2^600:=λi j=>by
  have h1:=tb i j;have h2:=p10 k1 k8;rw[p6']at pw0;omega
 have bd: ∀i,i<=k->1<=(1+d)*fT T i/\(1+d)*fT T i<=2^600:=λi hi=>by
  obtain⟨h1,h2⟩:=rM dr i hi;have h3:=a25 k1 k8 hi;refine⟨?_,Int.le_trans (Int.mul_le_mul (show 1+d<=5 by omega) h2 (by omega) (by decide)) h3⟩
  have:=Int.mul_le_mul (show 1<=1+d by omega) h1 (by decide) (by omega)
  omega
 unfold lU;rw[aK];refine bH k (λj=> .int (0+(j:Int))) [some (.pu (.rol (ns.map .int))),s1,some (.pu (.int (k:Int))),some (.pu (.int (1+d))),s4,none,none,some (.pu (.tup (tbF k k T))),none,none,none] ?_
  (λi ρ=> ∃(s6:Option B),ρ=[some (.pu (.rol (ns.map .int))),s1,some (.pu (.int (k:Int))),some (.pu (.int ((1+d)*fT T i))),s4,none,s6,some (.pu (.tup (tbF k k T))),none,none,none]) ⟨none,by rw[show fT T 0=1 from rfl,mul_one]⟩ ?_ ?_
 ·intro Q' q;walk_at "u";exact⟨⟨by omega,by omega⟩,by rw[toNat_natCast];exact q⟩
 ·rintro i ρ hi ⟨s6,rfl⟩;refine⟨by simp,?_⟩
  have ez:0+(i:Int)=(i:Int):=by omega
  rw[ez];have e1:atI (tbF k k T) (i:Int)=some (.tup ((rwF k (T i)).map .int)):=oY hi;have e2:atI ((rwF k (T i)).map D.int) (i:Int)=some (.int (T i i)):=gM hi;have b:=bd i (by omega)
  walk_at "u"
  simp only[e1,e2];refine⟨.inr ⟨bB (e:=600) ?_ (by decide),bB (sT i i) (by decide)⟩,some (.pu (.int (i:Int))),?_⟩
  ·rw[p6']at b;omega
  ·rw[show fT T (i+1)=fT T i*T i i from rfl,<-Int.mul_assoc]
 ·rintro ρ ⟨s6,rfl⟩;have b:=bd k (le_refl _);unfold pS;walk_at "u";refine⟨ns,2,rfl,hl,by decide,by decide,λcc=>⟨cc,k,T,_,_,rfl,by decide,k1,k8,b.1,b.2,sT,λj hj=> ?_,λL hL few g=> ?_⟩⟩
  ·refine(Gen.mul (rL dr.st.toTri k (le_refl _) j hj) (1+d)).cong λx _=> ?_
   unfold mE;split
   ·rfl
   ·rw[mul_zero]
  ·exact h _ L _ b.1 b.2 hL few ⟨dr.st,λv=>(g v).symm⟩
theorem xS {xs ws:List Int}(h:Below xs ws){j:Nat}{w:Int}(hw:ws[j]? =some w):0<=xs.getD j 0/\xs.getD j 0<w:=by
 have hj:j<xs.length:=by rw[h.1];exact(List.getElem?_eq_some_iff.mp hw).1
 rw[getD_eq_getElem?_getD,getElem?_eq_getElem hj];exact h.2 j _ w (getElem?_eq_getElem hj) hw
theorem a80 {l:List D}{a b:Nat}(h:a<=b)(hb:b<=l.length):cutD l (some (a:Int)) (some (b:Int))=(l.drop a).take (b-a):=by
 unfold cutD;rw[HT.sIx_nat,HT.sIx_nat,min_eq_left hb,min_eq_left (le_trans h hb)]
theorem own_at {ρ:Ev}{i:Nat}{l:List D}{Z:List D->Prop}(h:ρ[i]? =some (some (.ow l)))(q:Z l):eX ρ i Z:=by
 unfold eX;rw[h];exact q
theorem rd_t1 {E:UD}{ns:List Int}{k:Nat}{m:Int}{s1:Option B}(hl:ns.length<=63)(k1:1<=k)(k8:k<=8)(m1:1<=m)(m2:m<=1000000)
  (h: ∀L T s4 s6,LOk k L->L.length<=20->SOk k m L T->E.nx [some (.pu (.rol (ns.map .int))),s1,some (.pu (.int (k:Int))),some (.pu (.int m)),s4,some (.ow (L.map aO)),s6,some (.pu (.tup (tbF k k T))),none,none,none]) :
  jL E [some (.pu (.rol (ns.map .int))),s1,some (.pu (.int (k:Int))),some (.pu (.int m)),none,none,none,none,none,none,none]:=by
 have big:(10000:Nat)<=sizeLine:=by decide
 unfold jL;rw[aK];walk_at "u";rw[fQ];refine⟨ns,1,rfl,hl,by decide,by decide,λcc=>⟨by omega,cpl (by decide) (by decide) (by decide),by omega,⟨by decide,by decide,by decide⟩,by simp;omega,cc,6::replicate 40 100000000,_,rfl,by simp,by decide,?_,λxs hx=> ?_⟩⟩
 ·intro w hw;rcases List.mem_cons.mp hw with rfl|hw
  ·decide
  ·rw[List.eq_of_mem_replicate hw];decide
 dsimp only;have xl:xs.length=41:=by rw[hx.1];rfl
 have b0:0<=xs.getD 0 0/\xs.getD 0 0<6:=xS hx rfl;have a0:atI (xs.map D.int) 0=some (.int (xs.getD 0 0)):=lB (j:=0) (by omega)
 obtain⟨w,hw⟩: ∃w:Nat,(w:Int)=xs.getD 0 0:=⟨(xs.getD 0 0).toNat,by omega⟩
 unfold pQ;rw[aK];walk_at "u";refine⟨by omega,?_⟩
 unfold pP;rw[aK];refine bH w (λj=> .int (0+(j:Int))) [some (.pu (.rol (ns.map .int))),s1,some (.pu (.int (k:Int))),some (.pu (.int m)),some (.ow (xs.map .int)),some (.ow []),none,none,none,none,none] ?_
  (λi ρ=> ∃(L:List (List Int)) (s6:Option B),ρ=[some (.pu (.rol (ns.map .int))),s1,some (.pu (.int (k:Int))),some (.pu (.int m)),some (.ow (xs.map .int)),some (.ow (L.map aO)),s6,none,none,none,none]/\L.length=i/\(∀l∈L,l.length=k)/\ ∀l∈L,∀x∈l,x.natAbs<=2^1000) ⟨[],none,rfl,rfl,by simp,by simp⟩ ?_ ?_
 ·intro Q' q;walk_at "u";simp only[a0];rw[<-hw,toNat_natCast];exact⟨⟨by omega,by omega⟩,q⟩
 ·rintro i ρ hi ⟨L,s6,rfl,h1,h2,h3⟩;refine⟨by simp,?_⟩
  have ez:0+(i:Int)=(i:Int):=by omega
  rw[ez];have hki:k*i+k<=40:=by
   have:k*(i+1)<=8*5:=mul_le_mul k8 (by omega)
   rw[Nat.mul_add,Nat.mul_one]at this;omega
  obtain⟨P,hP⟩: ∃P,P=k*i:=⟨_,rfl⟩;have eP:(k:Int)*(i:Int)=(P:Int):=by rw[hP];norm_cast
  rw[<-hP]at hki;show(jV 5 _:US) _ [some (.pu (.rol (ns.map .int))),s1,some (.pu (.int (k:Int))),some (.pu (.int m)),some (.ow (xs.map .int)),some (.ow (L.map aO)),some (.pu (.int (i:Int))),none,none,none,none];unfold jV;rw[iS,iT];refine own_at (l:=L.map aO) rfl ?_
  refine e9 (t0:=0) k (λj=>(((xs.map D.int).drop (1+P)).take k).getD j .non) [some (.pu (.rol (ns.map .int))),s1,some (.pu (.int (k:Int))),some (.pu (.int m)),some (.ow (xs.map .int)),some (.ow (L.map aO)),some (.pu (.int (i:Int))),none,none,none,none] ?_ (by omega) (λx l=>[x,some (.pu (.int m)),some (.ow l)]) none rfl (λ_ _ _=>rfl) (λ_ _=>zero_lt_succ _) (λ_ _ _ q=>q) (λ_ _ _=>rfl) (λj=> .int (xs.getD (1+P+j) 0%(3*m+1)-m)) ?_ ?_
  ·intro Q' q;walk_at "u";rw[eP,show(1:Int)+(P:Int)+(k:Int)=((1+P+k:Nat):Int)by omega,show(1:Int)+(P:Int)=((1+P:Nat):Int)by omega,a80 (by omega) (by rw[length_map];omega),show 1+P+k-(1+P)=k by omega]
   have el:(((xs.map D.int).drop (1+P)).take k).length=k:=by
    rw[length_take,length_drop,length_map];omega
   rw[el];have sk:Sm (k:Int):=bB (e:=64) (by omega) (by decide)
   have si:Sm (i:Int):=bB (e:=64) (by omega) (by decide)
   exact⟨.inr ⟨sk,si⟩,.inr ⟨sk,si⟩,q⟩
  ·intro j l Q' hj q;have eg:(((xs.map D.int).drop (1+P)).take k).getD j .non= .int (xs.getD (1+P+j) 0):=by
    rw[getD_eq_getElem?_getD,List.getElem?_take,if_pos hj,getElem?_drop,getElem?_map,getD_eq_getElem?_getD,getElem?_eq_getElem (show 1+P+j<xs.length by omega)]
    rfl
   rw[eg]at q⊢;walk_at "u";rw[bP _ (by omega)]
   exact⟨.inr ⟨bB (e:=64) (by decide) (by decide),bB (e:=64) (by omega) (by decide)⟩,by omega,q⟩
  ·walk_at "u"
   rw[eJ];refine⟨by rw[length_map];omega,L++[rwF k λj=>xs.getD (1+P+j) 0%(3*m+1)-m],some (.pu (.int (i:Int))),?_,by simp[h1],λl hl=> ?_,λl hl x hx=> ?_⟩
   ·rw[map_append];rfl
   ·rcases List.mem_append.mp hl with hl|hl
    ·exact h2 l hl
    ·rw[List.mem_singleton.mp hl];exact dZ _ _
   ·rcases List.mem_append.mp hl with hl|hl
    ·exact h3 l hl x hx
    ·rw[List.mem_singleton.mp hl]at hx;obtain⟨j,_,rfl⟩:=List.mem_map.mp hx;have e1:=emod_nonneg (xs.getD (1+P+j) 0) (show 3*m+1≠0 by omega)
     have e2:=emod_lt_of_pos (xs.getD (1+P+j) 0) (show 0<3*m+1 by omega)
     have e3:(2:Nat)^64<=2^1000:=pow_le_pow_right (by decide) (by decide)
     refine le_trans ?_ e3
     omega
 ·rintro ρ ⟨L,s6,rfl,h1,h2,h3⟩;have ok:LOk k L:=⟨h2,h3,by omega⟩
  unfold pO;walk_at "u";refine⟨k,m,L,rfl,k1,k8,m1,Int.le_trans m2 (by decide +kernel),ok,λT hT=> ?_⟩
  exact⟨vK _ _ _,h L T _ _ ok (by omega) hT⟩
theorem rd_law: ∀ds Q,qT ds Q->sM {nx:=λ_=>Q (.pu .non),rt:=Q} (init ["a","b","c","d","e","f","g","h","i","j","k"] ds):=by
 rintro ds Q ⟨ns,rfl,hl,hQ⟩;have big:(10000:Nat)<=sizeLine:=by decide
 unfold sM;show(aT _ _:US) _ [some (.pu (.rol (ns.map .int))),none,none,none,none,none,none,none,none,none,none];rw[aK];walk_at "u";refine⟨ns,0,rfl,hl,by decide,by decide,λcc=>⟨cpl (by decide) (by decide) (by decide),by decide,cc,[8,3,2,5,1000000],_,rfl,by decide,by decide,by decide,λxs hx=> ?_⟩⟩
 obtain⟨w0,w1,w2,w3,w4,rfl⟩: ∃w0 w1 w2 w3 w4,xs=[w0,w1,w2,w3,w4]:=by
  match xs,hx.1 with
  | [w0,w1,w2,w3,w4],_=>exact⟨w0,w1,w2,w3,w4,rfl⟩
 have b0:=hx.2 0 w0 8 rfl rfl;have b1:=hx.2 1 w1 3 rfl rfl;have b2:=hx.2 2 w2 2 rfl rfl;have b3:=hx.2 3 w3 5 rfl rfl;have b4:=hx.2 4 w4 1000000 rfl rfl;have a0:atI ([w0,w1,w2,w3,w4].map D.int) 0=some (.int w0):=d3 (j:=0) rfl;have a1:atI ([w0,w1,w2,w3,w4].map D.int) 1=some (.int w1):=d3 (j:=1) rfl;have a2:atI ([w0,w1,w2,w3,w4].map D.int) 2=some (.int w2):=d3 (j:=2) rfl
 have a3:atI ([w0,w1,w2,w3,w4].map D.int) 3=some (.int w3):=d3 (j:=3) rfl;have a4:atI ([w0,w1,w2,w3,w4].map D.int) 4=some (.int w4):=d3 (j:=4) rfl;generalize [w0,w1,w2,w3,w4].map D.int=W at a0 a1 a2 a3 a4⊢;unfold u8;rw[aK];walk_at "u";simp only[a0];obtain⟨k,hk⟩: ∃k:Nat,(k:Int)=1+w0:=⟨(1+w0).toNat,by omega⟩
 rw[<-hk];unfold u7;rw[aK];walk_at "u";simp only[a1]
 by_cases c:w1=0
 ·rw[if_pos c];unfold pR;rw[aK];walk_at "u";simp only[a2,a4];refine⟨cpl (by decide) (by decide) (by decide),by decide,?_⟩
  have fin: ∀j:Int,1<=j->j<=1000000->jL {nx:=mS {nx:=λx=>Q (B.pu D.non),rt:=Q},rt:=Q} [some (B.pu (D.rol (List.map D.int ns))),some (B.ow W),some (B.pu (D.int (k:Int))),some (B.pu (D.int (1+w4.fmod j))),none,none,none,none,none,none,none]:=by
   intro j j1 j2;rw[bP _ (show 0<j by omega)]
   have e1:=emod_nonneg w4 (show j≠0 by omega)
   have e2:=emod_lt_of_pos w4 (show 0<j by omega)
   refine rd_t1 hl (by omega) (by omega) (by omega) (by omega) λL T s4 s6 ok few due=> ?_
   exact wS (by omega) (by omega) (by omega) (Int.le_trans (show 1+w4%j<=1000000 by omega) (by decide +kernel)) ok few due hQ
  rcases(show w2=0\/w2=1 by omega)with e|e
  ·rw[e,show atI [D.int 60,D.int (10^toNat 6)] 0=some (.int 60)from rfl]
   exact⟨by decide,fin 60 (by decide) (by decide)⟩
  ·rw[e,show atI [D.int 60,D.int (10^toNat 6)] 1=some (.int (10^toNat 6))from rfl]
   exact⟨by decide,fin _ (by decide) (by decide)⟩
 ·rw[if_neg c];unfold pU;rw[aK];walk_at "u";refine⟨ns,1,rfl,hl,by decide,by decide,λcc=>⟨cc,k,_,rfl,by decide,by omega,by omega,λT hT=> ?_⟩⟩
  obtain⟨U,dU,eU,bU⟩:=hT.norm;try dsimp only
  rw[<-eU];unfold pT;rw[aK];walk_at "u";simp only[a3];exact rd_e2 hl (by omega) (by omega) b3.1 b3.2 dU bU λm L s6 m1 m2 ok few due=>wS (by omega) (by omega) m1 m2 ok few due hQ
end M
end
namespace M
open PySem PySem.Spec PyProof.Rows L2
set_option maxHeartbeats 4000000
def top (i:Nat):Stmt:=PySem.Challenge.pw_ringhouse_k26_stair_hidden.main.body.getD i (.Pass ⟨0,0,0,0⟩)
abbrev cC:Stmt:=top 1
abbrev dM:Stmt:=top 3
abbrev cN:Stmt:=top 4
abbrev dN:Stmt:=top 5
abbrev eO:Stmt:=top 6
abbrev kM:Stmt:=top 8
abbrev i6:Stmt:=top 9
abbrev i7:Stmt:=top 10
abbrev dO:Stmt:=top 11
abbrev i8:Stmt:=top 12
abbrev mT:Stmt:=top 13
abbrev d4:Stmt:=top 14
abbrev kN:Stmt:=top 15
abbrev i9:Stmt:=top 16
abbrev dC:Stmt:=top 17
abbrev jT:Stmt:=top 18
theorem cE:bX ["a","b","g","low","t","later","many"] ["a","b"] (aF cC):=⟨rfl,rfl,rfl,by decide +kernel,rfl,by decide +kernel,by decide +kernel⟩
theorem e8:bX ["k","m","rows","triangle","row","table","i"] ["k","m","rows"] (aF dM):=⟨rfl,rfl,rfl,by decide +kernel,rfl,by decide +kernel,by decide +kernel⟩
theorem bZ:bX ["triangle","m","row","found","left","i","high","g","s","t"] ["triangle","m","row"] (aF cN):=⟨rfl,rfl,rfl,by decide +kernel,rfl,by decide +kernel,by decide +kernel⟩
theorem vL:bX ["s","one","t","other","m","size"] ["s","one","t","other","m","size"] (aF dN):=⟨rfl,rfl,rfl,by decide +kernel,rfl,by decide +kernel,by decide +kernel⟩
theorem j5:bX ["table","row","left","i","many"] ["table","row"] (aF eO):=⟨rfl,rfl,rfl,by decide +kernel,rfl,by decide +kernel,by decide +kernel⟩
theorem a81:bX ["_law_script","_law_k"] ["_law_script","_law_k"] (aF kM):=⟨rfl,rfl,rfl,by decide +kernel,rfl,by decide +kernel,by decide +kernel⟩
theorem pV:bX ["_law_cell_here","_law_k","_law_prime","_law_far"] ["_law_cell_here","_law_k","_law_prime"] (aF i6):=⟨rfl,rfl,rfl,by decide +kernel,rfl,by decide +kernel,by decide +kernel⟩
theorem j6:bX ["_law_cell_here","_law_widths","_law_prime","_law_left","_law_found","_law_k"] ["_law_cell_here","_law_widths","_law_prime"] (aF i7):=⟨rfl,rfl,rfl,by decide +kernel,rfl,by decide +kernel,by decide +kernel⟩
theorem cX:bX ["_law_many","_law_m","_law_rows","_law_table","_law_row_here","_law_left","_law_at","_law_part","_law_onward","_law_low","_law_i","_law_j"] ["_law_many","_law_m","_law_rows"] (aF dO):=⟨rfl,rfl,rfl,by decide +kernel,rfl,by decide +kernel,by decide +kernel⟩
theorem a27:bX ["_law_found"] ["_law_found"] (aF i8):=⟨rfl,rfl,rfl,by decide +kernel,rfl,by decide +kernel,by decide +kernel⟩
theorem sc_row:bX ["_law_found","_law_many"] ["_law_found","_law_many"] (aF mT):=⟨rfl,rfl,rfl,by decide +kernel,rfl,by decide +kernel,by decide +kernel⟩
theorem u9:bX ["_law_found","_law_many"] ["_law_found","_law_many"] (aF d4):=⟨rfl,rfl,rfl,by decide +kernel,rfl,by decide +kernel,by decide +kernel⟩
theorem mU:bX ["_law_raw","_law_at","_law_k","_law_most","_law_far","_law_step"] ["_law_raw","_law_at","_law_k"] (aF kN):=⟨rfl,rfl,rfl,by decide +kernel,rfl,by decide +kernel,by decide +kernel⟩
theorem dD:bX ["_law_cell_here","_law_k","_law_prime","_law_deep","_law_raw","_law_table","_law_at","_law_i","_law_onward","_law_row_here","_law_j"] ["_law_cell_here","_law_k","_law_prime"] (aF i9):=⟨rfl,rfl,rfl,by decide +kernel,rfl,by decide +kernel,by decide +kernel⟩
theorem cJ:bX ["_law_cell_here","_law_table","_law_m","_law_prime","_law_k","_law_raw","_law_rows","_law_s","_law_i","_law_j","_law_more","_law_first"] ["_law_cell_here","_law_table","_law_m","_law_prime"] (aF dC):=⟨rfl,rfl,rfl,by decide +kernel,rfl,by decide +kernel,by decide +kernel⟩
theorem dS:bX ["_law_script","_law_deep","_law_k","_law_m","_law_raw","_law_rows","_law_i","_law_due","_law_kept","_law_found","_law_again"] ["_law_script"] (aF jT):=⟨rfl,rfl,rfl,by decide +kernel,rfl,by decide +kernel,by decide +kernel⟩
section
variable {P:Program}{w:World}{K:Frag}{mg:Str->Option Value}{base:Heap}
theorem nX {f:Addr}{cdv:Value}{A:Around}{outer:List Env}{s:Shared}{H:Hp}{E:XK}(hr:cT 0 (A.deeper (envOfC "shared_by" (aF cC) s.heap.objs.size f cdv))) :
  eT (fY CX0 P w K mg base ["a","b","g","low","t","later","many"] "shared_by" (aF cC) f cdv A outer s H E).nox (aV cC) gQ:=
 (aJ (uT 2 3 rfl cE.nd rfl rfl (by decide) rfl rfl (aA (aB 0 (pv 0)) (aA (aH cU (aB 1 (pv 1)) (aB 0 (pv 0))) aG)) rfl (hl:=il2 (n:=7) rfl (by decide) (by decide))) (aJ (yT (mX (aA aE (aA aE aG))) (j9 rfl (bO 4 (aN cE.nd rfl (Or.inl rfl)) (bO 5 (aN cE.nd rfl (Or.inl rfl)) fZ)) (bG (bG eI)))) (aJ (t5 PassesOwn.never (cL t7 (aB 3 (pv 3)) aE (cS _)) (aJ (aW 6 cE.nd rfl (Or.inl rfl) (aH jX (aB 2 (pv 2)) (aB 3 (pv 3))) (hl:=il (n:=7) rfl (by decide))) (aJ (uT 2 3 rfl cE.nd rfl rfl (by decide) rfl rfl (aA (aB 3 (pv 3)) (aA (aH cH (aB 2 (pv 2)) (aH b8 (aB 6 (pv 6)) (aB 3 (pv 3)))) aG)) rfl (hl:=il2 (n:=7) rfl (by decide) (by decide))) (aX (uT 4 5 rfl cE.nd rfl rfl (by decide) rfl rfl (aA (aB 5 (pv 5)) (aA (aH cH (aB 4 (pv 4)) (aH b8 (aB 6 (pv 6)) (aB 5 (pv 5)))) aG)) rfl (hl:=il2 (n:=7) rfl (by decide) (by decide))))))) (aX (dF (mX (aA (aB 2 (pv 2)) (aA (aH jX (aH cH (aB 2 (pv 2)) (aH b8 (aB 4 (pv 4)) (aB 1 (pv 1)))) (aB 0 (pv 0))) (aA (aB 4 (pv 4)) aG)))))))))
theorem uA (aY:mg "range"=none)(dJ:mg "enumerate"=none)(bA:mg "tuple"=none)(jM:Fn P w K mg base "taken_in" ["triangle","m","row"] 2 dY)(pX:Fn P w K mg base "rest" ["table","row"] 1 iY){f:Addr}{cdv:Value}{A:Around}{outer:List Env}{s:Shared}{H:Hp}{E:XK}(hr:cT 2 (A.deeper (envOfC "stair" (aF dM) s.heap.objs.size f cdv))) :
  eT (fY CX0 P w K mg base ["k","m","rows","triangle","row","table","i"] "stair" (aF dM) f cdv A outer s H E).nox (aV dM) lL:=
 (aJ (fO (js:=[1,0]) (N:=["i","m","k",".acc"]) (cap:=[none,some 1,some 0,none]) (last:=3) (esc:=(aF dM).names) (XN:=["k","m","rows","triangle","row","table","i"]) 3 rfl rfl (by decide +kernel) (by decide) (by decide) rfl (cI rfl aY (aA (aB 0 (pv 0)) aG)) (λ_ _ _ _ _ _=>(bI 0 (aN (show Nodup (["i","m","k",".acc"]:List Str)by decide +kernel) rfl (Or.inl rfl)))) (λ_ _ _ _ _ _=>cR) (λ_ _ _ _ _ _=>(aH b7 (aH b7 (aH wG (mX (aA aE aG)) (aB 0 (pv 0))) (mX (aA (aB 1 (pv 1)) aG))) (aH wG (mX (aA aE aG)) (aH cH (aH cH (aB 2 (pv 2)) (aB 0 (pv 0))) aE)))) (aN e8.nd rfl (Or.inl rfl)) (il (n:=7) rfl (by decide))) (aJ (dR PassesOwn.never rfl (jA (aB 2 (pv 2))) (bI 4 (aN e8.nd rfl (Or.inl rfl))) (aX (aW 3 e8.nd rfl (Or.inl rfl) (cZ jM hr (by decide) rfl (aA (aB 3 (pv 3)) (aA (aB 1 (pv 1)) (aA (aB 4 (pv 4)) aG)))) (hl:=il (n:=7) rfl (by decide))))) (aJ (aW 5 e8.nd rfl (Or.inl rfl) (cB aG) (hl:=il (n:=7) rfl (by decide))) (aJ (dR PassesOwn.never rfl (a64 (by rfl) dJ (aA (aB 3 (pv 3)) aG)) (j9 rfl (bO 6 (aN e8.nd rfl (Or.inl rfl)) (bO 4 (aN e8.nd rfl (Or.inl rfl)) fZ)) (bG (bG eI))) (aX (dL 5 (pv 5) (aH b7 (kD (cZ pX hr (by decide) rfl (aA (aB 5 (pv 5)) (aA (iN (aB 4 (pv 4)) eF (dG (aB 6 (pv 6)))) aG)))) (iN (aB 4 (pv 4)) (dG (aB 6 (pv 6))) eF))))) (aX (dF (bV dW rfl bA d8 (aA (aB 5 (pv 5)) aG))))))))
theorem pW (eQ:mg "list"=none)(cO:mg "reversed"=none)(aY:mg "range"=none)(cQ:mg "len"=none)(iG:Fn P w K mg base "shared_by" ["a","b"] 1 dI)(kS:Fn P w K mg base "mixed" ["s","one","t","other","m","size"] 1 fE){f:Addr}{cdv:Value}{A:Around}{outer:List Env}{s:Shared}{H:Hp}{E:XK}(hr:cT 1 (A.deeper (envOfC "taken_in" (aF cN) s.heap.objs.size f cdv))) :
  eT (fY CX0 P w K mg base ["triangle","m","row","found","left","i","high","g","s","t"] "taken_in" (aF cN) f cdv A outer s H E).nox (aV cN) iE:=
 (aJ (aW 3 bZ.nd rfl (Or.inl rfl) (bV o7 rfl eQ oB (aA (aB 0 (pv 0)) aG)) (hl:=il (n:=10) rfl (by decide))) (aJ (aW 4 bZ.nd rfl (Or.inl rfl) (aB 2 (pv 2)) (hl:=il (n:=10) rfl (by decide))) (aJ (dR PassesOwn.never rfl (wF rfl cO rfl aY (aA (iC (aM 2 (pv 2)) rfl cQ) aG)) (bI 5 (aN bZ.nd rfl (Or.inl rfl))) (aJ (aW 6 bZ.nd rfl (Or.inl rfl) (aZ (aM 3 (pv 3)) (aB 5 (pv 5)) (λ_ _=>rfl)) (hl:=il (n:=10) rfl (by decide))) (aJ (yT (cZ iG hr (by decide) rfl (aA (aZ (aM 6 (pv 6)) (aB 5 (pv 5)) (λ_ _=>rfl)) (aA (aZ (aM 4 (pv 4)) (aB 5 (pv 5)) (λ_ _=>rfl)) aG))) (j9 rfl (bO 7 (aN bZ.nd rfl (Or.inl rfl)) (bO 8 (aN bZ.nd rfl (Or.inl rfl)) (bO 9 (aN bZ.nd rfl (Or.inl rfl)) fZ))) (bG (bG (bG eI))))) (aJ (gJ 3 (pv 3) (aH b7 (aH b7 (cZ kS hr (by decide) rfl (aA (aB 8 (pv 8)) (aA (aB 6 (pv 6)) (aA (aB 9 (pv 9)) (aA (aB 4 (pv 4)) (aA (aB 1 (pv 1)) (aA (aB 5 (pv 5)) aG))))))) (mX (aA (aB 7 (pv 7)) aG))) (iN (aB 6 (pv 6)) (dG (aH b7 (aB 5 (pv 5)) aE)) eF)) (aB 5 (pv 5))) (aX (aW 4 bZ.nd rfl (Or.inl rfl) (cZ kS hr (by decide) rfl (aA (aH jX (aZ (aM 6 (pv 6)) (aB 5 (pv 5)) (λ_ _=>rfl)) (aB 7 (pv 7))) (aA (aB 4 (pv 4)) (aA (aH jX (oK (aZ (aM 4 (pv 4)) (aB 5 (pv 5)) (λ_ _=>rfl))) (aB 7 (pv 7))) (aA (aB 6 (pv 6)) (aA (aB 1 (pv 1)) (aA (aB 5 (pv 5)) aG))))))) (hl:=il (n:=10) rfl (by decide)))))))) (aX (o0 3 (pv 3))))))
theorem uB (bA:mg "tuple"=none)(eY:mg "zip"=none){f:Addr}{cdv:Value}{A:Around}{outer:List Env}{s:Shared}{H:Hp}{E:XK}(hr:cT 0 (A.deeper (envOfC "mixed" (aF dN) s.heap.objs.size f cdv))) :
  eT (fY CX0 P w K mg base ["s","one","t","other","m","size"] "mixed" (aF dN) f cdv A outer s H E).nox (aV dN) lK:=
 (aX (dF (bV dW rfl bA d8 (aA (dX (js:=[0,2,4]) (N:=["c","d","s","t","m",".acc"]) (cap:=[none,none,some 0,some 2,some 4,none]) (last:=5) (esc:=(aF dN).names) (XN:=["s","one","t","other","m","size"]) rfl rfl (by decide +kernel) (by decide) (by decide) rfl (nE (by rfl) eY (aA (iN (aB 1 (pv 1)) eF (dG (aB 5 (pv 5)))) (aA (iN (aB 3 (pv 3)) eF (dG (aB 5 (pv 5)))) aG))) (λ_ _ _ _ _ _=>(j9 rfl (bO 0 (aN (show Nodup (["c","d","s","t","m",".acc"]:List Str)by decide +kernel) rfl (Or.inl rfl)) (bO 1 (aN (show Nodup (["c","d","s","t","m",".acc"]:List Str)by decide +kernel) rfl (Or.inl rfl)) fZ)) (bG (bG eI)))) (λ_ _ _ _ _ _=>cR) (λ_ _ _ _ _ _=>(aH cU (aH b7 (aH b8 (aB 2 (pv 2)) (aB 0 (pv 0))) (aH b8 (aB 3 (pv 3)) (aB 1 (pv 1)))) (aB 4 (pv 4))))) aG))))
theorem vM (cO:mg "reversed"=none)(aY:mg "range"=none)(cQ:mg "len"=none)(bA:mg "tuple"=none)(eY:mg "zip"=none){f:Addr}{cdv:Value}{A:Around}{outer:List Env}{s:Shared}{H:Hp}{E:XK}(hr:cT 0 (A.deeper (envOfC "rest" (aF eO) s.heap.objs.size f cdv))) :
  eT (fY CX0 P w K mg base ["table","row","left","i","many"] "rest" (aF eO) f cdv A outer s H E).nox (aV eO) nH:=
 (aJ (aW 2 j5.nd rfl (Or.inl rfl) (aB 1 (pv 1)) (hl:=il (n:=5) rfl (by decide))) (aJ (dR PassesOwn.never rfl (wF rfl cO rfl aY (aA (iC (aM 1 (pv 1)) rfl cQ) aG)) (bI 3 (aN j5.nd rfl (Or.inl rfl))) (aJ (aW 4 j5.nd rfl (Or.inr rfl) (aH jX (aZ (aM 2 (pv 2)) (aB 3 (pv 3)) (λ_ _=>rfl)) (aZ (iI (aZ (aM 0 (pv 0)) (aB 3 (pv 3)) (λ_ _=>rfl))) (aB 3 (pv 3)) (λ_ _=>rfl))) (hl:=il (n:=5) rfl (by decide))) (aX (aW 2 j5.nd rfl (Or.inl rfl) (bV dW rfl bA d8 (aA (dX (js:=[4]) (N:=["c","d","many",".acc"]) (cap:=[none,none,some 4,none]) (last:=3) (esc:=(aF eO).names) (XN:=["table","row","left","i","many"]) rfl rfl (by decide +kernel) (by decide) (by decide) rfl (nE (by rfl) eY (aA (aB 2 (pv 2)) (aA (aZ (aM 0 (pv 0)) (aB 3 (pv 3)) (λ_ _=>rfl)) aG))) (λ_ _ _ _ _ _=>(j9 rfl (bO 0 (aN (show Nodup (["c","d","many",".acc"]:List Str)by decide +kernel) rfl (Or.inl rfl)) (bO 1 (aN (show Nodup (["c","d","many",".acc"]:List Str)by decide +kernel) rfl (Or.inl rfl)) fZ)) (bG (bG eI)))) (λ_ _ _ _ _ _=>cR) (λ_ _ _ _ _ _=>(aH cH (aB 0 (pv 0)) (aH b8 (aB 2 (pv 2)) (aB 1 (pv 1)))))) aG)) (hl:=il (n:=5) rfl (by decide)))))) (aX (o0 2 (pv 2)))))
theorem a28 (cQ:mg "len"=none){f:Addr}{cdv:Value}{A:Around}{outer:List Env}{s:Shared}{H:Hp}{E:XK}(hr:cT 0 (A.deeper (envOfC "_law_cell" (aF kM) s.heap.objs.size f cdv))) :
  eT (fY CX0 P w K mg base ["_law_script","_law_k"] "_law_cell" (aF kM) f cdv A outer s H E).nox (aV kM) sJ:=
 (aJ (iK (cL qS (iC (aM 0 (pv 0)) rfl cQ) aE (cS _)) (aX (dF (aH b8 aE (aH b7 (aB 1 (pv 1)) aE)))) gG) (aJ (iK (cL a91 (aB 1 (pv 1)) (iC (aM 0 (pv 0)) rfl cQ) (cS _)) (aX (dF (aZ (aM 0 (pv 0)) (aB 1 (pv 1)) (λ_ _=>rfl)))) gG) (aX (dF (aH b7 (aZ (aM 0 (pv 0)) (aH cU (aB 1 (pv 1)) (iC (aM 0 (pv 0)) rfl cQ)) (λ_ _=>rfl)) (aH b8 aE (aB 1 (pv 1))))))))
theorem xT {f:Addr}{cdv:Value}{A:Around}{outer:List Env}{s:Shared}{H:Hp}{E:XK}(hr:cT 0 (A.deeper (envOfC "_law_mixed" (aF i6) s.heap.objs.size f cdv))) :
  eT (fY CX0 P w K mg base ["_law_cell_here","_law_k","_law_prime","_law_far"] "_law_mixed" (aF i6) f cdv A outer s H E).nox (aV i6) oU:=
 (aJ (aW 3 pV.nd rfl (Or.inl rfl) (aH cU (aH b8 (aH b7 (aH b7 (aH b7 (aB 0 (pv 0)) (aH b8 (aH b8 aE (aB 1 (pv 1))) (aB 1 (pv 1)))) (aH b8 aE (aB 1 (pv 1)))) aE) aE) aE) (hl:=il (n:=4) rfl (by decide))) (aJ (aW 3 pV.nd rfl (Or.inl rfl) (aH cU (aH b8 (aB 3 (pv 3)) (aB 3 (pv 3))) aE) (hl:=il (n:=4) rfl (by decide))) (aX (dF (aH cU (aH b8 (aB 3 (pv 3)) aE) (aB 2 (pv 2)))))))
theorem xU (aY:mg "range"=none)(cQ:mg "len"=none)(sO:Fn P w K mg base "_law_mixed" ["_law_cell_here","_law_k","_law_prime"] 1 iR){f:Addr}{cdv:Value}{A:Around}{outer:List Env}{s:Shared}{H:Hp}{E:XK}(hr:cT 1 (A.deeper (envOfC "_law_draws" (aF i7) s.heap.objs.size f cdv))) :
  eT (fY CX0 P w K mg base ["_law_cell_here","_law_widths","_law_prime","_law_left","_law_found","_law_k"] "_law_draws" (aF i7) f cdv A outer s H E).nox (aV i7) oV:=
 (aJ (aW 3 j6.nd rfl (Or.inl rfl) aE (hl:=il (n:=6) rfl (by decide))) (aJ (iK (cL ou_ge (aB 0 (pv 0)) (aH eG aE aE) (cS _)) (aX (aW 3 j6.nd rfl (Or.inl rfl) (aH cH (aB 0 (pv 0)) (aH eG aE aE)) (hl:=il (n:=6) rfl (by decide)))) gG) (aJ (aW 4 j6.nd rfl (Or.inl rfl) (cB aG) (hl:=il (n:=6) rfl (by decide))) (aJ (dR PassesOwn.never rfl (cI rfl aY (aA (iC (aM 1 (pv 1)) rfl cQ) aG)) (bI 5 (aN j6.nd rfl (Or.inl rfl))) (aX (iK (cL a92 (aB 3 (pv 3)) aE (cS _)) (aJ (dL 4 (pv 4) (aH cU (aB 3 (pv 3)) (aZ (aM 1 (pv 1)) (aB 5 (pv 5)) (λ_ _=>rfl)))) (aX (aW 3 j6.nd rfl (Or.inl rfl) (aH jX (aB 3 (pv 3)) (aZ (aM 1 (pv 1)) (aB 5 (pv 5)) (λ_ _=>rfl))) (hl:=il (n:=6) rfl (by decide))))) (aX (dL 4 (pv 4) (aH cU (cZ sO hr (by decide) rfl (aA (aB 0 (pv 0)) (aA (aB 5 (pv 5)) (aA (aB 2 (pv 2)) aG)))) (aZ (aM 1 (pv 1)) (aB 5 (pv 5)) (λ_ _=>rfl)))))))) (aX (o0 4 (pv 4)))))))
theorem xV (aY:mg "range"=none)(lC:mg "int"=none)(eY:mg "zip"=none)(bA:mg "tuple"=none){f:Addr}{cdv:Value}{A:Around}{outer:List Env}{s:Shared}{H:Hp}{E:XK}(hr:cT 0 (A.deeper (envOfC "_law_stair" (aF dO) s.heap.objs.size f cdv))) :
  eT (fY CX0 P w K mg base ["_law_many","_law_m","_law_rows","_law_table","_law_row_here","_law_left","_law_at","_law_part","_law_onward","_law_low","_law_i","_law_j"] "_law_stair" (aF dO) f cdv A outer s H E).nox (aV dO) pB:=
 (aJ (fO (js:=[0,1]) (N:=["_law_i","_law_many","_law_m",".acc"]) (cap:=[none,some 0,some 1,none]) (last:=3) (esc:=(aF dO).names) (XN:=["_law_many","_law_m","_law_rows","_law_table","_law_row_here","_law_left","_law_at","_law_part","_law_onward","_law_low","_law_i","_law_j"]) 3 rfl rfl (by decide +kernel) (by decide) (by decide) rfl (cI rfl aY (aA (aB 0 (pv 0)) aG)) (λ_ _ _ _ _ _=>(bI 0 (aN (show Nodup (["_law_i","_law_many","_law_m",".acc"]:List Str)by decide +kernel) rfl (Or.inr rfl)))) (λ_ _ _ _ _ _=>cR) (λ_ _ _ _ _ _=>(dX (js:=[2,0]) (N:=["_law_j","_law_m","_law_i",".acc"]) (cap:=[none,some 2,some 0,none]) (last:=3) (esc:=[(".0",NameKind.local),("_law_i",NameKind.cell),("range",NameKind.globalImplicit),("_law_m",NameKind.cell),("_law_many",NameKind.cell)]) (XN:=["_law_i","_law_many","_law_m",".acc"]) rfl rfl (by decide +kernel) (by decide) (by decide) rfl (cI rfl aY (aA (aB 1 (pv 1)) aG)) (λ_ _ _ _ _ _=>(bI 0 (aN (show Nodup (["_law_j","_law_m","_law_i",".acc"]:List Str)by decide +kernel) rfl (Or.inl rfl)))) (λ_ _ _ _ _ _=>cR) (λ_ _ _ _ _ _=>(aH b8 (aB 1 (pv 1)) (bV cu_int rfl lC a02 (aA (uR qS (aB 2 (pv 2)) (aB 0 (pv 0)) (cS _)) aG)))))) (aN cX.nd rfl (Or.inl rfl)) (il (n:=12) rfl (by decide))) (aJ (dR PassesOwn.never rfl (jA (aB 2 (pv 2))) (bI 4 (aN cX.nd rfl (Or.inl rfl))) (aJ (fO (js:=[1]) (N:=["_law_place","_law_m",".acc"]) (cap:=[none,some 1,none]) (last:=2) (esc:=(aF dO).names) (XN:=["_law_many","_law_m","_law_rows","_law_table","_law_row_here","_law_left","_law_at","_law_part","_law_onward","_law_low","_law_i","_law_j"]) 5 rfl rfl (by decide +kernel) (by decide) (by decide) rfl (jA (aB 4 (pv 4))) (λ_ _ _ _ _ _=>(bI 0 (aN (show Nodup (["_law_place","_law_m",".acc"]:List Str)by decide +kernel) rfl (Or.inl rfl)))) (λ_ _ _ _ _ _=>cR) (λ_ _ _ _ _ _=>(aH cU (aB 0 (pv 0)) (aB 1 (pv 1)))) (aN cX.nd rfl (Or.inl rfl)) (il (n:=12) rfl (by decide))) (aX (dR PassesOwn.never rfl (r6 rfl aY (aA (aH cH (aB 0 (pv 0)) aE) (aA (oK aE) (aA (oK aE) aG)))) (bI 6 (aN cX.nd rfl (Or.inl rfl))) (aX (t5 PassesOwn.never (cL t7 (aZ (aM 5 (pv 5)) (aB 6 (pv 6)) (λ_ _=>rfl)) aE (cS _)) (aJ (aW 7 cX.nd rfl (Or.inr rfl) (aH jX (aZ (iI (aZ (aM 3 (pv 3)) (aB 6 (pv 6)) (λ_ _=>rfl))) (aB 6 (pv 6)) (λ_ _=>rfl)) (aZ (aM 5 (pv 5)) (aB 6 (pv 6)) (λ_ _=>rfl))) (hl:=il (n:=12) rfl (by decide))) (aJ (aW 8 cX.nd rfl (Or.inl rfl) (aH cH (aZ (iI (aZ (aM 3 (pv 3)) (aB 6 (pv 6)) (λ_ _=>rfl))) (aB 6 (pv 6)) (λ_ _=>rfl)) (aH b8 (aB 7 (pv 7)) (aZ (aM 5 (pv 5)) (aB 6 (pv 6)) (λ_ _=>rfl)))) (hl:=il (n:=12) rfl (by decide))) (aJ (aW 9 cX.nd rfl (Or.inl rfl) (jW (iI (aZ (aM 3 (pv 3)) (aB 6 (pv 6)) (λ_ _=>rfl))) eF (dG (aB 6 (pv 6)))) (hl:=il (n:=12) rfl (by decide))) (aJ (fO (js:=[7,1]) (N:=["_law_a","_law_b","_law_part","_law_m",".acc"]) (cap:=[none,none,some 7,some 1,none]) (last:=4) (esc:=(aF dO).names) (XN:=["_law_many","_law_m","_law_rows","_law_table","_law_row_here","_law_left","_law_at","_law_part","_law_onward","_law_low","_law_i","_law_j"]) 9 rfl rfl (by decide +kernel) (by decide) (by decide) rfl (nE (by rfl) eY (aA (aB 9 (pv 9)) (aA (aB 5 (pv 5)) aG))) (λ_ _ _ _ _ _=>(j9 rfl (bO 0 (aN (show Nodup (["_law_a","_law_b","_law_part","_law_m",".acc"]:List Str)by decide +kernel) rfl (Or.inl rfl)) (bO 1 (aN (show Nodup (["_law_a","_law_b","_law_part","_law_m",".acc"]:List Str)by decide +kernel) rfl (Or.inl rfl)) fZ)) (bG (bG eI)))) (λ_ _ _ _ _ _=>cR) (λ_ _ _ _ _ _=>(aH cU (aH cH (aB 0 (pv 0)) (aH b8 (aB 2 (pv 2)) (aB 1 (pv 1)))) (aB 3 (pv 3)))) (aN cX.nd rfl (Or.inl rfl)) (il (n:=12) rfl (by decide))) (aJ (gJ 3 (pv 3) (aB 5 (pv 5)) (aB 6 (pv 6))) (aX (aW 5 cX.nd rfl (Or.inl rfl) (aH b7 (aH b7 (aB 9 (pv 9)) (cB (aA (aB 8 (pv 8)) aG))) (aH b8 (cB (aA aE aG)) (aH cH (aH cH (aB 0 (pv 0)) aE) (aB 6 (pv 6))))) (hl:=il (n:=12) rfl (by decide))))))))))))))) (aJ (dR PassesOwn.never rfl (cI rfl aY (aA (aB 0 (pv 0)) aG)) (bI 10 (aN cX.nd rfl (Or.inl rfl))) (aX (dR PassesOwn.never rfl (r6 rfl aY (aA (aH cH (aB 10 (pv 10)) aE) (aA (oK aE) (aA (oK aE) aG)))) (bI 11 (aN cX.nd rfl (Or.inl rfl))) (aJ (aW 7 cX.nd rfl (Or.inr rfl) (aH jX (aZ (iI (aZ (aM 3 (pv 3)) (aB 10 (pv 10)) (λ_ _=>rfl))) (aB 11 (pv 11)) (λ_ _=>rfl)) (aZ (iI (aZ (aM 3 (pv 3)) (aB 11 (pv 11)) (λ_ _=>rfl))) (aB 11 (pv 11)) (λ_ _=>rfl))) (hl:=il (n:=12) rfl (by decide))) (aX (gJ 3 (pv 3) (dX (js:=[7]) (N:=["_law_a","_law_b","_law_part",".acc"]) (cap:=[none,none,some 7,none]) (last:=3) (esc:=(aF dO).names) (XN:=["_law_many","_law_m","_law_rows","_law_table","_law_row_here","_law_left","_law_at","_law_part","_law_onward","_law_low","_law_i","_law_j"]) rfl rfl (by decide +kernel) (by decide) (by decide) rfl (nE (by rfl) eY (aA (aZ (aM 3 (pv 3)) (aB 10 (pv 10)) (λ_ _=>rfl)) (aA (aZ (aM 3 (pv 3)) (aB 11 (pv 11)) (λ_ _=>rfl)) aG))) (λ_ _ _ _ _ _=>(j9 rfl (bO 0 (aN (show Nodup (["_law_a","_law_b","_law_part",".acc"]:List Str)by decide +kernel) rfl (Or.inl rfl)) (bO 1 (aN (show Nodup (["_law_a","_law_b","_law_part",".acc"]:List Str)by decide +kernel) rfl (Or.inl rfl)) fZ)) (bG (bG eI)))) (λ_ _ _ _ _ _=>cR) (λ_ _ _ _ _ _=>(aH cH (aB 0 (pv 0)) (aH b8 (aB 2 (pv 2)) (aB 1 (pv 1)))))) (aB 10 (pv 10)))))))) (aX (dF (bV dW rfl bA d8 (aA (dX (js:=[]) (N:=["_law_row_here",".acc"]) (cap:=[none,none]) (last:=1) (esc:=(aF dO).names) (XN:=["_law_many","_law_m","_law_rows","_law_table","_law_row_here","_law_left","_law_at","_law_part","_law_onward","_law_low","_law_i","_law_j"]) rfl rfl (by decide +kernel) (by decide) (by decide) rfl (jA (aB 3 (pv 3))) (λ_ _ _ _ _ _=>(bI 0 (aN (show Nodup (["_law_row_here",".acc"]:List Str)by decide +kernel) rfl (Or.inl rfl)))) (λ_ _ _ _ _ _=>cR) (λ_ _ _ _ _ _=>(bV dW rfl bA d8 (aA (aB 0 (pv 0)) aG)))) aG)))))))
theorem xW (bD:mg "isinstance"=none)(lC:mg "int"=none)(lW:mg "bool"=none){f:Addr}{cdv:Value}{A:Around}{outer:List Env}{s:Shared}{H:Hp}{E:XK}(hr:cT 0 (A.deeper (envOfC "_law_whole" (aF i8) s.heap.objs.size f cdv))) :
  eT (fY CX0 P w K mg base ["_law_found"] "_law_whole" (aF i8) f cdv A outer s H E).nox (aV i8) oX:=
 (aX (dF (uS (iJ sC rfl bD fL (aA (aB 0 (pv 0)) (aA (wA rfl lC a02) aG))) (yR (pu_not (iJ sC rfl bD fL (aA (aB 0 (pv 0)) (aA (wA rfl lW a71) aG))))))))
theorem a82 (bD:mg "isinstance"=none)(bA:mg "tuple"=none)(cQ:mg "len"=none)(lD:mg "all"=none)(sP:Fn P w K mg base "_law_whole" ["_law_found"] 1 kE){f:Addr}{cdv:Value}{A:Around}{outer:List Env}{s:Shared}{H:Hp}{E:XK}(hr:cT 1 (A.deeper (envOfC "_law_row" (aF mT) s.heap.objs.size f cdv))) :
  eT (fY CX0 P w K mg base ["_law_found","_law_many"] "_law_row" (aF mT) f cdv A outer s H E).nox (aV mT) vI:=
 (aJ (iK (PUW.pt (rZ (sA (yO (iJ sC rfl bD fL (aA (aB 0 (pv 0)) (aA (wA rfl bA d8) aG))))) (rY (cL t7 (iC (aM 0 (pv 0)) rfl cQ) (aB 1 (pv 1)) (cS _))))) (aX (dF yL)) gG) (aX (dF (iJ (zA rfl) rfl lD zB (aA (dX (js:=[]) (N:=["_law_place",".acc"]) (cap:=[none,none]) (last:=1) (esc:=(aF mT).names) (XN:=["_law_found","_law_many"]) rfl rfl (by decide +kernel) (by decide) (by decide) rfl (jA (aB 0 (pv 0))) (λ_ _ _ _ _ _=>(bI 0 (aN (show Nodup (["_law_place",".acc"]:List Str)by decide +kernel) rfl (Or.inl rfl)))) (λ_ _ _ _ _ _=>cR) (λ_ _ _ _ _ _=>(cZ sP hr (by decide) rfl (aA (aB 0 (pv 0)) aG)))) aG)))))
theorem sN (bD:mg "isinstance"=none)(bA:mg "tuple"=none)(cQ:mg "len"=none)(lD:mg "all"=none)(a30:Fn P w K mg base "_law_row" ["_law_found","_law_many"] 2 pC){f:Addr}{cdv:Value}{A:Around}{outer:List Env}{s:Shared}{H:Hp}{E:XK}(hr:cT 2 (A.deeper (envOfC "_law_is_table" (aF d4) s.heap.objs.size f cdv))) :
  eT (fY CX0 P w K mg base ["_law_found","_law_many"] "_law_is_table" (aF d4) f cdv A outer s H E).nox (aV d4) kI:=
 (aJ (iK (PUW.pt (rZ (sA (yO (iJ sC rfl bD fL (aA (aB 0 (pv 0)) (aA (wA rfl bA d8) aG))))) (rY (cL t7 (iC (aM 0 (pv 0)) rfl cQ) (aB 1 (pv 1)) (cS _))))) (aX (dF yL)) gG) (aX (dF (iJ (zA rfl) rfl lD zB (aA (dX (js:=[1]) (N:=["_law_row_here","_law_many",".acc"]) (cap:=[none,some 1,none]) (last:=2) (esc:=(aF d4).names) (XN:=["_law_found","_law_many"]) rfl rfl (by decide +kernel) (by decide) (by decide) rfl (jA (aB 0 (pv 0))) (λ_ _ _ _ _ _=>(bI 0 (aN (show Nodup (["_law_row_here","_law_many",".acc"]:List Str)by decide +kernel) rfl (Or.inl rfl)))) (λ_ _ _ _ _ _=>cR) (λ_ _ _ _ _ _=>(cZ a30 hr (by decide) rfl (aA (aB 0 (pv 0)) (aA (aB 1 (pv 1)) aG))))) aG)))))
theorem a29 (aY:mg "range"=none){f:Addr}{cdv:Value}{A:Around}{outer:List Env}{s:Shared}{H:Hp}{E:XK}(hr:cT 0 (A.deeper (envOfC "_law_wide" (aF kN) s.heap.objs.size f cdv))) :
  eT (fY CX0 P w K mg base ["_law_raw","_law_at","_law_k","_law_most","_law_far","_law_step"] "_law_wide" (aF kN) f cdv A outer s H E).nox (aV kN) sL:=
 (aJ (aW 3 mU.nd rfl (Or.inl rfl) (aZ (iI (cB (aA (aH eG aE aE) (aA (aH eG aE aE) (aA (aH eG aE aE) (aA (aH eG aE aE) (aA (aH eG aE aE) (aA (aH eG aE aE) (aA (aH eG aE aE) (aA (aH eG aE aE) aG)))))))))) (aH cH (aB 2 (pv 2)) aE) (λ_ _=>rfl)) (hl:=il (n:=6) rfl (by decide))) (aJ (aW 4 mU.nd rfl (Or.inl rfl) aE (hl:=il (n:=6) rfl (by decide))) (aJ (dR PassesOwn.never rfl (cI rfl aY (aA aE aG)) (bI 5 (aN mU.nd rfl (Or.inl rfl))) (aX (aW 4 mU.nd rfl (Or.inl rfl) (aH cU (aH b8 (aB 4 (pv 4)) (aH b7 aE (aZ (aM 0 (pv 0)) (aH cU (aH b7 (aB 1 (pv 1)) (aH b8 aE (aB 5 (pv 5)))) aE) (λ_ _=>rfl)))) (aB 3 (pv 3))) (hl:=il (n:=6) rfl (by decide))))) (aX (o0 4 (pv 4))))))
theorem xX (aY:mg "range"=none)(bA:mg "tuple"=none)(eR:Fn P w K mg base "_law_draws" ["_law_cell_here","_law_widths","_law_prime"] 2 dH)(sQ:Fn P w K mg base "_law_wide" ["_law_raw","_law_at","_law_k"] 1 kR){f:Addr}{cdv:Value}{A:Around}{outer:List Env}{s:Shared}{H:Hp}{E:XK}(hr:cT 2 (A.deeper (envOfC "_law_drawn" (aF i9) s.heap.objs.size f cdv))) :
  eT (fY CX0 P w K mg base ["_law_cell_here","_law_k","_law_prime","_law_deep","_law_raw","_law_table","_law_at","_law_i","_law_onward","_law_row_here","_law_j"] "_law_drawn" (aF i9) f cdv A outer s H E).nox (aV i9) pI:=
 (aJ (aW 3 dD.nd rfl (Or.inl rfl) (cZ eR hr (by decide) rfl (aA (aB 0 (pv 0)) (aA (cB (aA aE aG)) (aA (aB 2 (pv 2)) aG)))) (hl:=il (n:=11) rfl (by decide))) (aJ (aW 4 dD.nd rfl (Or.inl rfl) (jW (iI (cZ eR hr (by decide) rfl (aA (aB 0 (pv 0)) (aA (aH b7 (cB (aA aE aG)) (aH b8 (cB (aA (aH eG aE aE) aG)) aE)) (aA (aB 2 (pv 2)) aG))))) (dG aE) eF) (hl:=il (n:=11) rfl (by decide))) (aJ (aW 5 dD.nd rfl (Or.inl rfl) (cB aG) (hl:=il (n:=11) rfl (by decide))) (aJ (aW 6 dD.nd rfl (Or.inl rfl) (aB 1 (pv 1)) (hl:=il (n:=11) rfl (by decide))) (aJ (dR PassesOwn.never rfl (cI rfl aY (aA (aB 1 (pv 1)) aG)) (bI 7 (aN dD.nd rfl (Or.inl rfl))) (aJ (aW 8 dD.nd rfl (Or.inl rfl) (aH b7 aE (aZ (aM 4 (pv 4)) (aB 7 (pv 7)) (λ_ _=>rfl))) (hl:=il (n:=11) rfl (by decide))) (aJ (iK (cL a91 (aZ (aM 3 (pv 3)) aE (λ_ _=>rfl)) aE (cS _)) (aX (aW 8 dD.nd rfl (Or.inl rfl) (aH b7 aE (aH cU (aZ (aM 4 (pv 4)) (aB 7 (pv 7)) (λ_ _=>rfl)) aE)) (hl:=il (n:=11) rfl (by decide)))) gG) (aJ (iK (cL qS (aZ (aM 3 (pv 3)) aE (λ_ _=>rfl)) aE (cS _)) (aX (aW 8 dD.nd rfl (Or.inl rfl) (aH b7 aE (cZ sQ hr (by decide) rfl (aA (aB 4 (pv 4)) (aA (aB 7 (pv 7)) (aA (aB 1 (pv 1)) aG))))) (hl:=il (n:=11) rfl (by decide)))) gG) (aJ (aW 9 dD.nd rfl (Or.inl rfl) (aH b7 (aH b7 (aH b8 (cB (aA aE aG)) (aB 7 (pv 7))) (cB (aA (aB 8 (pv 8)) aG))) (aH b8 (cB (aA aE aG)) (aH cH (aH cH (aB 1 (pv 1)) aE) (aB 7 (pv 7))))) (hl:=il (n:=11) rfl (by decide))) (aJ (dR PassesOwn.never rfl (cI rfl aY (aA (aB 7 (pv 7)) aG)) (bI 10 (aN dD.nd rfl (Or.inl rfl))) (aJ (gJ 9 (pv 9) (aH cU (aZ (aM 4 (pv 4)) (aB 6 (pv 6)) (λ_ _=>rfl)) (aZ (iI (aZ (aM 5 (pv 5)) (aB 10 (pv 10)) (λ_ _=>rfl))) (aB 10 (pv 10)) (λ_ _=>rfl))) (aB 10 (pv 10))) (aJ (iK (cL qS (aZ (aM 3 (pv 3)) aE (λ_ _=>rfl)) aE (cS _)) (aX (gJ 9 (pv 9) (aH cU (cZ sQ hr (by decide) rfl (aA (aB 4 (pv 4)) (aA (aB 6 (pv 6)) (aA (aB 1 (pv 1)) aG)))) (aZ (iI (aZ (aM 5 (pv 5)) (aB 10 (pv 10)) (λ_ _=>rfl))) (aB 10 (pv 10)) (λ_ _=>rfl))) (aB 10 (pv 10)))) gG) (aX (aW 6 dD.nd rfl (Or.inl rfl) (aH b7 (aB 6 (pv 6)) aE) (hl:=il (n:=11) rfl (by decide))))))) (aX (dL 5 (pv 5) (bV dW rfl bA d8 (aA (aB 9 (pv 9)) aG)))))))))) (aX (dF (bV dW rfl bA d8 (aA (aB 5 (pv 5)) aG)))))))))
theorem vN (cQ:mg "len"=none)(eQ:mg "list"=none)(aY:mg "range"=none)(eY:mg "zip"=none)(bA:mg "tuple"=none)(eR:Fn P w K mg base "_law_draws" ["_law_cell_here","_law_widths","_law_prime"] 2 dH){f:Addr}{cdv:Value}{A:Around}{outer:List Env}{s:Shared}{H:Hp}{E:XK}(hr:cT 2 (A.deeper (envOfC "_law_hidden" (aF dC) s.heap.objs.size f cdv))) :
  eT (fY CX0 P w K mg base ["_law_cell_here","_law_table","_law_m","_law_prime","_law_k","_law_raw","_law_rows","_law_s","_law_i","_law_j","_law_more","_law_first"] "_law_hidden" (aF dC) f cdv A outer s H E).nox (aV dC) nJ:=
 (aJ (aW 4 cJ.nd rfl (Or.inr rfl) (iC (aM 1 (pv 1)) rfl cQ) (hl:=il (n:=12) rfl (by decide))) (aJ (aW 5 cJ.nd rfl (Or.inr rfl) (cZ eR hr (by decide) rfl (aA (aB 0 (pv 0)) (aA (aH b7 (aH b7 (cB (aA aE (aA aE aG))) (aH b8 (cB (aA (aB 4 (pv 4)) (aA aE (aA aE aG)))) (aH b8 aE (aB 4 (pv 4))))) (aH b8 (cB (aA aE aG)) aE)) (aA (aB 3 (pv 3)) aG)))) (hl:=il (n:=12) rfl (by decide))) (zT (zW (N:=["_law_row_here",".acc"]) (esc:=(aF dC).names) (XN:=["_law_cell_here","_law_table","_law_m","_law_prime","_law_k","_law_raw","_law_rows","_law_s","_law_i","_law_j","_law_more","_law_first"]) rfl rfl (by decide +kernel) rfl (jA (aB 1 (pv 1))) (λ_ _ _ _ _ _=>(bI 0 (aN (show Nodup (["_law_row_here",".acc"]:List Str)by decide +kernel) rfl (Or.inl rfl)))) (λ_ _ _ _ _ _=>(bV o7 rfl eQ oB (aA (aB 0 (pv 0)) aG))) (aN cJ.nd rfl (Or.inl rfl))) (a67 (un_for 7 PassesOwn.never rfl (by rfl) aY (aA (aH b8 aE (aB 4 (pv 4))) aG) (aN cJ.nd rfl (Or.inr rfl)) (sF (zU 8 cJ.nd rfl (Or.inr rfl) (aH cU (aB 7 (pv 7)) (aB 4 (pv 4))) (hl:=il (n:=12) rfl (by decide))) (sF (zU 9 cJ.nd rfl (Or.inl rfl) (aZ (aM 5 (pv 5)) (aH b7 aE (aH b8 aE (aB 7 (pv 7)))) (λ_ _=>rfl)) (hl:=il (n:=12) rfl (by decide))) (sF (un_if (cL t7 (aB 9 (pv 9)) (aB 8 (pv 8)) (cS _)) (zS (un_row (pv 6) (dX (js:=[7]) (N:=["_law_a","_law_b","_law_raw","_law_s",".acc"]) (cap:=[none,none,some 5,some 7,none]) (last:=4) (esc:=(aF dC).names) (XN:=["_law_cell_here","_law_table","_law_m","_law_prime","_law_k","_law_raw","_law_rows","_law_s","_law_i","_law_j","_law_more","_law_first"]) rfl rfl (by decide +kernel) (by decide) (by decide) rfl (nE (by rfl) eY (aA (aZ (aM 6 (pv 6)) (aB 8 (pv 8)) (λ_ _=>rfl)) (aA (aZ (aM 6 (pv 6)) (aB 9 (pv 9)) (λ_ _=>rfl)) aG))) (λ_ _ _ _ _ _=>(j9 rfl (bO 0 (aN (show Nodup (["_law_a","_law_b","_law_raw","_law_s",".acc"]:List Str)by decide +kernel) rfl (Or.inl rfl)) (bO 1 (aN (show Nodup (["_law_a","_law_b","_law_raw","_law_s",".acc"]:List Str)by decide +kernel) rfl (Or.inl rfl)) fZ)) (bG (bG eI)))) (λ_ _ _ _ _ _=>cR) (λ_ _ _ _ _ _=>(aH b7 (aB 0 (pv 0)) (aH b8 (aH cH (aZ (aM 2 (pv 2)) (aH b7 aE (aH b8 aE (aB 3 (pv 3)))) (λ_ _=>rfl)) aE) (aB 1 (pv 1)))))) (aB 8 (pv 8)))) un_nil) (zS (a69 (pv 6) (aH b7 (aZ (iI (aZ (aM 6 (pv 6)) (aB 8 (pv 8)) (λ_ _=>rfl))) (aB 9 (pv 9)) (λ_ _=>rfl)) (aH b8 (aB 2 (pv 2)) (aH cH (aZ (aM 5 (pv 5)) (aH b7 aE (aH b8 aE (aB 7 (pv 7)))) (λ_ _=>rfl)) aE))) (aB 8 (pv 8)) (aB 9 (pv 9)) (λ_ _=>rfl))))))) (aJ (dR PassesOwn.never rfl (cI rfl aY (aA (aZ (aM 5 (pv 5)) aE (λ_ _=>rfl)) aG)) (bI 7 (aN cJ.nd rfl (Or.inr rfl))) (aJ (aW 10 cJ.nd rfl (Or.inl rfl) (aH b8 (cB (aA aE aG)) (aB 4 (pv 4))) (hl:=il (n:=12) rfl (by decide))) (aJ (dR PassesOwn.never rfl (cI rfl aY (aA (aB 4 (pv 4)) aG)) (bI 8 (aN cJ.nd rfl (Or.inr rfl))) (aX (fO (js:=[4,7,8]) (N:=["_law_a","_law_b","_law_raw","_law_k","_law_s","_law_i",".acc"]) (cap:=[none,none,some 5,some 4,some 7,some 8,none]) (last:=6) (esc:=(aF dC).names) (XN:=["_law_cell_here","_law_table","_law_m","_law_prime","_law_k","_law_raw","_law_rows","_law_s","_law_i","_law_j","_law_more","_law_first"]) 10 rfl rfl (by decide +kernel) (by decide) (by decide) rfl (nE (by rfl) eY (aA (aB 10 (pv 10)) (aA (aZ (aM 1 (pv 1)) (aB 8 (pv 8)) (λ_ _=>rfl)) aG))) (λ_ _ _ _ _ _=>(j9 rfl (bO 0 (aN (show Nodup (["_law_a","_law_b","_law_raw","_law_k","_law_s","_law_i",".acc"]:List Str)by decide +kernel) rfl (Or.inl rfl)) (bO 1 (aN (show Nodup (["_law_a","_law_b","_law_raw","_law_k","_law_s","_law_i",".acc"]:List Str)by decide +kernel) rfl (Or.inl rfl)) fZ)) (bG (bG eI)))) (λ_ _ _ _ _ _=>cR) (λ_ _ _ _ _ _=>(aH b7 (aB 0 (pv 0)) (aH b8 (aH cH (aZ (aM 2 (pv 2)) (aH b7 (aH b7 (aH b7 aE (aH b8 aE (aB 3 (pv 3)))) (aH b8 aE (aB 4 (pv 4)))) (aB 5 (pv 5))) (λ_ _=>rfl)) aE) (aB 1 (pv 1))))) (aN cJ.nd rfl (Or.inl rfl)) (il (n:=12) rfl (by decide))))) (aX (dL 6 (pv 6) (aB 10 (pv 10))))))) (aJ (iK (cL qS (aH cU (aZ (aM 5 (pv 5)) aE (λ_ _=>rfl)) aE) aE (cS _)) (aX (dL 6 (pv 6) (aH b8 (cB (aA aE aG)) (aB 4 (pv 4))))) gG) (aJ (iK (cL a92 (aZ (aM 5 (pv 5)) aE (λ_ _=>rfl)) aE (cS _)) (aX (dL 6 (pv 6) (bV o7 rfl eQ oB (aA (aZ (aM 6 (pv 6)) aE (λ_ _=>rfl)) aG)))) gG) (aJ (aW 11 cJ.nd rfl (Or.inl rfl) (aH cU (aH b7 (aZ (aM 5 (pv 5)) aE (λ_ _=>rfl)) (aH b8 aE (aZ (aM 5 (pv 5)) aE (λ_ _=>rfl)))) (iC (aM 6 (pv 6)) rfl cQ)) (hl:=il (n:=12) rfl (by decide))) (aX (dF (dX (js:=[]) (N:=["_law_row_here",".acc"]) (cap:=[none,none]) (last:=1) (esc:=(aF dC).names) (XN:=["_law_cell_here","_law_table","_law_m","_law_prime","_law_k","_law_raw","_law_rows","_law_s","_law_i","_law_j","_law_more","_law_first"]) rfl rfl (by decide +kernel) (by decide) (by decide) rfl (jA (aH b7 (jW (aM 6 (pv 6)) (dG (aB 11 (pv 11))) eF) (jW (aM 6 (pv 6)) eF (dG (aB 11 (pv 11)))))) (λ_ _ _ _ _ _=>(bI 0 (aN (show Nodup (["_law_row_here",".acc"]:List Str)by decide +kernel) rfl (Or.inl rfl)))) (λ_ _ _ _ _ _=>cR) (λ_ _ _ _ _ _=>(bV dW rfl bA d8 (aA (aB 0 (pv 0)) aG))))))))))))))
theorem a83 (aY:mg "range"=none)(bA:mg "tuple"=none)(eQ:mg "list"=none)(eR:Fn P w K mg base "_law_draws" ["_law_cell_here","_law_widths","_law_prime"] 2 dH)(nK:Fn P w K mg base "_law_cell" ["_law_script","_law_k"] 1 hX)(sR:Fn P w K mg base "_law_stair" ["_law_many","_law_m","_law_rows"] 1 kG)(sS:Fn P w K mg base "_law_drawn" ["_law_cell_here","_law_k","_law_prime"] 3 kJ)(pY:Fn P w K mg base "_law_hidden" ["_law_cell_here","_law_table","_law_m","_law_prime"] 3 j3)(kT:Fn P w K mg base "stair" ["k","m","rows"] 3 fF)(jN:Fn P w K mg base "_law_is_table" ["_law_found","_law_many"] 3 eB){f:Addr}{cdv:Value}{A:Around}{outer:List Env}{s:Shared}{H:Hp}{E:XK}(hr:cT 3 (A.deeper (envOfC "law" (aF jT) s.heap.objs.size f cdv))) :
  eT (fY CX0 P w K mg base ["_law_script","_law_deep","_law_k","_law_m","_law_raw","_law_rows","_law_i","_law_due","_law_kept","_law_found","_law_again"] "law" (aF jT) f cdv A outer s H E).nox (aV jT) sM:=
 (aJ (aW 1 dS.nd rfl (Or.inl rfl) (cZ eR hr (by decide) rfl (aA (cZ nK hr (by decide) rfl (aA (aB 0 (pv 0)) (aA aE aG))) (aA (cB (aA aE (aA aE (aA aE (aA aE (aA (aH eG aE aE) aG)))))) (aA aE aG)))) (hl:=il (n:=11) rfl (by decide))) (aJ (aW 2 dS.nd rfl (Or.inl rfl) (aH b7 aE (aZ (aM 1 (pv 1)) aE (λ_ _=>rfl))) (hl:=il (n:=11) rfl (by decide))) (aJ (iK (wI (cL qS (aZ (aM 1 (pv 1)) aE (λ_ _=>rfl)) aE (cS _))) (aJ (aW 3 dS.nd rfl (Or.inr rfl) (aH b7 aE (aH cU (aZ (aM 1 (pv 1)) aE (λ_ _=>rfl)) (aZ (iI (cB (aA aE (aA (aH eG aE aE) aG)))) (aZ (aM 1 (pv 1)) aE (λ_ _=>rfl)) (λ_ _=>rfl)))) (hl:=il (n:=11) rfl (by decide))) (aJ (aW 4 dS.nd rfl (Or.inl rfl) (cZ eR hr (by decide) rfl (aA (cZ nK hr (by decide) rfl (aA (aB 0 (pv 0)) (aA aE aG))) (aA (aH b7 (cB (aA aE aG)) (aH b8 (cB (aA (aH eG aE aE) aG)) aE)) (aA aE aG)))) (hl:=il (n:=11) rfl (by decide))) (aJ (aW 5 dS.nd rfl (Or.inl rfl) (cB aG) (hl:=il (n:=11) rfl (by decide))) (aJ (dR PassesOwn.never rfl (cI rfl aY (aA (aZ (aM 4 (pv 4)) aE (λ_ _=>rfl)) aG)) (bI 6 (aN dS.nd rfl (Or.inl rfl))) (aX (dL 5 (pv 5) (bV dW rfl bA d8 (aA (dX (js:=[3]) (N:=["_law_place","_law_m",".acc"]) (cap:=[none,some 3,none]) (last:=2) (esc:=(aF jT).names) (XN:=["_law_script","_law_deep","_law_k","_law_m","_law_raw","_law_rows","_law_i","_law_due","_law_kept","_law_found","_law_again"]) rfl rfl (by decide +kernel) (by decide) (by decide) rfl (jA (jW (aM 4 (pv 4)) (dG (aH b7 aE (aH b8 (aB 2 (pv 2)) (aB 6 (pv 6))))) (dG (aH b7 (aH b7 aE (aH b8 (aB 2 (pv 2)) (aB 6 (pv 6)))) (aB 2 (pv 2)))))) (λ_ _ _ _ _ _=>(bI 0 (aN (show Nodup (["_law_place","_law_m",".acc"]:List Str)by decide +kernel) rfl (Or.inl rfl)))) (λ_ _ _ _ _ _=>cR) (λ_ _ _ _ _ _=>(aH cH (aH cU (aB 0 (pv 0)) (aH b7 (aH b8 aE (aB 1 (pv 1))) aE)) (aB 1 (pv 1))))) aG))))) (aX (aW 7 dS.nd rfl (Or.inl rfl) (kD (cZ sR hr (by decide) rfl (aA (aB 2 (pv 2)) (aA (aB 3 (pv 3)) (aA (aB 5 (pv 5)) aG))))) (hl:=il (n:=11) rfl (by decide)))))))) (aJ (aW 7 dS.nd rfl (Or.inl rfl) (cZ sS hr (by decide) rfl (aA (cZ nK hr (by decide) rfl (aA (aB 0 (pv 0)) (aA aE aG))) (aA (aB 2 (pv 2)) (aA aE aG)))) (hl:=il (n:=11) rfl (by decide))) (aJ (aW 3 dS.nd rfl (Or.inr rfl) (aH b7 aE (aZ (aM 1 (pv 1)) aE (λ_ _=>rfl))) (hl:=il (n:=11) rfl (by decide))) (aJ (dR PassesOwn.never rfl (cI rfl aY (aA (aB 2 (pv 2)) aG)) (bI 6 (aN dS.nd rfl (Or.inl rfl))) (aX (aW 3 dS.nd rfl (Or.inr rfl) (aH b8 (aB 3 (pv 3)) (aZ (iI (aZ (aM 7 (pv 7)) (aB 6 (pv 6)) (λ_ _=>rfl))) (aB 6 (pv 6)) (λ_ _=>rfl))) (hl:=il (n:=11) rfl (by decide))))) (aX (aW 5 dS.nd rfl (Or.inl rfl) (cZ pY hr (by decide) rfl (aA (cZ nK hr (by decide) rfl (aA (aB 0 (pv 0)) (aA aE aG))) (aA (aB 7 (pv 7)) (aA (aB 3 (pv 3)) (aA aE aG))))) (hl:=il (n:=11) rfl (by decide)))))))) (aJ (aW 8 dS.nd rfl (Or.inl rfl) (kD (bV o7 rfl eQ oB (aA (aB 5 (pv 5)) aG))) (hl:=il (n:=11) rfl (by decide))) (aJ (aW 9 dS.nd rfl (Or.inl rfl) (kD (cZ kT hr (by decide) rfl (aA (aB 2 (pv 2)) (aA (aB 3 (pv 3)) (aA (aB 5 (pv 5)) aG))))) (hl:=il (n:=11) rfl (by decide))) (aJ (iK (wI (PUW.pt (rZ (sA (yO (cZ jN hr (by decide) rfl (aA (aB 9 (pv 9)) (aA (aB 2 (pv 2)) aG))))) (rZ (cL (zI hr.units) (aB 9 (pv 9)) (aB 7 (pv 7)) (cS _)) (rY (cL (zI hr.units) (aB 5 (pv 5)) (aB 8 (pv 8)) (cS _))))))) (aX (dF yL)) gG) (aJ (vB 5 (pv 5)) (aJ (dL 5 (pv 5) (bV dW rfl bA d8 (aA (aH b7 (cB (aA (aB 3 (pv 3)) aG)) (aH b8 (cB (aA aE aG)) (aH cH (aB 2 (pv 2)) aE))) aG))) (aJ (aW 10 dS.nd rfl (Or.inl rfl) (kD (cZ kT hr (by decide) rfl (aA (aB 2 (pv 2)) (aA (aB 3 (pv 3)) (aA (aB 5 (pv 5)) aG))))) (hl:=il (n:=11) rfl (by decide))) (aX (dF (uS (cZ jN hr (by decide) rfl (aA (aB 10 (pv 10)) (aA (aB 2 (pv 2)) aG))) (uS (uR (zH hr.units) (aB 10 (pv 10)) (aB 7 (pv 7)) (cS _)) (yR (uR (zH hr.units) (aB 9 (pv 9)) (aB 7 (pv 7)) (cS _))))))))))))))))
end
theorem all_mk {l:PySem.W.OpenLaw}{w:World}{K:Frag}{h:Heap}{mg:Str->Option Value}{fa f1 f2 f3 f4 f5 f6 f7 f8 f9 f10 f11 f12 f13 f14 f15 f16:Addr}(X:K.In h)(G:h.Ns mainGlobals mg)(hfa:mg "law"=some (.ref fa))
  {od1 an1 od2 an2 od3 an3 od4 an4 od5 an5 od6 an6 od7 an7 od8 an8 od9 an9 od10 an10 od11 an11 od12 an12 od13 an13 od14 an14 od15 an15 od16 an16:Option Addr} {sl1 sl2 sl3 sl4 sl5 sl6 sl7 sl8 sl9 sl10 sl11 sl12 sl13 sl14 sl15 sl16:Array (Option Value)} {oc1 kV1 dc1 pm1 cd1 ct1 oc2 kV2 dc2 pm2 cd2 ct2 oc3 kV3 dc3 pm3 cd3 ct3 oc4 kV4 dc4 pm4 cd4 ct4 oc5 kV5 dc5 pm5 cd5 ct5 oc6 kV6 dc6 pm6 cd6 ct6 oc7 kV7 dc7 pm7 cd7 ct7 oc8 kV8 dc8 pm8 cd8 ct8 oc9 kV9 dc9 pm9 cd9 ct9 oc10 kV10 dc10 pm10 cd10 ct10 oc11 kV11 dc11 pm11 cd11 ct11 oc12 kV12 dc12 pm12 cd12 ct12 oc13 kV13 dc13 pm13 cd13 ct13 oc14 kV14 dc14 pm14 cd14 ct14 oc15 kV15 dc15 pm15 cd15 ct15 oc16 kV16 dc16 pm16 cd16 ct16:Value}
  (a1:nsIn K mainGlobals "shared_by"=some (some (.ref f1))) (l1:K.lookup f1=some ⟨oc1,od1,.func (fnOf "shared_by" "shared_by" (bY cC) (aV cC) (aF cC) .none kV1 dc1 pm1 an1 cd1 ct1),sl1⟩) (c1:codeIn K cd1 "shared_by"=true) (k1:keepIn K (.ref f1)=true)
  (a2:nsIn K mainGlobals "stair"=some (some (.ref f2))) (l2:K.lookup f2=some ⟨oc2,od2,.func (fnOf "stair" "stair" (bY dM) (aV dM) (aF dM) .none kV2 dc2 pm2 an2 cd2 ct2),sl2⟩) (c2:codeIn K cd2 "stair"=true) (k2:keepIn K (.ref f2)=true)
  (a3:nsIn K mainGlobals "taken_in"=some (some (.ref f3))) (l3:K.lookup f3=some ⟨oc3,od3,.func (fnOf "taken_in" "taken_in" (bY cN) (aV cN) (aF cN) .none kV3 dc3 pm3 an3 cd3 ct3),sl3⟩) (c3:codeIn K cd3 "taken_in"=true) (k3:keepIn K (.ref f3)=true)
  (a4:nsIn K mainGlobals "mixed"=some (some (.ref f4))) (l4:K.lookup f4=some ⟨oc4,od4,.func (fnOf "mixed" "mixed" (bY dN) (aV dN) (aF dN) .none kV4 dc4 pm4 an4 cd4 ct4),sl4⟩) (c4:codeIn K cd4 "mixed"=true) (k4:keepIn K (.ref f4)=true)
  (a5:nsIn K mainGlobals "rest"=some (some (.ref f5))) (l5:K.lookup f5=some ⟨oc5,od5,.func (fnOf "rest" "rest" (bY eO) (aV eO) (aF eO) .none kV5 dc5 pm5 an5 cd5 ct5),sl5⟩) (c5:codeIn K cd5 "rest"=true) (k5:keepIn K (.ref f5)=true)
  (a6:nsIn K mainGlobals "_law_cell"=some (some (.ref f6))) (l6:K.lookup f6=some ⟨oc6,od6,.func (fnOf "_law_cell" "_law_cell" (bY kM) (aV kM) (aF kM) .none kV6 dc6 pm6 an6 cd6 ct6),sl6⟩) (c6:codeIn K cd6 "_law_cell"=true) (k6:keepIn K (.ref f6)=true)
  (a7:nsIn K mainGlobals "_law_mixed"=some (some (.ref f7))) (l7:K.lookup f7=some ⟨oc7,od7,.func (fnOf "_law_mixed" "_law_mixed" (bY i6) (aV i6) (aF i6) .none kV7 dc7 pm7 an7 cd7 ct7),sl7⟩) (c7:codeIn K cd7 "_law_mixed"=true) (k7:keepIn K (.ref f7)=true)
  (a8:nsIn K mainGlobals "_law_draws"=some (some (.ref f8))) (l8:K.lookup f8=some ⟨oc8,od8,.func (fnOf "_law_draws" "_law_draws" (bY i7) (aV i7) (aF i7) .none kV8 dc8 pm8 an8 cd8 ct8),sl8⟩) (c8:codeIn K cd8 "_law_draws"=true) (k8:keepIn K (.ref f8)=true)
  (a9:nsIn K mainGlobals "_law_stair"=some (some (.ref f9))) (l9:K.lookup f9=some ⟨oc9,od9,.func (fnOf "_law_stair" "_law_stair" (bY dO) (aV dO) (aF dO) .none kV9 dc9 pm9 an9 cd9 ct9),sl9⟩) (c9:codeIn K cd9 "_law_stair"=true) (k9:keepIn K (.ref f9)=true)
  (a10:nsIn K mainGlobals "_law_whole"=some (some (.ref f10))) (l10:K.lookup f10=some ⟨oc10,od10,.func (fnOf "_law_whole" "_law_whole" (bY i8) (aV i8) (aF i8) .none kV10 dc10 pm10 an10 cd10 ct10),sl10⟩) (c10:codeIn K cd10 "_law_whole"=true) (k10:keepIn K (.ref f10)=true)
  (a11:nsIn K mainGlobals "_law_row"=some (some (.ref f11))) (l11:K.lookup f11=some ⟨oc11,od11,.func (fnOf "_law_row" "_law_row" (bY mT) (aV mT) (aF mT) .none kV11 dc11 pm11 an11 cd11 ct11),sl11⟩) (c11:codeIn K cd11 "_law_row"=true) (k11:keepIn K (.ref f11)=true)
  (a12:nsIn K mainGlobals "_law_is_table"=some (some (.ref f12))) (l12:K.lookup f12=some ⟨oc12,od12,.func (fnOf "_law_is_table" "_law_is_table" (bY d4) (aV d4) (aF d4) .none kV12 dc12 pm12 an12 cd12 ct12),sl12⟩) (c12:codeIn K cd12 "_law_is_table"=true) (k12:keepIn K (.ref f12)=true)
  (a13:nsIn K mainGlobals "_law_wide"=some (some (.ref f13))) (l13:K.lookup f13=some ⟨oc13,od13,.func (fnOf "_law_wide" "_law_wide" (bY kN) (aV kN) (aF kN) .none kV13 dc13 pm13 an13 cd13 ct13),sl13⟩) (c13:codeIn K cd13 "_law_wide"=true) (k13:keepIn K (.ref f13)=true)
  (a14:nsIn K mainGlobals "_law_drawn"=some (some (.ref f14))) (l14:K.lookup f14=some ⟨oc14,od14,.func (fnOf "_law_drawn" "_law_drawn" (bY i9) (aV i9) (aF i9) .none kV14 dc14 pm14 an14 cd14 ct14),sl14⟩) (c14:codeIn K cd14 "_law_drawn"=true) (k14:keepIn K (.ref f14)=true)
  (a15:nsIn K mainGlobals "_law_hidden"=some (some (.ref f15))) (l15:K.lookup f15=some ⟨oc15,od15,.func (fnOf "_law_hidden" "_law_hidden" (bY dC) (aV dC) (aF dC) .none kV15 dc15 pm15 an15 cd15 ct15),sl15⟩) (c15:codeIn K cd15 "_law_hidden"=true) (k15:keepIn K (.ref f15)=true)
  (a16:nsIn K mainGlobals "law"=some (some (.ref f16))) (l16:K.lookup f16=some ⟨oc16,od16,.func (fnOf "law" "law" (bY jT) (aV jT) (aF jT) .none kV16 dc16 pm16 an16 cd16 ct16),sl16⟩) (c16:codeIn K cd16 "law"=true) (k16:keepIn K (.ref f16)=true)
  (aY:nsIn K mainGlobals "range"=some none)
  (dJ:nsIn K mainGlobals "enumerate"=some none)
  (bA:nsIn K mainGlobals "tuple"=some none)
  (eQ:nsIn K mainGlobals "list"=some none)
  (cO:nsIn K mainGlobals "reversed"=some none)
  (cQ:nsIn K mainGlobals "len"=some none)
  (eY:nsIn K mainGlobals "zip"=some none)
  (lC:nsIn K mainGlobals "int"=some none)
  (bD:nsIn K mainGlobals "isinstance"=some none)
  (lW:nsIn K mainGlobals "bool"=some none)
  (lD:nsIn K mainGlobals "all"=some none) :
  ∃fd:FuncData,(∀(s:Shared) (v:Value),BindsTo s fd ⟨[v],[]⟩ [("_law_script",v)])/\ ∀base:Heap,K.In base->base.Ns mainGlobals mg->jU l.prog w K mg base CX0 4 fa fd ["_law_script"] (spP K qT):=by
 have e:=hfa.symm.trans (mg_of X G a16);cases e;have aY:=mg_none_of X G aY;have dJ:=mg_none_of X G dJ;have bA:=mg_none_of X G bA;have eQ:=mg_none_of X G eQ;have cO:=mg_none_of X G cO;have cQ:=mg_none_of X G cQ;have eY:=mg_none_of X G eY;have lC:=mg_none_of X G lC;have bD:=mg_none_of X G bD;have lW:=mg_none_of X G lW;have lD:=mg_none_of X G lD;have U1:=dQ (st:=cC) l1 c1 k1
 have U2:=dQ (st:=dM) l2 c2 k2;have U3:=dQ (st:=cN) l3 c3 k3;have U4:=dQ (st:=dN) l4 c4 k4;have U5:=dQ (st:=eO) l5 c5 k5;have U6:=dQ (st:=kM) l6 c6 k6;have U7:=dQ (st:=i6) l7 c7 k7;have U8:=dQ (st:=i7) l8 c8 k8;have U9:=dQ (st:=dO) l9 c9 k9;have U10:=dQ (st:=i8) l10 c10 k10;have U11:=dQ (st:=mT) l11 c11 k11;have U12:=dQ (st:=d4) l12 c12 k12;have U13:=dQ (st:=kN) l13 c13 k13
 have U14:=dQ (st:=i9) l14 c14 k14;have U15:=dQ (st:=dC) l15 c15 k15;have U16:=dQ (st:=jT) l16 c16 k16;refine⟨fnOf "law" "law" (bY jT) (aV jT) (aF jT) .none kV16 dc16 pm16 an16 cd16 ct16,λs v=> .of_eq rfl,λbase _ _=> ?_⟩
 have iG:Fn l.prog w K mg base "shared_by" ["a","b"] 1 dI:=Fn.mk' U1 (mg_of X G a1) (U1.binds (ps:=["a","b"]) λ_ _ _ _ _ _ us hl=>match us,hl with| [_,_],_=>rfl) cE nW (λcdv A outer s H E hr=>nX hr) p3
 have kS:Fn l.prog w K mg base "mixed" ["s","one","t","other","m","size"] 1 fE:=Fn.mk' U4 (mg_of X G a4) (U4.binds (ps:=["s","one","t","other","m","size"]) λ_ _ _ _ _ _ us hl=>match us,hl with| [_,_,_,_,_,_],_=>rfl) vL tR (λcdv A outer s H E hr=>uB bA eY hr) vC
 have jM:Fn l.prog w K mg base "taken_in" ["triangle","m","row"] 2 dY:=Fn.mk' U3 (mg_of X G a3) (U3.binds (ps:=["triangle","m","row"]) λ_ _ _ _ _ _ us hl=>match us,hl with| [_,_,_],_=>rfl) bZ p5 (λcdv A outer s H E hr=>pW eQ cO aY cQ iG kS hr) qF
 have pX:Fn l.prog w K mg base "rest" ["table","row"] 1 iY:=Fn.mk' U5 (mg_of X G a5) (U5.binds (ps:=["table","row"]) λ_ _ _ _ _ _ us hl=>match us,hl with| [_,_],_=>rfl) j5 vD (λcdv A outer s H E hr=>vM cO aY cQ bA eY hr) xM
 have kT:Fn l.prog w K mg base "stair" ["k","m","rows"] 3 fF:=Fn.mk' U2 (mg_of X G a2) (U2.binds (ps:=["k","m","rows"]) λ_ _ _ _ _ _ us hl=>match us,hl with| [_,_,_],_=>rfl) e8 tT (λcdv A outer s H E hr=>uA aY dJ bA jM pX hr) vF
 have nK:Fn l.prog w K mg base "_law_cell" ["_law_script","_law_k"] 1 hX:=Fn.mk' U6 (mg_of X G a6) (U6.binds (ps:=["_law_script","_law_k"]) λ_ _ _ _ _ _ us hl=>match us,hl with| [_,_],_=>rfl) a81 a03 (λcdv A outer s H E hr=>a28 cQ hr) a70
 have sO:Fn l.prog w K mg base "_law_mixed" ["_law_cell_here","_law_k","_law_prime"] 1 iR:=Fn.mk' U7 (mg_of X G a7) (U7.binds (ps:=["_law_cell_here","_law_k","_law_prime"]) λ_ _ _ _ _ _ us hl=>match us,hl with| [_,_,_],_=>rfl) pV xJ (λcdv A outer s H E hr=>xT hr) zY
 have eR:Fn l.prog w K mg base "_law_draws" ["_law_cell_here","_law_widths","_law_prime"] 2 dH:=Fn.mk' U8 (mg_of X G a8) (U8.binds (ps:=["_law_cell_here","_law_widths","_law_prime"]) λ_ _ _ _ _ _ us hl=>match us,hl with| [_,_,_],_=>rfl) j6 xK (λcdv A outer s H E hr=>xU aY cQ sO hr) zZ
 have sR:Fn l.prog w K mg base "_law_stair" ["_law_many","_law_m","_law_rows"] 1 kG:=Fn.mk' U9 (mg_of X G a9) (U9.binds (ps:=["_law_many","_law_m","_law_rows"]) λ_ _ _ _ _ _ us hl=>match us,hl with| [_,_,_],_=>rfl) cX xO (λcdv A outer s H E hr=>xV aY lC eY bA hr) a17
 have sP:Fn l.prog w K mg base "_law_whole" ["_law_found"] 1 kE:=Fn.mk' U10 (mg_of X G a10) (U10.binds (ps:=["_law_found"]) λ_ _ _ _ _ _ us hl=>match us,hl with| [_],_=>rfl) a27 xL (λcdv A outer s H E hr=>xW bD lC lW hr) a01
 have a30:Fn l.prog w K mg base "_law_row" ["_law_found","_law_many"] 2 pC:=Fn.mk' U11 (mg_of X G a11) (U11.binds (ps:=["_law_found","_law_many"]) λ_ _ _ _ _ _ us hl=>match us,hl with| [_,_],_=>rfl) sc_row a78 (λcdv A outer s H E hr=>a82 bD bA cQ lD sP hr) rd_row
 have jN:Fn l.prog w K mg base "_law_is_table" ["_law_found","_law_many"] 3 eB:=Fn.mk' U12 (mg_of X G a12) (U12.binds (ps:=["_law_found","_law_many"]) λ_ _ _ _ _ _ us hl=>match us,hl with| [_,_],_=>rfl) u9 sK (λcdv A outer s H E hr=>sN bD bA cQ lD a30 hr) tW
 have sQ:Fn l.prog w K mg base "_law_wide" ["_law_raw","_law_at","_law_k"] 1 kR:=Fn.mk' U13 (mg_of X G a13) (U13.binds (ps:=["_law_raw","_law_at","_law_k"]) λ_ _ _ _ _ _ us hl=>match us,hl with| [_,_,_],_=>rfl) mU a19 (λcdv A outer s H E hr=>a29 aY hr) a79
 have sS:Fn l.prog w K mg base "_law_drawn" ["_law_cell_here","_law_k","_law_prime"] 3 kJ:=Fn.mk' U14 (mg_of X G a14) (U14.binds (ps:=["_law_cell_here","_law_k","_law_prime"]) λ_ _ _ _ _ _ us hl=>match us,hl with| [_,_,_],_=>rfl) dD xP (λcdv A outer s H E hr=>xX aY bA eR sQ hr) a22
 have pY:Fn l.prog w K mg base "_law_hidden" ["_law_cell_here","_law_table","_law_m","_law_prime"] 3 j3:=Fn.mk' U15 (mg_of X G a15) (U15.binds (ps:=["_law_cell_here","_law_table","_law_m","_law_prime"]) λ_ _ _ _ _ _ us hl=>match us,hl with| [_,_,_,_],_=>rfl) cJ vJ (λcdv A outer s H E hr=>vN cQ eQ aY eY bA eR hr) xR
 exact wB U16 dS a72 (λcdv A outer s H E hr=>⟨sM,a83 aY bA eQ eR nK sR sS pY kT jN hr,rd_law⟩)
end M
open PySem PySem.W PyProof.Rows
namespace PySem.W.Fast
def tw13129405125153675882:=()
def tw4172416024359282205:=()
def tw2411688939547782895:=()
def tw1253166546256292691:=()
def tw5913859886213899372:=()
def tw16555236688705677029:=()
def tw17850203855838848725:=()
def tw9654425923595742087:=()
def tw17907938578895739397:=()
def tw2052030387676461349:=()
def tw13660092428249341110:=()
def tw13931297813009999282:=()
def tw3570015610514047481:=()
def tw12507644458730898209:=()
def tw7326347385508225352:=()
def tw14026551978701356376:=()
def tw18309324170005873759:=()
def tw96645422277519180:=()
def tw341088250660008243:=()
def tw9762104704354205086:=()
def tw3007582573563980681:=()
def tw11364274808236273897:=()
def tw16401810582365223225:=()
def tw18331783717338932420:=()
def tw5444322289457628247:=()
def tw7873424115680263566:=()
def tw14127329395142315869:=()
def tw2071252099352821022:=()
def tw13765029347608647479:=()
def tw782596413470069463:=()
def tw17880670964360494876:=()
def tw6601223147381640914:=()
def tw10271780957211469478:=()
end PySem.W.Fast
set_option maxRecDepth 100000 in
set_option maxHeartbeats 0 in
theorem PySem.Challenge.cw_ringhouse_k26_stair_hidden_holds : PySem.Challenge.rw_ringhouse_k26_stair_hidden.Holds := by
 w_on;o_law;k_head;(case hw=>w_witness2)
 k_fill
 refine M.walkM (l:=PySem.Challenge.rw_ringhouse_k26_stair_hidden) (k:=4) (x:="_law_script") rfl rfl ⟨rfl,by decide,by decide⟩ (λw h Y=>PySem.W.kIn_of Y) ?F
 case F=>
  intro w mg fa h KX G hmg;refine' M.all_mk KX G hmg ?a1 ?l1 ?c1 ?k1 ?a2 ?l2 ?c2 ?k2 ?a3 ?l3 ?c3 ?k3 ?a4 ?l4 ?c4 ?k4 ?a5 ?l5 ?c5 ?k5 ?a6 ?l6 ?c6 ?k6 ?a7 ?l7 ?c7 ?k7 ?a8 ?l8 ?c8 ?k8 ?a9 ?l9 ?c9 ?k9 ?a10 ?l10 ?c10 ?k10 ?a11 ?l11 ?c11 ?k11 ?a12 ?l12 ?c12 ?k12 ?a13 ?l13 ?c13 ?k13 ?a14 ?l14 ?c14 ?k14 ?a15 ?l15 ?c15 ?k15 ?a16 ?l16 ?c16 ?k16 ?aY ?dJ ?bA ?eQ ?cO ?cQ ?eY ?lC ?bD ?lW ?lD
  (case a1=>k_is);(case l1=>k_is);(case c1=>k_is);(case k1=>k_is);(case a2=>k_is);(case l2=>k_is);(case c2=>k_is);(case k2=>k_is);(case a3=>k_is);(case l3=>k_is);(case c3=>k_is);(case k3=>k_is);(case a4=>k_is);(case l4=>k_is);(case c4=>k_is);(case k4=>k_is);(case a5=>k_is);(case l5=>k_is);(case c5=>k_is);(case k5=>k_is);(case a6=>k_is);(case l6=>k_is);(case c6=>k_is);(case k6=>k_is);(case a7=>k_is);(case l7=>k_is);(case c7=>k_is);(case k7=>k_is);(case a8=>k_is);(case l8=>k_is);(case c8=>k_is);(case k8=>k_is);(case a9=>k_is);(case l9=>k_is);(case c9=>k_is);(case k9=>k_is);(case a10=>k_is);(case l10=>k_is);(case c10=>k_is);(case k10=>k_is);(case a11=>k_is);(case l11=>k_is);(case c11=>k_is);(case k11=>k_is);(case a12=>k_is);(case l12=>k_is);(case c12=>k_is);(case k12=>k_is);(case a13=>k_is);(case l13=>k_is);(case c13=>k_is);(case k13=>k_is);(case a14=>k_is);(case l14=>k_is);(case c14=>k_is);(case k14=>k_is);(case a15=>k_is);(case l15=>k_is);(case c15=>k_is);(case k15=>k_is);(case a16=>k_is);(case l16=>k_is);(case c16=>k_is);(case k16=>k_is);(case aY=>k_is);(case dJ=>k_is);(case bA=>k_is);(case eQ=>k_is);(case cO=>k_is);(case cQ=>k_is);(case eY=>k_is);(case lC=>k_is);(case bD=>k_is);(case lW=>k_is);(case lD=>k_is)
