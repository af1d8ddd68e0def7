import PyProof.Rows.All
import Wide.All
import OpenK.AllK
import Wide.FinOn
import Lean
import PyProof.EqAt
import PyProof.EqKinds
import PyProof.TupleCall
import PySem.Challenge.RW_ringhouse_k86_written
set_option Elab.async false
set_option linter.all false
open PySem.W (methodObj Frag keepIn cellsFrom_some fnOf codeIn nsIn mg_of mg_none_of)
open List (range mem_cons_self mem_cons_of_mem mem_append_right append_nil of_mem_zip replicate length length_take getElem?_append_right getElem?_append_left getElem?_map length_append length_map size_toArray length_drop reverse_cons replicate_succ flatten_cons foldl append_assoc map_nil map_cons length_cons getElem?_set length_set getD_eq_getElem?_getD getElem?_eq_getElem lookup_cons mem_cons not_mem_nil getElem_mem map_append take_of_length_le getElem?_drop drop_drop mem_append map_map map_take map_drop Nodup)
open Nat (lt_of_lt_of_le lt_irrefl ne_of_lt le_trans le_of_lt le_refl mul_comm zero_le toDigits mod_lt zero_lt_succ mul_le_mul mul_succ)
open Int (toNat_natCast emod_nonneg emod_lt_of_pos toNat_of_nonneg)
open Bool (and_eq_true false_xor beq_eq_decide_eq true_xor false_eq_true)
open PySem.Heap (lt_size SameBut get?_push_of_some get?_push_size size_push)
open Option (getD_none bind_some map_some)
open Array (length_toList toList toList_append)
set_option maxRecDepth 100000
namespace L2
open PySem PySem.Spec PyProof.Rows
abbrev Key:=Sum Int Str
def zD:Key->Value->Bool
 | .inl k,v=>Value.isInt k v
 | .inr x,v=>Value.isStrOf x v
def keyH (w:World):Key->Int
 | .inl k=>hashInt k
 | .inr x=>hashStr w x
theorem cW: ∀{k:Key} {v:Value},zD k v=true->(∃i t,k=Sum.inl i/\v=Value.int i t)\/(∃x t,k=Sum.inr x/\v=Value.str x t)
 | .inl i,v,h=>by
  obtain⟨t,e⟩:=Value.isInt_shape (k:=i) (v:=v) h;exact .inl ⟨i,t,rfl,e⟩
 | .inr x,v,h=>by
  obtain⟨t,e⟩:=Value.isStrOf_shape (x:=x) (v:=v) h;exact .inr ⟨x,t,rfl,e⟩
theorem key_ll (a b:Int):decide ((Sum.inl a:Key)=Sum.inl b)=(a==b):=by
 by_cases e:a=b
 ·subst e;simp
 ·have h: ¬(Sum.inl a:Key)=Sum.inl b:=λq=>e (Sum.inl.inj q)
  rw[decide_eq_false h];exact(beq_eq_false_iff_ne.mpr e).symm
theorem key_rr (a b:Str):decide ((Sum.inr a:Key)=Sum.inr b)=decide (a=b):=by
 by_cases e:a=b
 ·subst e;simp
 ·have h: ¬(Sum.inr a:Key)=Sum.inr b:=λq=>e (Sum.inr.inj q)
  rw[decide_eq_false h,decide_eq_false e]
theorem key_lr (a:Int)(b:Str):decide ((Sum.inl a:Key)=Sum.inr b)=false:=decide_eq_false (λq=>nomatch q)
theorem key_rl (a:Str)(b:Int):decide ((Sum.inr a:Key)=Sum.inl b)=false:=decide_eq_false (λq=>nomatch q)
def tR (prog:Program)(w:World):PySem.KeyKind prog w Key where
 is:=zD
 hash:=keyH w
 inj:=λv a b ha hb=>by
  rcases cW ha with⟨i,t,rfl,rfl⟩| ⟨x,t,rfl,rfl⟩
  ·rcases cW hb with⟨j,u,rfl,e⟩| ⟨y,u,rfl,e⟩
   ·injection e with e1 _;rw[e1]
   ·exact nomatch e
  ·rcases cW hb with⟨j,u,rfl,e⟩| ⟨y,u,rfl,e⟩
   ·exact nomatch e
   ·injection e with e1 _;rw[e1]
 byValue:=λk v h=>by
  rcases cW h with⟨i,t,rfl,rfl⟩| ⟨x,t,rfl,rfl⟩<;>rfl
 pyHash:=λhv h=>by
  rcases cW hv with⟨i,t,rfl,rfl⟩| ⟨x,t,rfl,rfl⟩
  ·exact wpAny_pyHash_int h
  ·exact wpAny_pyHash_str h
 eqBool:=λhu hv h=>by
  rcases cW hu with⟨i,t,rfl,rfl⟩| ⟨x,t,rfl,rfl⟩
  ·rcases cW hv with⟨j,u,rfl,rfl⟩| ⟨y,u,rfl,rfl⟩
   ·rw[key_ll]at h;exact wpAny_eqBool_int h
   ·rw[key_lr]at h;exact SeqAt.EqAt.int_str i t y u _ _ _ _ h
  ·rcases cW hv with⟨j,u,rfl,rfl⟩| ⟨y,u,rfl,rfl⟩
   ·rw[key_rl]at h;exact SeqAt.EqAt.str_int x t j u _ _ _ _ h
   ·rw[key_rr]at h;exact wpAny_eqBool_str h
 «strs» :=λk x t v h=>by
  rcases cW h with⟨i,u,rfl,e⟩| ⟨y,u,rfl,e⟩
  ·exact nomatch e
  ·injection e with e1 _
   subst e1;cases v<;>rfl
end L2
namespace L2
open PySem PySem.Spec PyProof.Rows
inductive V where
 | non|bl (b:Bool)|int (i:Int)|str (x:Str)|byt (b:Array UInt8)|flt (b:UInt64)|ref (a:Addr)|ty (n:String)
 deriving DecidableEq
def RelV:V->Value->Prop
 | .non,u=>u=Value.none
 | .bl b,u=>u=Value.bool b
 | .int i,u=> ∃t,u=Value.int i t
 | .str x,u=> ∃t,u=Value.str x t
 | .byt b,u=> ∃t,u=Value.bytes b t
 | .flt b,u=> ∃t,u=Value.float b t
 | .ref a,u=>u=Value.ref a
 | .ty n,u=>u=Value.type n
abbrev aZ:List V->List Value->Prop:=Paired RelV
theorem aZ.length {xs:List V}{us:List Value}(r:aZ xs us):xs.length=us.length:=Paired.length r
theorem aZ.get: ∀{xs:List V} {us:List Value} {i:Nat} {x:V},aZ xs us->xs[i]? =some x-> ∃u,us[i]? =some u/\RelV x u
 | _,_,_,_,.nil,e=>by simp at e
 | _,_,0,_,.cons r _,e=>by simp at e;subst e;exact⟨_,rfl,r⟩
 | _,_,i+1,x,.cons _ t,e=>by
  obtain⟨u,h1,h2⟩:=aZ.get (i:=i) (x:=x) t (by simpa using e)
  exact⟨u,by simpa using h1,h2⟩
theorem aZ.set {x:V}{u:Value}(r:RelV x u): ∀{xs:List V} {us:List Value} (i:Nat),aZ xs us->aZ (xs.set i x) (us.set i u)
 | _,_,_,.nil=> .nil
 | _,_,0,.cons _ t=> .cons r t
 | _,_,i+1,.cons q t=> .cons q (aZ.set r i t)
theorem aZ.append: ∀{xs ys:List V} {us ws:List Value},aZ xs us->aZ ys ws->aZ (xs++ys) (us++ws)
 | _,_,_,_,.nil,s=>s
 | _,_,_,_,.cons r t,s=> .cons r (aZ.append t s)
theorem aZ.take: ∀{xs:List V} {us:List Value} (n:Nat),aZ xs us->aZ (xs.take n) (us.take n)
 | _,_,0,_=> .nil
 | _,_,_+1,.nil=> .nil
 | _,_,n+1,.cons r t=> .cons r (aZ.take n t)
theorem aZ.drop: ∀{xs:List V} {us:List Value} (n:Nat),aZ xs us->aZ (xs.drop n) (us.drop n)
 | _,_,0,r=>r
 | _,_,_+1,.nil=> .nil
 | _,_,n+1,.cons _ t=>aZ.drop n t
def RelO:Option V->Option Value->Prop
 | some v,some u=>RelV v u
 | none,none=>True
 | _,_=>False
def KV {κ:Type}:List (κ×V)->List (κ×Value)->Prop:=Paired fun(p:κ×V) (q:κ×Value)=>p.1=q.1/\RelV p.2 q.2
def kV:Key->V
 | .inl i=> .int i
 | .inr x=> .str x
inductive HO where
 | lst (xs:List V)
 | tup (xs:List V)
 | dK (kvs:List (Key×V))|dT (kvs:List (List Key×V))
 | set (S:Int->Bool) (n:Nat)
 | ins (C dx:Addr) (fs:List (Str×V))
 | own (x:Addr)
 | xd (fs:List (Str×V))
 | met (f x:Addr)
 | rng (lo hi:Int)
 | frz (o:Obj) (u:HO)
 | tbl (ps:Array Value)
 | ext (φ:Heap->Prop)
abbrev Hp:=Addr->Option HO
def upd (H:Hp)(a:Addr)(o:HO):Hp:=λb=>if b=a then some o else H b
theorem i5 {H:Hp}{a:Addr}{o:HO}:upd H a o a=some o:=by unfold upd;rw[if_pos rfl]
theorem dA {H:Hp}{a b:Addr}{o:HO}(h:b≠a):upd H a o b=H b:=by unfold upd;rw[if_neg h]
theorem eZ {H:Hp}{a b:Addr}{o:HO}(h:H a=some o)(h':H b=none):a≠b:=by
 intro e;subst e;rw[h]at h';cases h'
section
variable (P:Program)(w:World)
def gB (H:Hp)(h:Heap)(a:Addr):HO->Prop
 | .lst xs=>xs.length<=sizeLine/\ ∃(its:List Value) (n:Nat),aZ xs its/\h.get? a=some {cls:= .type "list",data:= .seq its.toArray n}
 | .tup xs=>xs.length<=sizeLine/\ ∃its:List Value,aZ xs its/\IsTup h a its.toArray
 | .dK kvs=>kvs.length<=sizeLine/\(a==sysModules)=false/\ ∃vs,KV kvs vs/\h.DictOf (tR P w) a vs
 | .dT kvs=>kvs.length<=sizeLine/\(a==sysModules)=false/\ ∃xs:List (List Key×Addr×Value),
   Paired (fun(p:List Key×V) (q:List Key×Addr×Value)=>p.1=q.1/\H q.2.1=some (.tup (p.1.map kV))/\RelV p.2 q.2.2) kvs xs/\
   ∃o es ep,h.get? a=some o/\o.ExactDict/\o.data= .dict es ep/\es.toList=xs.map (entryOfKey (tupleKind (tR P w)))/\(xs.map (·.1)).Nodup
 | .set S n=>h.SetOf (intKind P w) a S n
 | .ins C dx fs=>H dx=some (.own a)/\fs.length<=1000/\dx≠a/\h.get? a=some (PySem.W.instObj C dx)/\
   ∃mA,h.Ns1 dx mA/\(∀f,RelO (fs.lookup f) (mA f))/\PySem.Within mA (fs.map (·.1))
 | .own _=> ∃o,h.get? a=some o
 | .xd fs=> ∃mA,h.Ns1 a mA/\ ∀f,RelO (fs.lookup f) (mA f)
 | .rng lo hi=> ∃t u v,h.get? a=some {cls:= .type "range",data:= .fields #[.int lo t,.int hi u,.int 1 v]}
 | .frz o u=>h.get? a=some o/\gB H h a u
 | .tbl ps=>h.get? a=some {cls:= .none,data:= .fields ps}
 | .met f x=>h.get? a=some (methodObj (.ref f) (.ref x))
 | .ext φ=>φ h/\(∃o,h.get? a=some o)/\ ∀h1 h2:Heap,φ h1->(∀o,h1.get? a=some o->h2.get? a=some o)->φ h2
def HOk (H:Hp)(h:Heap):Prop:= ∀a o,H a=some o->gB P w H h a o
end
section
variable {P:Program}{w:World}{H H':Hp}{h h':Heap}{a:Addr}{o:HO}
theorem gB.lt (x:gB P w H h a o):a<h.objs.size:=by
 cases o with
 | lst xs=>obtain⟨_,_,_,_,e⟩:=x;exact lt_size e
 | tup xs=>obtain⟨_,_,_,p⟩:=x;exact p.lt
 | dK kvs=>obtain⟨_,_,_,_,o,_,_,e,_⟩:=x;exact lt_size e
 | dT kvs=>obtain⟨_,_,_,_,o,_,_,e,_⟩:=x;exact lt_size e
 | set S n=>obtain⟨o,_,_,_,e,_⟩:=x;exact lt_size e
 | ins C dx fs=>obtain⟨_,_,_,e,_⟩:=x;exact lt_size e
 | own y=>obtain⟨_,e⟩:=x;exact lt_size e
 | xd fs=>obtain⟨_,⟨_,_,_,e,_⟩,_⟩:=x;exact lt_size e
 | rng lo hi=>obtain⟨_,_,_,e⟩:=x;exact lt_size e
 | frz ob u=>obtain⟨e,_⟩:=x;exact lt_size e
 | tbl ps=>exact lt_size (show h.get? a=some _ from x)
 | met f y=>exact lt_size (show h.get? a=some _ from x)
 | ext φ=>obtain⟨_,⟨_,e⟩,_⟩:=x;exact lt_size e
theorem Paired.mapP {α β:Type}{F G:α->β->Prop}: ∀{l₁:List α} {l₂:List β},Paired F l₁ l₂->(∀a b,F a b->G a b)->Paired G l₁ l₂
 | _,_,.nil,_=> .nil
 | _,_,.cons r t,f=> .cons (f _ _ r) (Paired.mapP t f)
theorem gB.stay (x:gB P w H h a o)(k: ∀b u,(b=a\/H b=some (.own a))->h.get? b=some u->h'.get? b=some u)
  (ho: ∀b,H b=some (.own a)->H' b=some (.own a)) (ht: ∀b xs,H b=some (.tup xs)->H' b=some (.tup xs)):gB P w H' h' a o:=by
 induction o with
 | lst xs=>obtain⟨z,its,n,r,e⟩:=x;exact⟨z,its,n,r,k _ _ (.inl rfl) e⟩
 | tup xs=>obtain⟨z,its,r,ob,e,c⟩:=x;exact⟨z,its,r,ob,k _ _ (.inl rfl) e,c⟩
 | dK kvs=>obtain⟨z,y,vs,r,ob,es,ep,e,c⟩:=x;exact⟨z,y,vs,r,ob,es,ep,k _ _ (.inl rfl) e,c⟩
 | dT kvs=>
  obtain⟨z,y,xs,r,ob,es,ep,e,c⟩:=x;exact⟨z,y,xs,Paired.mapP r λp q z=>⟨z.1,ht _ _ z.2.1,z.2.2⟩,ob,es,ep,k _ _ (.inl rfl) e,c⟩
 | set S n=>obtain⟨ob,es,ep,t,e,c⟩:=x;exact⟨ob,es,ep,t,k _ _ (.inl rfl) e,c⟩
 | ins C dx fs=>
  obtain⟨d,z,ne,e,mA,⟨od,es,ep,e2,c⟩,r⟩:=x;exact⟨ho _ d,z,ne,k _ _ (.inl rfl) e,mA,⟨od,es,ep,k _ _ (.inr d) e2,c⟩,r⟩
 | own y=>obtain⟨ob,e⟩:=x;exact⟨ob,k _ _ (.inl rfl) e⟩
 | xd fs=>obtain⟨mA,⟨od,es,ep,e,c⟩,r⟩:=x;exact⟨mA,⟨od,es,ep,k _ _ (.inl rfl) e,c⟩,r⟩
 | rng lo hi=>obtain⟨t,u,v,e⟩:=x;exact⟨t,u,v,k _ _ (.inl rfl) e⟩
 | frz ob u ih=>obtain⟨e,q⟩:=x;exact⟨k _ _ (.inl rfl) e,ih q⟩
 | tbl ps=>
  have e:h.get? a=some {cls:= .none,data:= .fields ps}:=x;show h'.get? a=some {cls:= .none,data:= .fields ps};exact k a _ (.inl rfl) e
 | met f y=>
  have e:h.get? a=some (methodObj (.ref f) (.ref y)):=x;show h'.get? a=some (methodObj (.ref f) (.ref y));exact k a _ (.inl rfl) e
 | ext φ=>obtain⟨p,⟨o,e⟩,st⟩:=x;exact⟨st _ _ p λo q=>k _ _ (.inl rfl) q,⟨o,k _ _ (.inl rfl) e⟩,st⟩
theorem HOk.lt (x:HOk P w H h)(e:H a=some o):a<h.objs.size:=(x a o e).lt
theorem HOk.fresh (x:HOk P w H h)(e:h.objs.size<=a):H a=none:=by
 cases q:H a with
 | none=>rfl
 | some u=>exact absurd (lt_of_lt_of_le (x.lt q) e) (lt_irrefl _)
theorem HOk.kept (x:HOk P w H h)(k: ∀b u,h.get? b=some u->h'.get? b=some u):HOk P w H h':=λa o e=>
 (x a o e).stay (λb u _ q=>k b u q) (λ_ q=>q) λ_ _ q=>q
theorem HOk.laid (x:HOk P w H h)(k: ∀b u,h.get? b=some u->h'.get? b=some u)(hp:h.objs.size<=a)(new:gB P w (upd H a o) h' a o):HOk P w (upd H a o) h':=λb u e=>by
 have hn:=x.fresh hp
 by_cases hb:b=a
 ·subst hb;rw[i5]at e;cases e;exact new
 ·rw[dA hb]at e;exact(x b u e).stay (λc v _ q=>k c v q) (λc q=>by rw[dA (eZ q hn)];exact q) λc xs q=>by rw[dA (eZ q hn)];exact q
end
def Rd (H:Hp)(a:Addr)(u:HO):Prop:=H a=some u\/ ∃o,H a=some (.frz o u)
theorem Rd.of {H:Hp}{a:Addr}{u:HO}(h:H a=some u):Rd H a u:= .inl h
theorem Rd.ok {P:Program}{w:World}{H:Hp}{h:Heap}{a:Addr}{u:HO}(r:Rd H a u)(x:HOk P w H h):gB P w H h a u:=by
 rcases r with r| ⟨o,r⟩
 ·exact x a u r
 ·obtain⟨_,q⟩:=x a _ r;exact q
def Mut:Option HO->Prop
 | some (.lst _)=>True
 | some (.dK _)=>True
 | some (.dT _)=>True
 | some (.set _ _)=>True
 | some (.ins _ _ _)=>True
 | some (.ext _)=>True
 | _=>False
section
variable {P:Program}{w:World}{H:Hp}{h h':Heap}{x e:Addr}{o':HO}
theorem HOk.write (ok:HOk P w H h)(mu:Mut (H x))(he:e=x\/H e=some (.own x))(k: ∀b u,b≠e->h.get? b=some u->h'.get? b=some u)(heo: ∃u,h'.get? e=some u)
  (new:gB P w (upd H x o') h' x o'):HOk P w (upd H x o') h':=λb u q=>by
 have nown: ∀c y,H c=some (.own y)->c≠x:=λc y r z=>by subst z;rw[r]at mu;exact mu
 have ntup: ∀c xs,H c=some (.tup xs)->c≠x:=λc xs r z=>by subst z;rw[r]at mu;exact mu
 by_cases hb:b=x
 ·subst hb;rw[i5]at q;cases q;exact new
 ·rw[dA hb]at q
  by_cases hbe:b=e
  ·have q':H b=some (.own x):=by
    rcases he with z|z
    ·exact absurd (hbe.trans z) hb
    ·rw[hbe];exact z
   rw[q]at q';cases q';obtain⟨v,hv⟩:=heo;exact⟨v,by rw[hbe];exact hv⟩
  ·refine(ok b u q).stay (λc v hc r=>k c v ?_ r) (λc r=>by rw[dA (nown c b r)];exact r) λc xs r=>by rw[dA (ntup c xs r)];exact r
   rcases hc with rfl|hc
   ·exact hbe
   ·rintro rfl;rcases he with z|z
    ·exact nown c b hc z
    ·rw[hc]at z;cases z;exact hb rfl
end
structure Un (fs ex:List Addr)(H H':Hp)(h h':Heap):Prop where
 keep: ∀b o,h.get? b=some o->H b=none->b ∉ fs->b ∉ ex->h'.get? b=some o
 slot: ∀b o,h.get? b=some o->H b=none->b∈fs->b ∉ ex-> ∃sl,h'.get? b=some {o with slots:=sl}
 free: ∀b o,h.get? b=some o->H b=none->b ∉ ex->H' b=none
 there: ∀b o,h.get? b=some o->b ∉ ex-> ∃o',h'.get? b=some o'
 tups: ∀b xs,H b=some (.tup xs)->H' b=some (.tup xs)
 frzs: ∀b o u,H b=some (.frz o u)->H' b=some (.frz o u)
 tbls: ∀b ps,H b=some (.tbl ps)-> ∃more,H' b=some (.tbl (ps++more))
section
variable {fs fs' ex ex':List Addr}{H H1 H2:Hp}{h h1 h2 h':Heap}{a x e:Addr}{o:HO}
theorem Un.any (u:Un fs ex H H1 h h1){b:Addr}{ob:Obj}(q:h.get? b=some ob)(n:H b=none)(hx:b ∉ ex): ∃sl,h1.get? b=some {ob with slots:=sl}:=by
 by_cases hb:b∈fs
 ·exact u.slot b ob q n hb hx
 ·exact⟨ob.slots,u.keep b ob q n hb hx⟩
theorem Un.trans (a:Un fs ex H H1 h h1)(b:Un fs ex H1 H2 h1 h2):Un fs ex H H2 h h2 where
 keep:=λc ob q n hc hx=>b.keep c ob (a.keep c ob q n hc hx) (a.free c ob q n hx) hc hx
 slot:=λc ob q n hc hx=>by
  obtain⟨sl,e1⟩:=a.slot c ob q n hc hx;obtain⟨sl',e2⟩:=b.slot c _ e1 (a.free c ob q n hx) hc hx;exact⟨sl',e2⟩
 free:=λc ob q n hx=>by
  obtain⟨o',e1⟩:=a.there c ob q hx;exact b.free c o' e1 (a.free c ob q n hx) hx
 there:=λc ob q hx=>by
  obtain⟨o',e1⟩:=a.there c ob q hx;exact b.there c o' e1 hx
 tups:=λc xs q=>b.tups c xs (a.tups c xs q)
 frzs:=λc ob xs q=>b.frzs c ob xs (a.frzs c ob xs q)
 tbls:=λc ps q=>by
  obtain⟨m1,e1⟩:=a.tbls c ps q;obtain⟨m2,e2⟩:=b.tbls c _ e1;exact⟨m1++m2,by rw[e2,Array.append_assoc]⟩
theorem Un.kept (k: ∀b u,h.get? b=some u->h'.get? b=some u):Un fs ex H H h h':=
 ⟨λb ob q _ _ _=>k b ob q,λb ob q _ _ _=>⟨ob.slots,k b ob q⟩,λ_ _ _ n _=>n,λb ob q _=>⟨ob,k b ob q⟩,λ_ _ q=>q,λ_ _ _ q=>q,λ_ ps q=>⟨#[],by rw[q];simp⟩⟩
theorem Un.refl:Un fs ex H H h h:=Un.kept λ_ _ q=>q
theorem Un.laid (k: ∀b u,h.get? b=some u->h'.get? b=some u)(hp:h.objs.size<=a)(hn:H a=none):Un fs ex H (upd H a o) h h' where
 keep:=λb u q _ _ _=>k b u q
 slot:=λb u q _ _ _=>⟨u.slots,k b u q⟩
 free:=λb u q n _=>by rw[dA (ne_of_lt (lt_of_lt_of_le (lt_size q) hp))];exact n
 there:=λb u q _=>⟨u,k b u q⟩
 tups:=λb xs q=>by rw[dA (eZ q hn)];exact q
 frzs:=λb u xs q=>by rw[dA (eZ q hn)];exact q
 tbls:=λb ps q=>⟨#[],by rw[dA (eZ q hn),q];simp⟩
theorem Un.write (mu:Mut (H x))(he:e=x\/H e=some (.own x))(k: ∀b u,b≠e->h.get? b=some u->h'.get? b=some u)(heo: ∃u,h'.get? e=some u):Un fs ex H (upd H x o) h h':=by
 have hx: ∀b,H b=none->b≠x:=λb n z=>by subst z;rw[n]at mu;exact mu
 have hb: ∀b,H b=none->b≠e:=λb n z=>by
  subst z;rcases he with r|r
  ·exact hx b n r
  ·rw[n]at r;cases r
 have hm: ∀b u,H b=some u-> ¬Mut (some u)->b≠x:=λb u q nm z=>by subst z;rw[q]at mu;exact nm mu
 refine⟨λb u q n _ _=>k b u (hb b n) q,λb u q n _ _=>⟨u.slots,k b u (hb b n) q⟩,λb u q n _=>by rw[dA (hx b n)];exact n,λb u q _=> ?_,
  λb xs q=>by rw[dA (hm b _ q λz=>z)];exact q,λb u xs q=>by rw[dA (hm b _ q λz=>z)];exact q,λb ps q=>⟨#[],by rw[dA (hm b _ q λz=>z),q];simp⟩⟩
 by_cases hbe:b=e
 ·subst hbe;exact heo
 ·exact⟨u,k b u hbe q⟩
theorem Un.mono (u:Un fs ex H H1 h h1)(hs: ∀b∈fs,b∈fs')(hx: ∀b∈ex,b∈ex'):Un fs' ex' H H1 h h1:=
 ⟨λb ob q n hb he=>u.keep b ob q n (λz=>hb (hs b z)) λz=>he (hx b z),λ_ _ q n _ he=>u.any q n λz=>he (hx _ z),λb ob q n he=>u.free b ob q n λz=>he (hx b z),λb ob q he=>u.there b ob q λz=>he (hx b z),u.tups,u.frzs,u.tbls⟩
end
def trk (h:Heap)(H:Hp):List Addr:=(range h.objs.size).filter λa=>(H a).isSome
def qC (h:Heap)(H:Hp):Heap:=PySem.W.hideAll h (trk h H)
theorem uN (h:Heap)(H:Hp):(qC h H).objs.size=h.objs.size:=PySem.W.hideAll_size _ _
theorem vM {h:Heap}{H:Hp}{b:Addr}{o:Obj}(e:h.get? b=some o)(n:H b=none):(qC h H).get? b=some o:=
 PySem.W.hideAll_get _ e λhm=>by
  have q:(H b).isSome=true:=(List.mem_filter.mp hm).2;rw[n]at q;simp at q
theorem xO {h:Heap}{H:Hp}{b:Addr}{o:Obj}(e:(qC h H).get? b=some o):h.get? b=some o/\H b=none:=by
 have e':h.get? b=some o:=PySem.W.of_hideAll (trk h H) e;refine⟨e',?_⟩;cases q:H b with
 | none=>rfl
 | some x=>
  have hm:b∈trk h H:=List.mem_filter.mpr ⟨List.mem_range.mpr (lt_size e'),by simp[q]⟩
  have z:(qC h H).get? b=none:=PySem.W.hideAll_none (trk h H) hm;rw[z]at e;cases e
def xP (g h:Heap)(L:Addr):List (Addr×Obj):=(range h.objs.size).filterMap λa=>if a=L\/(g.get? a).isSome=true then none else(h.get? a).map λo=>(a,o)
def m4 (g h:Heap)(L d:Addr):List (Addr×Obj):=(xP g h L).filter λp=>decide (p.1≠d)
end L2
namespace L2
open PySem PySem.Spec PyProof.Rows
structure Mod (K:Frag)(mg:Str->Option Value)(base:Heap):Prop where
 kin:K.In base
 glob:base.Ns mainGlobals mg
 blt: ∃mb,base.Ns builtinsNs mb/\ ∀x:Str,x≠"__name__"->mb x=bootBuiltins x
 nolimit:base.NoLimit
structure Cx where
 prog:Program
 w:World
 K:Frag
 mg:Str->Option Value
 base:Heap
 A:Around
 N:List Str
 s₀:Shared
 H₀:Hp
 env:Env
 outer:List Env
 stack:List Env
 ex:List Addr
 fn:Str->Bool
 calm:Bool
 pn:List (Addr×Obj)
 xe:Value->Shared->Prop
def frs (l:List Env):List Addr:=l.filterMap (·.frame)
abbrev Cx.fs (X:Cx):List Addr:=frs X.outer
def Vis (sc:Scope)(x:Str):Prop:=sc.names.lookup x=some .local\/sc.names.lookup x=some .cell\/sc.names.lookup x=some .free
def Loc (sc:Scope)(x:Str):Prop:=sc.names.lookup x=some .local\/sc.names.lookup x=some .cell
def Look (env:Env)(h:Heap)(m:Str->Option Value)(x:Str)(u:Value):Prop:=
 (env.kindOf x=some .local/\m x=some u)\/((env.kindOf x=some .cell\/env.kindOf x=some .free)/\ ∃c,env.cells.lookup x=some c/\h.IsCell c (some u))
structure Cx.Ok (X:Cx):Prop where
 mod:Mod X.K X.mg X.base
 kind:X.env.scope.kind= .function
 glob:X.env.globals=mainGlobals
 blt:X.env.builtins=builtinsNs
 above:X.s₀.heap.objs.size<=X.env.locals
 inj: ∀x y c,X.env.cells.lookup x=some c->X.env.cells.lookup y=some c->x=y
 has: ∀x,(X.env.kindOf x=some .cell\/X.env.kindOf x=some .free)-> ∃c,X.env.cells.lookup x=some c
 cab: ∀x c,X.fn x=true->X.env.cells.lookup x=some c->X.s₀.heap.objs.size<=c
 hd:X.calm=true->X.A.handled=none
 frames:X.A.frames=some X.stack
 stk:X.stack=X.outer\/(X.stack=X.env::X.outer/\X.env.frame=some X.env.locals)
 exf: ∀b∈X.ex,b≠X.env.locals/\ ∀x c,X.env.cells.lookup x=some c->c≠b
 bs: ∀b o,X.base.get? b=some o->X.s₀.heap.get? b=some o/\X.H₀ b=none
 bsz:X.base.objs.size<=X.s₀.heap.objs.size
 noex: ∀b o,X.base.get? b=some o->b ∉ X.ex
 exfs: ∀b∈X.ex,b ∉ X.fs
 funs:X.s₀.heap.FunFrames X.base X.outer
 frf: ∀b∈X.fs,X.H₀ b=none
structure Inv (X:Cx)(pins:List (Addr×Obj))(σ:List (Option V))(H:Hp)(s:Shared):Prop where
 ok:X.Ok
 os:s.os=X.s₀.os
 bare:AllBare s.gens
 base:Un X.fs X.ex X.H₀ H X.s₀.heap s.heap
 loc: ∃m,s.heap.Ns X.env.locals m/\ ∀(i:Nat) (x:Str) (v:V),X.N[i]? =some x->σ[i]? =some (some v)->Vis X.env.scope x-> ∃u,RelV v u/\Look X.env s.heap m x u
 cell: ∀x c,X.env.cells.lookup x=some c-> ∃v,s.heap.IsCell c v
 free:H X.env.locals=none
 freeC: ∀x c,X.env.cells.lookup x=some c->H c=none
 pin: ∀p∈X.pn++pins,s.heap.get? p.1=some p.2/\H p.1=none/\p.1≠X.env.locals/\p.1 ∉ X.fs/\ ∀v,p.2.data≠ .cell v
 hok:HOk X.prog X.w H s.heap
 len:σ.length=X.N.length
section
variable {X:Cx}{pins:List (Addr×Obj)}{σ:List (Option V)}{H H':Hp}{s:Shared}{h':Heap}
theorem Cx.Ok.nofr (ok:X.Ok){b:Addr}{o:Obj}(e:X.base.get? b=some o):b ∉ X.fs:=λhb=>by
 have:=(ok.funs.mem hb).1;rw[e]at this;cases this
theorem Inv.bs (I:Inv X pins σ H s): ∀b o,X.base.get? b=some o->s.heap.get? b=some o/\H b=none:=λb o e=>
 ⟨I.base.keep b o (I.ok.bs b o e).1 (I.ok.bs b o e).2 (I.ok.nofr e) (I.ok.noex b o e),I.base.free b o (I.ok.bs b o e).1 (I.ok.bs b o e).2 (I.ok.noex b o e)⟩
theorem Inv.bk (I:Inv X pins σ H s): ∀b o,X.base.get? b=some o->s.heap.get? b=some o:=λb o e=>(I.bs b o e).1
theorem Inv.mod (I:Inv X pins σ H s):Mod X.K X.mg X.base:=I.ok.mod
theorem Inv.kIn (I:Inv X pins σ H s):X.K.In s.heap:=I.ok.mod.kin.keeps I.bk
theorem Inv.nolimit (I:Inv X pins σ H s):s.heap.NoLimit:=I.ok.mod.nolimit.keeps I.bk
theorem Inv.lt (I:Inv X pins σ H s):X.env.locals<s.heap.objs.size:=let ⟨_,hn,_⟩:=I.loc;hn.lt
theorem Inv.sz (I:Inv X pins σ H s):X.s₀.heap.objs.size<=s.heap.objs.size:=le_trans I.ok.above (le_of_lt I.lt)
theorem Inv.nofs (I:Inv X pins σ H s){a:Addr}(h:s.heap.objs.size<=a):a ∉ X.fs:=λhb=>by
 obtain⟨_,o,ho,_⟩:=I.ok.funs.mem hb;exact absurd (lt_of_lt_of_le (lt_size ho) (le_trans I.sz h)) (lt_irrefl _)
theorem Inv.cne (I:Inv X pins σ H s): ∀x c,X.env.cells.lookup x=some c->c≠X.env.locals:=λx c e z=>by
 obtain⟨v,o,ho,hd⟩:=I.cell x c e;obtain⟨m,⟨o',es,ep,ho',hd',_⟩,_⟩:=I.loc;rw[z,ho']at ho;cases ho;rw[hd']at hd;cases hd
theorem Inv.funs (I:Inv X pins σ H s):s.heap.FunFrames X.base X.outer:=by
 have all: ∀(l:List Env),(∀b∈frs l,b∈X.fs)->X.s₀.heap.FunFrames X.base l->s.heap.FunFrames X.base l:=by
  intro l
  induction l with
  | nil=>intro _ _;trivial
  | cons env r ih=>
   intro hs hl;obtain⟨hk,⟨L,o,hf,hn,ho,hd⟩,hr⟩:=hl;have hL:L∈X.fs:=hs L (by unfold frs;rw[List.filterMap_cons,hf];exact mem_cons_self)
   obtain⟨sl,e⟩:=I.base.slot L o ho (I.ok.frf L hL) hL λz=>I.ok.exfs L z hL
   exact⟨hk,⟨L,_,hf,hn,e,hd⟩,ih (λb hb=>hs b (by unfold frs;rw[List.filterMap_cons,hf];exact mem_cons_of_mem _ hb)) hr⟩
 exact all X.outer (λ_ hb=>hb) I.ok.funs
theorem Inv.stack (I:Inv X pins σ H s):s.heap.FunFrames X.base X.stack:=by
 rcases I.ok.stk with e| ⟨e,hf⟩
 ·rw[e];exact I.funs
 ·rw[e];obtain⟨m,hn,_⟩:=I.loc;refine .cons (by rw[I.ok.kind];decide) hf hn ?_ I.funs
  exact Heap.get?_none_of_le (le_trans I.ok.bsz I.ok.above)
theorem Inv.stkSub (I:Inv X pins σ H s): ∀b∈frs X.stack,b∈X.env.locals::X.fs:=λb hb=>by
 rcases I.ok.stk with e| ⟨e,hf⟩
 ·rw[e]at hb;exact mem_cons_of_mem _ hb
 ·rw[e]at hb;unfold frs at hb;rw[List.filterMap_cons,hf]at hb;exact hb
theorem Inv.stkFree (I:Inv X pins σ H s): ∀b∈frs X.stack,H b=none:=λb hb=>by
 rcases List.mem_cons.mp (I.stkSub b hb)with e|hb
 ·rw[e];exact I.free
 ·obtain⟨_,o,ho,_⟩:=I.ok.funs.mem hb;exact I.base.free b o ho (I.ok.frf b hb) λz=>I.ok.exfs b z hb
theorem Inv.step {g':Array GenState}{t':Nat}{d':Drawn}{ch:List Addr}(I:Inv X pins σ H s)
  (hch: ∀b∈ch,(b∈X.ex\/X.s₀.heap.objs.size<=b)/\b≠X.env.locals/\(∀x c,X.env.cells.lookup x=some c->c≠b)/\ ∀p∈X.pn++pins,p.1≠b)
  (keep: ∀b o,b≠X.env.locals->b ∉ X.fs->b ∉ ch->s.heap.get? b=some o->H b=none->h'.get? b=some o)
  (slot: ∀b o,b≠X.env.locals->b∈X.fs->b ∉ ch->s.heap.get? b=some o->H b=none-> ∃sl,h'.get? b=some {o with slots:=sl}) (free: ∀b o,b ∉ ch->s.heap.get? b=some o->H b=none->H' b=none)
  (there: ∀b o,b ∉ ch->s.heap.get? b=some o-> ∃o',h'.get? b=some o')
  (tups: ∀b xs,H b=some (.tup xs)->H' b=some (.tup xs)) (frzs: ∀b o u,H b=some (.frz o u)->H' b=some (.frz o u)) (tbls: ∀b ps,H b=some (.tbl ps)-> ∃more,H' b=some (.tbl (ps++more)))
  (ns: ∀m,s.heap.Ns X.env.locals m->h'.Ns X.env.locals m) (hok:HOk X.prog X.w H' h') (hg:AllBare g') :
  Inv X pins σ H' {s with heap:=h',gens:=g',drawn:=d',toks:=t'}:=by
 have neL: ∀b o,X.s₀.heap.get? b=some o->b≠X.env.locals:=λb o e=>ne_of_lt (lt_of_lt_of_le (lt_size e) I.ok.above)
 have neC: ∀b o,X.s₀.heap.get? b=some o->b ∉ X.ex->b ∉ ch:=λb o e hx hb=>by
  rcases(hch b hb).1 with z|z
  ·exact hx z
  ·exact absurd (lt_of_lt_of_le (lt_size e) z) (lt_irrefl _)
 have cellK: ∀x c,X.env.cells.lookup x=some c-> ∀v,s.heap.IsCell c v->h'.IsCell c v:=λx c e v ⟨o,ho,hd⟩=>by
  have nch:c ∉ ch:=λz=>(hch c z).2.2.1 x c e rfl
  by_cases hc:c∈X.fs
  ·obtain⟨sl,q⟩:=slot c o (I.cne x c e) hc nch ho (I.freeC x c e);exact⟨_,q,hd⟩
  ·exact⟨o,keep c o (I.cne x c e) hc nch ho (I.freeC x c e),hd⟩
 refine⟨I.ok,I.os,hg,⟨λb o e n hb hx=> ?_,λb o e n hb hx=> ?_,λb o e n hx=> ?_,λb o e hx=> ?_,λb xs e=>tups b xs (I.base.tups b xs e),λb o xs e=>frzs b o xs (I.base.frzs b o xs e),λb ps e=> ?_⟩,?_,λx c e=> ?_,?_,λx c e=> ?_,λp hp=> ?_,hok,I.len⟩
 ·exact keep b o (neL b o e) hb (neC b o e hx) (I.base.keep b o e n hb hx) (I.base.free b o e n hx)
 ·obtain⟨sl,e1⟩:=I.base.slot b o e n hb hx;obtain⟨sl',e2⟩:=slot b _ (neL b o e) hb (neC b o e hx) e1 (I.base.free b o e n hx);exact⟨sl',e2⟩
 ·obtain⟨o',e1⟩:=I.base.there b o e hx;exact free b o' (neC b o e hx) e1 (I.base.free b o e n hx)
 ·obtain⟨o',e1⟩:=I.base.there b o e hx;exact there b o' (neC b o e hx) e1
 ·obtain⟨m1,e1⟩:=I.base.tbls b ps e;obtain⟨m2,e2⟩:=tbls b _ e1;exact⟨m1++m2,by rw[e2,Array.append_assoc]⟩
 ·obtain⟨m,hn,hl⟩:=I.loc;refine⟨m,ns m hn,λi x v e1 e2 e3=> ?_⟩
  obtain⟨u,r,l⟩:=hl i x v e1 e2 e3;refine⟨u,r,?_⟩;rcases l with l| ⟨k,c,e,z⟩
  ·exact .inl l
  ·exact .inr ⟨k,c,e,cellK x c e _ z⟩
 ·obtain⟨v,z⟩:=I.cell x c e;exact⟨v,cellK x c e v z⟩
 ·obtain⟨m,⟨o,_,_,ho,_⟩,_⟩:=I.loc;exact free _ o (λz=>(hch _ z).2.1 rfl) ho I.free
 ·obtain⟨v,o,ho,hd⟩:=I.cell x c e;exact free c o (λz=>(hch c z).2.2.1 x c e rfl) ho (I.freeC x c e)
 ·obtain⟨e,n,ne,nf,d⟩:=I.pin p hp;have nch:p.1 ∉ ch:=λz=>(hch p.1 z).2.2.2 p hp rfl
  exact⟨keep p.1 p.2 ne nf nch e n,free p.1 p.2 nch e n,ne,nf,d⟩
theorem Inv.un {t':Nat}(I:Inv X pins σ H s)(u:Un X.fs [] H H' s.heap h')(hok:HOk X.prog X.w H' h'):Inv X pins σ H' {s with heap:=h',toks:=t'}:=by
 obtain⟨m,⟨o,es,ep,ho,r⟩,_⟩:=id I.loc;obtain⟨sl,hL⟩:=u.any ho I.free (by simp)
 exact I.step (g':=s.gens) (d':=s.drawn) (ch:=[]) (λ_ z=>nomatch z) (λb o _ hb _ e n=>u.keep b o e n hb (by simp)) (λb o _ hb _ e n=>u.slot b o e n hb (by simp)) (λb o _ e n=>u.free b o e n (by simp)) (λb o _ e=>u.there b o e (by simp)) u.tups u.frzs u.tbls (λm' hm=>by
  obtain⟨o',es',ep',ho',r'⟩:=hm;rw[ho]at ho';cases ho';exact⟨_,es',ep',hL,r'⟩) hok I.bare
theorem Inv.call {g':Array GenState}{t':Nat}{d':Drawn}{ch:List Addr}(I:Inv X pins σ H s)(u:Un (frs X.stack) ch H H' s.heap h')(hok:HOk X.prog X.w H' h')(hg:AllBare g')
  (hch: ∀b∈ch,(b∈X.ex\/X.s₀.heap.objs.size<=b)/\b≠X.env.locals/\(∀x c,X.env.cells.lookup x=some c->c≠b)/\ ∀p∈X.pn++pins,p.1≠b) :
  Inv X pins σ H' {s with heap:=h',gens:=g',drawn:=d',toks:=t'}:=by
 obtain⟨m,⟨o,es,ep,ho,r⟩,_⟩:=id I.loc;obtain⟨sl,hL⟩:=u.any ho I.free λz=>(hch _ z).2.1 rfl
 exact I.step (ch:=ch) hch (λb o hL hb hc e n=>u.keep b o e n (λz=>(List.mem_cons.mp (I.stkSub b z)).elim hL hb) hc) (λb o _ _ hc e n=>u.any e n hc) (λb o hc e n=>u.free b o e n hc) (λb o hc e=>u.there b o e hc) u.tups u.frzs u.tbls (λm' hm=>by
  obtain⟨o',es',ep',ho',r'⟩:=hm;rw[ho]at ho';cases ho';exact⟨_,es',ep',hL,r'⟩) hok hg
theorem Inv.turned {t':Nat}{it:Addr}(I:Inv X pins σ H s)(k: ∀b o,b≠it->s.heap.get? b=some o->h'.get? b=some o)(hn:H it=none)(hL:it≠X.env.locals)
  (h1:it∈X.ex\/X.s₀.heap.objs.size<=it) (h2: ∀x c,X.env.cells.lookup x=some c->c≠it) (h3: ∀p∈X.pn++pins,p.1≠it):Inv X pins σ H {s with heap:=h',toks:=t'}:=by
 have nit: ∀b u,H b=some u->b≠it:=λb u e z=>by rw[z,hn]at e;cases e
 refine I.step (g':=s.gens) (d':=s.drawn) (ch:=[it]) (λb hb=> ?_) (λb o _ _ hc e _=>k b o (λz=>hc (by simp[z])) e) (λb o _ _ hc e _=>⟨o.slots,k b o (λz=>hc (by simp[z])) e⟩) (λ_ _ _ _ n=>n)
  (λb o hc e=>⟨o,k b o (λz=>hc (by simp[z])) e⟩) (λ_ _ e=>e) (λ_ _ _ e=>e) (λb ps e=>⟨#[],by rw[e];simp⟩) (λm hm=> ?_) (λb u e=> ?_) I.bare
 ·have e:b=it:=by simpa using hb
  subst e;exact⟨h1,hL,h2,h3⟩
 ·obtain⟨o,es,ep,ho,r⟩:=hm;exact⟨o,es,ep,k _ o (Ne.symm hL) ho,r⟩
 ·refine(I.hok b u e).stay (λc v hc q=>k c v ?_ q) (λ_ q=>q) λ_ _ q=>q
  rcases hc with z|z
  ·rw[z];exact nit b u e
  ·exact nit c _ z
theorem Inv.tok (I:Inv X pins σ H s)(t:Nat):Inv X pins σ H {s with toks:=t}:=I.un (h':=s.heap) (t':=t) Un.refl I.hok
theorem Inv.kept {t':Nat}(I:Inv X pins σ H s)(k: ∀b u,s.heap.get? b=some u->h'.get? b=some u):Inv X pins σ H {s with heap:=h',toks:=t'}:=I.un (Un.kept k) (I.hok.kept k)
theorem Inv.laid {a:Addr}{o:HO}{t':Nat}(I:Inv X pins σ H s)(k: ∀b u,s.heap.get? b=some u->h'.get? b=some u)(hp:s.heap.objs.size<=a)(new:gB X.prog X.w (upd H a o) h' a o) :
  Inv X pins σ (upd H a o) {s with heap:=h',toks:=t'}:=I.un (Un.laid k hp (I.hok.fresh hp)) (I.hok.laid k hp new)
theorem Inv.write {x e:Addr}{o:HO}{t':Nat}(I:Inv X pins σ H s)(mu:Mut (H x))(he:e=x\/H e=some (.own x))(k: ∀b u,b≠e->s.heap.get? b=some u->h'.get? b=some u)(heo: ∃u,h'.get? e=some u)
  (new:gB X.prog X.w (upd H x o) h' x o):Inv X pins σ (upd H x o) {s with heap:=h',toks:=t'}:=I.un (Un.write mu he k heo) (I.hok.write mu he k heo new)
theorem Inv.pins_of {pins':List (Addr×Obj)}(I:Inv X pins σ H s)(h: ∀p∈pins',s.heap.get? p.1=some p.2/\H p.1=none/\p.1≠X.env.locals/\p.1 ∉ X.fs/\ ∀v,p.2.data≠ .cell v):Inv X pins' σ H s:=
 ⟨I.ok,I.os,I.bare,I.base,I.loc,I.cell,I.free,I.freeC,λp hp=>(List.mem_append.mp hp).elim (λz=>I.pin p (List.mem_append_left _ z)) (h p),I.hok,I.len⟩
theorem rL {N:List Str}(hN:N.Nodup){i j:Nat}{x:Str}(a:N[i]? =some x)(b:N[j]? =some x):i=j:=by
 obtain⟨h1,e1⟩:=List.getElem?_eq_some_iff.mp a;obtain⟨h2,e2⟩:=List.getElem?_eq_some_iff.mp b;exact(List.getElem_inj hN).mp (e1.trans e2.symm)
theorem uO {M:Model}{A:Around}{E:Value->Shared->Prop}{i:Nat}{x:Str}{v:V}{u:Value}{Q:Unit->Shared->Prop}(I:Inv X pins σ H s)(hN:X.N.Nodup)(hi:X.N[i]? =some x)(hx:Loc X.env.scope x)(r:RelV v u)
  (h: ∀s',Inv X pins (σ.set i (some v)) H s'->(∃a,SameBut a s.heap s'.heap/\(a=X.env.locals\/X.env.cells.lookup x=some a))->Q () s') (hf:X.fn x=true\/X.env.scope.names.lookup x=some .local:=by first|exact .inl rfl|exact .inr rfl|assumption):wpAny M A (storeName X.env x u) Q E s:=by
 obtain⟨m,hn,hl⟩:=id I.loc;have hcls:(X.env.scope.kind== .class||(X.env.scope.kind== .module&&X.env.locals != X.env.globals))=false:=by rw[I.ok.kind];rfl
 have hiσ:i<σ.length:=by rw[I.len];exact(List.getElem?_eq_some_iff.mp hi).1
 have cne:=I.cne;have tracked: ∀{a:Addr} {h':Heap},(∃o,s.heap.get? a=some o/\H a=none)->SameBut a s.heap h'->HOk X.prog X.w H h':=λ{a h'} ha hs b ob e=>by
  obtain⟨_,_,hfree⟩:=ha;refine(I.hok b ob e).stay (λc w' hc q=>(hs.2 c ?_).trans q) (λ_ q=>q) λ_ _ q=>q
  rintro rfl;rcases hc with rfl|hc
  ·rw[hfree]at e;cases e
  ·rw[hfree]at hc;cases hc
 rcases hx with hk|hk
 ·refine wpAny_storeName_local hk hn (λh' hn' hs=> ?_) hcls
  obtain⟨oL,_,_,hoL,_⟩:=id hn;refine h _ ⟨I.ok,I.os,I.bare,⟨λb o e n hb hx=> ?_,λb o e n hb hx=> ?_,I.base.free,λb o e hx=> ?_,I.base.tups,I.base.frzs,I.base.tbls⟩,⟨_,hn',λj y v' e1 e2 e3=> ?_⟩,λy c e=> ?_,I.free,I.freeC,λp hp=> ?_,tracked ⟨oL,hoL,I.free⟩ hs,by simpa using I.len⟩ ⟨_,hs,.inl rfl⟩
  ·exact(hs.2 b (ne_of_lt (lt_of_lt_of_le (lt_size e) I.ok.above))).trans (I.base.keep b o e n hb hx)
  ·obtain⟨sl,e1⟩:=I.base.slot b o e n hb hx;exact⟨sl,(hs.2 b (ne_of_lt (lt_of_lt_of_le (lt_size e) I.ok.above))).trans e1⟩
  ·obtain⟨o',e1⟩:=I.base.there b o e hx;exact⟨o',(hs.2 b (ne_of_lt (lt_of_lt_of_le (lt_size e) I.ok.above))).trans e1⟩
  ·by_cases hj:j=i
   ·subst hj;rw[hi]at e1;cases e1;rw[List.getElem?_set_self hiσ]at e2;cases e2;exact⟨u,r,.inl ⟨hk,by simp⟩⟩
   ·rw[List.getElem?_set_ne (Ne.symm hj)]at e2;obtain⟨u',r',q⟩:=hl j y v' e1 e2 e3;refine⟨u',r',?_⟩;rcases q with⟨k,e⟩| ⟨k,c,e,z⟩
    ·refine .inl ⟨k,?_⟩
     have:y≠x:=λe=>hj (rL hN e1 (e▸hi))
     simp[this,e]
    ·exact .inr ⟨k,c,e,z.sameBut hs (cne y c e)⟩
  ·obtain⟨w',z⟩:=I.cell y c e;exact⟨w',z.sameBut hs (cne y c e)⟩
  ·obtain⟨e,n,ne,nf,d⟩:=I.pin p hp;exact⟨(hs.2 p.1 ne).trans e,n,ne,nf,d⟩
 ·have hfn:X.fn x=true:=by
   rcases hf with z|z
   ·exact z
   ·rw[z]at hk;cases hk
  obtain⟨c,hc⟩:=I.ok.has x (.inl hk);obtain⟨w',z⟩:=I.cell x c hc;refine wpAny_storeName_cell I.ok.kind hk hc z (λh' hc' hs=> ?_)
  obtain⟨oc,hoc,hocd⟩:=id z;refine h {s with heap:=h'} ⟨I.ok,I.os,I.bare,⟨λb o e n hb hx=> ?_,λb o e n hb hx=> ?_,I.base.free,λb o e hx=> ?_,I.base.tups,I.base.frzs,I.base.tbls⟩,⟨m,hn.sameBut hs (Ne.symm (cne x c hc)),λj y v' e1 e2 e3=> ?_⟩,λy c' e=> ?_,I.free,I.freeC,λp hp=> ?_,tracked ⟨oc,hoc,I.freeC x c hc⟩ hs,by simpa using I.len⟩ ⟨c,hs,.inr hc⟩
  ·exact(hs.2 b (ne_of_lt (lt_of_lt_of_le (lt_size e) (I.ok.cab x c hfn hc)))).trans (I.base.keep b o e n hb hx)
  ·obtain⟨sl,e1⟩:=I.base.slot b o e n hb hx;exact⟨sl,(hs.2 b (ne_of_lt (lt_of_lt_of_le (lt_size e) (I.ok.cab x c hfn hc)))).trans e1⟩
  ·obtain⟨o',e1⟩:=I.base.there b o e hx;exact⟨o',(hs.2 b (ne_of_lt (lt_of_lt_of_le (lt_size e) (I.ok.cab x c hfn hc)))).trans e1⟩
  ·by_cases hj:j=i
   ·subst hj;rw[hi]at e1;cases e1;rw[List.getElem?_set_self hiσ]at e2;cases e2;exact⟨u,r,.inr ⟨.inl hk,c,hc,hc'⟩⟩
   ·rw[List.getElem?_set_ne (Ne.symm hj)]at e2;obtain⟨u',r',q⟩:=hl j y v' e1 e2 e3;refine⟨u',r',?_⟩;rcases q with q| ⟨k,c',e,z'⟩
    ·exact .inl q
    ·refine .inr ⟨k,c',e,z'.sameBut hs ?_⟩
     rintro rfl;exact hj (rL hN e1 (I.ok.inj _ _ _ e hc▸hi))
  ·by_cases hcc:c'=c
   ·subst hcc;exact⟨_,hc'⟩
   ·obtain⟨w2,z2⟩:=I.cell y c' e;exact⟨w2,z2.sameBut hs hcc⟩
  ·obtain⟨e,n,ne,nf,d⟩:=I.pin p hp;refine⟨(hs.2 p.1 ?_).trans e,n,ne,nf,d⟩;intro q;rw[q,hoc]at e;have q':oc=p.2:=Option.some.inj e;exact d w' (by rw[<-q'];exact hocd)
theorem rM {M:Model}{A:Around}{E:Value->Shared->Prop}{i:Nat}{x:Str}{v:V}{u:Value}{Q:Unit->Shared->Prop}(I:Inv X pins σ H s)(hN:X.N.Nodup)(hi:X.N[i]? =some x)(hx:Loc X.env.scope x)(r:RelV v u)
  (h: ∀s',Inv X pins (σ.set i (some v)) H s'->Q () s') (hf:X.fn x=true\/X.env.scope.names.lookup x=some .local:=by first|exact .inl rfl|exact .inr rfl|assumption):wpAny M A (storeName X.env x u) Q E s:=
 uO I hN hi hx r (λs' I' _=>h s' I') hf
end
abbrev XK:=Value->Option Addr->Hp->Prop
abbrev St:=List (Option V)
abbrev VK:=V->Hp->Prop
abbrev TE:=St->Hp->VK->Prop
abbrev TT:=St->Hp->(Bool->Hp->Prop)->Prop
abbrev TA:=St->Hp->(List V->Hp->Prop)->Prop
structure uP where
 nx:St->Hp->Prop
 rt:VK
 bk:St->Hp->Prop:=λ_ _=>False
 ct:St->Hp->Prop:=λ_ _=>False
abbrev TS:=uP->St->Hp->Prop
def EP (X:Cx)(pins:List (Addr×Obj))(σ:St)(Q:VK)(u:Value)(s':Shared):Prop:= ∃v H',Inv X pins σ H' s'/\RelV v u/\Q v H'
def TP (X:Cx)(pins:List (Addr×Obj))(σ:St)(Q:Bool->Hp->Prop)(b:Bool)(s':Shared):Prop:= ∃H',Inv X pins σ H' s'/\Q b H'
def AP (X:Cx)(pins:List (Addr×Obj))(σ:St)(Q:List V->Hp->Prop)(us:List Value)(s':Shared):Prop:= ∃vs H',Inv X pins σ H' s'/\aZ vs us/\Q vs H'
def SP (X:Cx)(pins:List (Addr×Obj))(D:uP)(f:Flow)(s':Shared):Prop:=
 match f with
 | .next=> ∃σ' H',Inv X pins σ' H' s'/\D.nx σ' H'
 | .brk=> ∃σ' H',Inv X pins σ' H' s'/\D.bk σ' H'
 | .cont=> ∃σ' H',Inv X pins σ' H' s'/\D.ct σ' H'
 | .ret u=> ∃v σ' H',Inv X pins σ' H' s'/\RelV v u/\D.rt v H'
def PE (X:Cx)(e:Expr)(t:TE):Prop:=
 ∀(pins:List (Addr×Obj)) (s:Shared) (σ:St) (H:Hp) (Q:VK),Inv X pins σ H s->t σ H Q->wpAny (model X.prog X.w) X.A (eval e X.env) (EP X pins σ Q) X.xe s
def PT (X:Cx)(e:Expr)(t:TT):Prop:=
 ∀(pins:List (Addr×Obj)) (s:Shared) (σ:St) (H:Hp) (Q:Bool->Hp->Prop),Inv X pins σ H s->t σ H Q->wpAny (model X.prog X.w) X.A (isTrue e X.env (eval e X.env)) (TP X pins σ Q) X.xe s
def PW (X:Cx)(e:Expr)(t:TT):Prop:=
 ∀(whole:Sem Value) (pins:List (Addr×Obj)) (s:Shared) (σ:St) (H:Hp) (Q:Bool->Hp->Prop),Inv X pins σ H s->t σ H Q->wpAny (model X.prog X.w) X.A (isTrue e X.env whole) (TP X pins σ Q) X.xe s
theorem PW.pt {X:Cx}{e:Expr}{t:TT}(h:PW X e t):PT X e t:=h _
def PA (X:Cx)(es:List Expr)(t:TA):Prop:=
 ∀(pos:Pos) (pins:List (Addr×Obj)) (s:Shared) (σ:St) (H:Hp) (Q:List V->Hp->Prop),Inv X pins σ H s->t σ H Q->wpAny (model X.prog X.w) X.A (spliced (backTo pos (starEach es X.env))) (AP X pins σ Q) X.xe s
def PS (X:Cx)(st:Stmt)(t:TS):Prop:=
 ∀(pins:List (Addr×Obj)) (s:Shared) (σ:St) (H:Hp) (D:uP),Inv X pins σ H s->t D σ H->wpAny (model X.prog X.w) X.A (exec st X.env) (SP X pins D) X.xe s
def PSs (X:Cx)(st:List Stmt)(t:TS):Prop:=
 ∀(pins:List (Addr×Obj)) (s:Shared) (σ:St) (H:Hp) (D:uP),Inv X pins σ H s->t D σ H->wpAny (model X.prog X.w) X.A (execs st X.env) (SP X pins D) X.xe s
theorem thn {α:Type}{t:Sem α}{Q Q':α->Shared->Prop}{M:Model}{A:Around}{E:Value->Shared->Prop}{s:Shared}(h:wpAny M A t Q E s)(hQ: ∀a s,Q a s->Q' a s):wpAny M A t Q' E s:=wpAny_mono h hQ λ_ _ x=>x
end L2
namespace L2
open PySem PySem.Spec PyProof.Rows
section
variable {X:Cx}
def uQ (i:Nat):TE:=λσ H Q=> ∃v,σ[i]? =some (some v)/\Q v H
def tC (v:V):TE:=λ_ H Q=>Q v H
theorem pe_var {i:Nat}{x:Str}{pos:Pos}(hN:X.N[i]? =some x)(hv:Vis X.env.scope x)(hd:(x==("__debug__":Str))=false:=by decide)(hcd:(x==("__classdict__":Str))=false:=by decide):PE X (.Name x pos) (uQ i):=by
 intro pins s σ H Q I h;obtain⟨v,e,h⟩:=h;obtain⟨m,hn,hl⟩:=I.loc;obtain⟨u,r,l⟩:=hl i x v hN e hv;have fin:EP X pins σ Q u s:=⟨v,H,I,r,h⟩;rcases l with⟨hk,hm⟩| ⟨hk,c,hc,hcell⟩
 ·exact wpAny_Name (wpAny_loadName_local I.ok.kind hk hn hm fin) hd
 ·rcases hk with hk|hk
  ·exact wpAny_Name (wpAny_loadName_cell I.ok.kind hk hc hcell fin) hd
  ·exact wpAny_Name (wpAny_loadName_free I.ok.kind hk hc hcell fin hcd) hd
theorem pe_int {i j pos}:PE X (.Constant (.int i) j pos) (tC (.int i)):=λ_ _ _ H _ I h=>wpAny_Constant_int ⟨.int i,H,I.tok _,⟨_,rfl⟩,h⟩
theorem pe_bl {b j pos}:PE X (.Constant (.bool b) j pos) (tC (.bl b)):=λ_ _ _ H _ I h=>Constant_bool ⟨.bl b,H,I,rfl,h⟩
theorem pe_str {x j pos}:PE X (.Constant (.str x) j pos) (tC (.str x)):=λ_ _ _ H _ I h=>Calls.Constant_str ⟨.str x,H,I.tok _,⟨_,rfl⟩,h⟩
def Gl (X:Cx)(x:Str):Prop:=X.env.kindOf x=some .globalImplicit
theorem tS {E:Value->Shared->Prop}{pins:List (Addr×Obj)}{s:Shared}{σ:St}{H:Hp}{x:Str}{u:Value}{pos:Pos}{Q:Value->Shared->Prop}(I:Inv X pins σ H s)(hg:Gl X x)(hm:X.mg x=some u)(h:Q u s)
  (hd:(x==("__debug__":Str))=false:=by decide):wpAny (model X.prog X.w) X.A (eval (.Name x pos) X.env) Q E s:=
 Calls.Name_function_global I.ok.kind hg (Calls.loadGlobal_global (by rw[I.ok.glob];exact I.mod.glob.keeps I.bk) hm h) hd
theorem qD {E:Value->Shared->Prop}{pins:List (Addr×Obj)}{s:Shared}{σ:St}{H:Hp}{x:Str}{u:Value}{pos:Pos}{Q:Value->Shared->Prop}(I:Inv X pins σ H s)(hg:Gl X x)(hm:X.mg x=none)(hv:bootBuiltins x=some u)(h:Q u s)
  (hn:x≠"__name__":=by decide) (hd:(x==("__debug__":Str))=false:=by decide):wpAny (model X.prog X.w) X.A (eval (.Name x pos) X.env) Q E s:=by
 obtain⟨mb,h1,h2⟩:=I.mod.blt;exact Calls.Name_function_global I.ok.kind hg (Calls.loadGlobal_builtin (by rw[I.ok.glob];exact I.mod.glob.keeps I.bk) hm (by rw[I.ok.blt];exact h1.keeps I.bk) ((h2 x hn).trans hv) h) hd
theorem tT {x:Str}{v:V}{u:Value}{pos:Pos}(hg:Gl X x)(hm:X.mg x=some u)(r:RelV v u)(hd:(x==("__debug__":Str))=false:=by decide):PE X (.Name x pos) (tC v):=
 λ_ _ _ H _ I h=>tS I hg hm ⟨v,H,I,r,h⟩ hd
theorem xQ {x:Str}{v:V}{u:Value}{pos:Pos}(hg:Gl X x)(hm:X.mg x=none)(hv:bootBuiltins x=some u)(r:RelV v u)(hn:x≠"__name__":=by decide)(hd:(x==("__debug__":Str))=false:=by decide):PE X (.Name x pos) (tC v):=
 λ_ _ _ H _ I h=>qD I hg hm hv ⟨v,H,I,r,h⟩ hn hd
variable {a b:Expr}{ta tb:TE}{pos:Pos}
def tB (t:TE):TT:=λσ H Q=>t σ H λx H1=> ∃c,x= .bl c/\Q c H1
theorem pt_val {e:Expr}{t:TE}(h:PE X e t)(he: ∀whole,isTrue e X.env whole=(do let v<-whole;standAt e.pos;holding [v] (truthy v)):=by intro _;rfl):PT X e (tB t):=by
 intro pins s σ H Q I hw;refine isTrue_plain (thn (h pins s σ H _ I hw) λv s1 ⟨x,H1,I1,r1,q1⟩=> ?_) (he _)
 obtain⟨d,rfl,q⟩:=q1;cases r1;exact wpAny_truthy_bool ⟨H1,I1,q⟩
variable {tA tB':TT}{m4:List Expr}
def tOr (t u:TT):TT:=λσ H Q=>t σ H λc H1=>if c=true then Q true H1 else u σ H1 Q
def tNot (t:TT):TT:=λσ H Q=>t σ H λc H1=>Q (!c) H1
theorem pw_or1 (ha:PT X a tA):PW X (.BoolOp .Or [a] pos) tA:=by
 intro wh pins s σ H Q I h;refine isTrue_or (thn (ha pins s σ H Q I h) λc s1 e=> ?_)
 cases c with
 | false=>exact isTrue_or_nil e
 | true=>exact e
theorem pw_or (ha:PT X a tA)(hb:PW X (.BoolOp .Or (b::m4) pos) tB'):PW X (.BoolOp .Or (a::b::m4) pos) (tOr tA tB'):=by
 intro wh pins s σ H Q I h;refine isTrue_or (thn (ha pins s σ H _ I h) λc s1 ⟨H1,I1,q1⟩=> ?_)
 cases c with
 | true=>exact⟨H1,I1,q1⟩
 | false=>exact hb wh pins s1 σ H1 Q I1 q1
theorem pt_not (ha:PT X a tA):PT X (.UnaryOp .Not a pos) (tNot tA):=by
 intro pins s σ H Q I h;exact isTrue_not (ha pins s σ H (λc H1=>Q (!c) H1) I h)
def tAndV (ta tb:TE):TE:=λσ H Q=>ta σ H λx H1=> ∃c,x= .bl c/\if c=true then tb σ H1 Q else Q (.bl false) H1
def tNotV (ta:TE):TE:=λσ H Q=>ta σ H λx H1=> ∃c,x= .bl c/\Q (.bl (!c)) H1
theorem pe_one {op}{t:TE}(h:PE X a t):PE X (.BoolOp op [a] pos) t:=λpins s σ H Q I hw=>BoolOp_one (h pins s σ H Q I hw)
theorem pe_and (ha:PE X a ta)(hb:PE X (.BoolOp .And (b::m4) pos) tb):PE X (.BoolOp .And (a::b::m4) pos) (tAndV ta tb):=by
 intro pins s σ H Q I h;refine BoolOp_and (thn (ha pins s σ H _ I h) λv s1 ⟨x,H1,I1,r1,q1⟩=> ?_)
 obtain⟨c,rfl,q1⟩:=q1;cases r1;refine wpAny_truthy_bool ?_;cases c with
 | true=>exact hb pins s1 σ H1 Q I1 q1
 | false=>exact⟨.bl false,H1,I1,rfl,q1⟩
theorem pe_not (ha:PE X a ta):PE X (.UnaryOp .Not a pos) (tNotV ta):=by
 intro pins s σ H Q I h;refine UnaryOp_ (thn (ha pins s σ H _ I h) λv s1 ⟨x,H1,I1,r1,q1⟩=> ?_)
 obtain⟨c,rfl,q1⟩:=q1;cases r1;exact not_of (wpAny_truthy_bool ⟨.bl (!c),H1,I1,rfl,q1⟩)
def tIf (t:TT)(ta tb:TE):TE:=λσ H Q=>t σ H λc H1=>if c=true then ta σ H1 Q else tb σ H1 Q
theorem vN {c:Expr}(hc:PT X c tA)(ha:PE X a ta)(hb:PE X b tb):PE X (.IfExp c a b pos) (tIf tA ta tb):=by
 intro pins s σ H Q I h;refine wpAny_IfExp (thn (hc pins s σ H _ I h) λd s1 ⟨H1,I1,q1⟩=> ?_)
 cases d with
 | true=>exact ha pins s1 σ H1 Q I1 q1
 | false=>exact hb pins s1 σ H1 Q I1 q1
end
end L2
namespace L2
open PySem PySem.Spec PyProof.Rows
def SqL (K:Frag)(H:Hp)(a:Addr)(xs:List V):Prop:=
 Rd H a (.lst xs)\/
  ∃(o:Obj) (its:Array Value) (n:Nat),K.lookup a=some o/\o.cls= .type "list"/\o.dict=none/\o.data= .seq its n/\its.size<=sizeLine/\aZ xs its.toList
def SqT (K:Frag)(H:Hp)(a:Addr)(xs:List V):Prop:=
 Rd H a (.tup xs)\/
  ∃(o:Obj) (its:Array Value) (n:Nat),K.lookup a=some o/\o.cls= .type "tuple"/\o.data= .seq its n/\its.size<=sizeLine/\aZ xs its.toList
def absV:Value->Option V
 | .none=>some .non
 | .bool b=>some (.bl b)
 | .int i _=>some (.int i)
 | .str x _=>some (.str x)
 | .bytes b _=>some (.byt b)
 | .float b _=>some (.flt b)
 | .ref a=>some (.ref a)
 | .type n=>some (.ty n)
 | _=>none
theorem RelV.abs {x:V}{u:Value}(r:RelV x u):absV u=some x:=by
 cases x with
 | non=>cases r;rfl
 | bl _=>cases r;rfl
 | int _=>obtain⟨t,rfl⟩:=r;rfl
 | str _=>obtain⟨t,rfl⟩:=r;rfl
 | byt _=>obtain⟨t,rfl⟩:=r;rfl
 | flt _=>obtain⟨t,rfl⟩:=r;rfl
 | ref _=>cases r;rfl
 | ty _=>cases r;rfl
theorem RelV.inj {x y:V}{u:Value}(r:RelV x u)(q:RelV y u):x=y:=Option.some.inj (r.abs.symm.trans q.abs)
theorem aZ.inj: ∀{xs ys:List V} {us:List Value},aZ xs us->aZ ys us->xs=ys
 | _,_,_,.nil,.nil=>rfl
 | _,_,_,.cons r t,.cons r' t'=>by rw[r.inj r',aZ.inj t t']
section
variable {X:Cx}{pins:List (Addr×Obj)}{σ:St}{H:Hp}{s:Shared}{a:Addr}{xs ys:List V}
theorem SqL.of {K:Frag}(h:H a=some (.lst xs)):SqL K H a xs:= .inl (.inl h)
theorem SqT.of {K:Frag}(h:H a=some (.tup xs)):SqT K H a xs:= .inl (.inl h)
theorem Inv.list (I:Inv X pins σ H s)(h:SqL X.K H a xs): ∃its:List Value,aZ xs its/\PlainL s.heap a its.toArray/\xs.length<=sizeLine:=by
 rcases h with h| ⟨o,its,n,hk,hc,hd,hs,hz,r⟩
 ·obtain⟨z,its,n,r,e⟩:=h.ok I.hok;exact⟨its,r,⟨_,n,e,rfl,rfl,rfl⟩,z⟩
 ·refine⟨its.toList,r,⟨o,n,I.kIn a o hk,hc,hd,by simpa using hs⟩,?_⟩
  have e:=r.length;simp only[length_toList]at e
  lia
theorem Inv.tuple (I:Inv X pins σ H s)(h:SqT X.K H a xs): ∃its:List Value,aZ xs its/\IsTup s.heap a its.toArray/\xs.length<=sizeLine:=by
 rcases h with h| ⟨o,its,n,hk,hc,hs,hz,r⟩
 ·obtain⟨z,its,r,p⟩:=h.ok I.hok;exact⟨its,r,p,z⟩
 ·refine⟨its.toList,r,⟨o,I.kIn a o hk,hc,n,by simpa using hs⟩,?_⟩
  have e:=r.length;simp only[length_toList]at e
  lia
theorem Inv.list_inj (I:Inv X pins σ H s)(h:SqL X.K H a xs)(h':SqL X.K H a ys):xs=ys:=by
 obtain⟨its,r,⟨o,n,e,_,_,d⟩,_⟩:=I.list h;obtain⟨its',r',⟨o',n',e',_,_,d'⟩,_⟩:=I.list h';rw[e]at e';cases e';rw[d]at d'
 injection d' with d1 _
 have:its=its':=by simpa using congrArg toList d1
 subst this;exact r.inj r'
theorem Inv.tuple_inj (I:Inv X pins σ H s)(h:SqT X.K H a xs)(h':SqT X.K H a ys):xs=ys:=by
 obtain⟨its,r,⟨o,e,_,n,d⟩,_⟩:=I.tuple h;obtain⟨its',r',⟨o',e',_,n',d'⟩,_⟩:=I.tuple h';rw[e]at e';cases e';rw[d]at d'
 injection d' with d1 _
 have:its=its':=by simpa using congrArg toList d1
 subst this;exact r.inj r'
end
abbrev Cx.wish (X:Cx)(E:Value->Shared->Prop):Cx:={X with xe:=E}
abbrev Cx.nox (X:Cx):Cx:=X.wish λ_ _=>False
theorem Cx.Ok.wish {X:Cx}(ok:X.Ok)(E:Value->Shared->Prop):(X.wish E).Ok:=
 ⟨ok.mod,ok.kind,ok.glob,ok.blt,ok.above,ok.inj,ok.has,ok.cab,ok.hd,ok.frames,ok.stk,ok.exf,ok.bs,ok.bsz,ok.noex,ok.exfs,ok.funs,ok.frf⟩
theorem Cx.Ok.unwish {X:Cx}{E:Value->Shared->Prop}(ok:(X.wish E).Ok):X.Ok:=
 ⟨ok.mod,ok.kind,ok.glob,ok.blt,ok.above,ok.inj,ok.has,ok.cab,ok.hd,ok.frames,ok.stk,ok.exf,ok.bs,ok.bsz,ok.noex,ok.exfs,ok.funs,ok.frf⟩
section
variable {X:Cx}{pins:List (Addr×Obj)}{σ:St}{H:Hp}{s:Shared}{E:Value->Shared->Prop}
theorem Inv.wish (I:Inv X pins σ H s)(E:Value->Shared->Prop):Inv (X.wish E) pins σ H s:=⟨I.ok.wish E,I.os,I.bare,I.base,I.loc,I.cell,I.free,I.freeC,I.pin,I.hok,I.len⟩
theorem Inv.unwish (I:Inv (X.wish E) pins σ H s):Inv X pins σ H s:=⟨I.ok.unwish,I.os,I.bare,I.base,I.loc,I.cell,I.free,I.freeC,I.pin,I.hok,I.len⟩
theorem SP.unwish {D:uP}{f:Flow}{s':Shared}(h:SP (X.wish E) pins D f s'):SP X pins D f s':=by
 cases f with
 | next=>obtain⟨σ',H',I,q⟩:=h;exact⟨σ',H',I.unwish,q⟩
 | brk=>obtain⟨σ',H',I,q⟩:=h;exact⟨σ',H',I.unwish,q⟩
 | cont=>obtain⟨σ',H',I,q⟩:=h;exact⟨σ',H',I.unwish,q⟩
 | ret u=>obtain⟨v,σ',H',I,r,q⟩:=h;exact⟨v,σ',H',I.unwish,r,q⟩
theorem PE.nox {e:Expr}{t:TE}(h:PE X.nox e t):PE X e t:=λpins s σ H Q I hw=>
 wpAny_mono (h pins s σ H Q (I.wish _) hw) (λ_ _ ⟨v,H',I',r,q⟩=>⟨v,H',I'.unwish,r,q⟩) λ_ _ z=>False.elim z
theorem PT.nox {e:Expr}{t:TT}(h:PT X.nox e t):PT X e t:=λpins s σ H Q I hw=>
 wpAny_mono (h pins s σ H Q (I.wish _) hw) (λ_ _ ⟨H',I',q⟩=>⟨H',I'.unwish,q⟩) λ_ _ z=>False.elim z
theorem PSs.nox {st:List Stmt}{t:TS}(h:PSs X.nox st t):PSs X st t:=λpins s σ H D I hw=>
 wpAny_mono (h pins s σ H D (I.wish _) hw) (λ_ _ q=>q.unwish) λ_ _ z=>False.elim z
end
section
variable {X:Cx}{st:Stmt}{m4:List Stmt}{t u:TS}{e:Expr}{te:TE}{pos:Pos}
def tNext:TS:=λD σ H=>D.nx σ H
def tSeq (t u:TS):TS:=λD σ H=>t {D with nx:=u D} σ H
theorem xR:PSs X [] tNext:=λ_ _ σ H _ I h=>wpAny_execs_nil ⟨σ,H,I,h⟩
theorem vO (h1:PS X st t)(h2:PSs X m4 u):PSs X (st::m4) (tSeq t u):=by
 intro pins s σ H D I h;refine wpAny_execs_cons (thn (h1 pins s σ H {D with nx:=u D} I h) λf s1 q=> ?_)
 cases f with
 | next=>
  obtain⟨σ',H',I',q⟩:=q;exact h2 pins s1 σ' H' D I' q
 | ret v=>exact q
 | brk=>exact q
 | cont=>exact q
theorem xS (h1:PS X st t):PSs X [st] t:=by
 intro pins s σ H D I h;refine wpAny_execs_cons (thn (h1 pins s σ H D I h) λf s1 q=> ?_)
 cases f with
 | next=>exact wpAny_execs_nil q
 | ret v=>exact q
 | brk=>exact q
 | cont=>exact q
theorem Inv.quiet {pins:List (Addr×Obj)}{σ:St}{H:Hp}{s:Shared}(I:Inv X pins σ H s):interactive X.env=false:=by simp[interactive,I.ok.kind]
def tDrop (te:TE):TS:=λD σ H=>te σ H λ_ H1=>D.nx σ H1
theorem xT (he:PE X e te)(hs:swapsWith e none pos.line X.env=pure false:=by rfl):PS X (.Expr e pos) (tDrop te):=by
 intro pins s σ H D I h;exact wpAny_Expr_any (thn (he pins s σ H _ I h) λv s1 ⟨x,H1,I1,r1,q1⟩=>⟨σ,H1,I1,q1⟩) I.quiet hs
def tRet (te:TE):TS:=λD σ H=>te σ H D.rt
theorem vP (he:PE X e te):PS X (.Return (some e) pos) (tRet te):=by
 intro pins s σ H D I h;exact wpAny_Return_some (thn (he pins s σ H _ I h) λv s1 ⟨x,H1,I1,r1,q1⟩=>⟨x,σ,H1,I1,r1,q1⟩)
def tIfS (c:TT)(t u:TS):TS:=λD σ H=>c σ H λb H1=>if b=true then t D σ H1 else u D σ H1
theorem ps_if {c:Expr}{a b:List Stmt}{tc:TT}(hc:PT X c tc)(ha:PSs X a t)(hb:PSs X b u):PS X (.If c a b pos) (tIfS tc t u):=by
 intro pins s σ H D I h;refine wpAny_If (thn (hc pins s σ H _ I h) λd s1 ⟨H1,I1,q1⟩=> ?_)
 cases d with
 | true=>exact ha pins s1 σ H1 D I1 q1
 | false=>exact hb pins s1 σ H1 D I1 q1
def tNever:TS:=λ_ _ _=>False
theorem vQ:PS X st tNever:=λ_ _ _ _ _ _ h=>h.elim
end
abbrev TG:=V->St->Hp->(St->Hp->Prop)->Prop
abbrev TGs:=List V->St->Hp->(St->Hp->Prop)->Prop
def PG (X:Cx)(target:Expr)(t:TG):Prop:=
 ∀(pins:List (Addr×Obj)) (s:Shared) (σ:St) (H:Hp) (v:V) (u:Value) (Q:St->Hp->Prop),Inv X pins σ H s->RelV v u->t v σ H Q->
  wpAny (model X.prog X.w) X.A (assign target X.env u) (λ_ s'=> ∃σ' H',Inv X pins σ' H' s'/\Q σ' H') X.xe s
def PGs (X:Cx)(ts:List Expr)(t:TGs):Prop:=
 ∀(pins:List (Addr×Obj)) (s:Shared) (σ:St) (H:Hp) (vs:List V) (us:List Value) (Q:St->Hp->Prop),Inv X pins σ H s->aZ vs us->t vs σ H Q->
  wpAny (model X.prog X.w) X.A (assignInOrder ((assignEach ts X.env).map (·.2)) us) (λ_ s'=> ∃σ' H',Inv X pins σ' H' s'/\Q σ' H') X.xe s
abbrev TSet:=V->V->V->Hp->(Hp->Prop)->Prop
section
variable {X:Cx}{pos:Pos}
def tU (i:Nat):TG:=λv σ H Q=>Q (σ.set i (some v)) H
theorem bM {i:Nat}{x:Str}(hN:X.N.Nodup)(hi:X.N[i]? =some x)(hx:Loc X.env.scope x)(hf:X.fn x=true\/X.env.scope.names.lookup x=some .local:=by first|exact .inl rfl|exact .inr rfl|assumption):PG X (.Name x pos) (tU i):=by
 intro pins s σ H v u Q I r h;exact wpAny_assign_Name (rM I hN hi hx r (λs' I'=>⟨_,H,I',h⟩) hf)
def gNil:TGs:=λvs σ H Q=>vs=[]/\Q σ H
def gCons (t:TG)(u:TGs):TGs:=λvs σ H Q=> ∃v r,vs=v::r/\t v σ H λσ' H'=>u r σ' H' Q
theorem xU:PGs X [] gNil:=by
 intro pins s σ H vs us Q I r h;obtain⟨e,h⟩:=h;subst e;cases r;exact assignInOrder_nil ⟨σ,H,I,h⟩
theorem vR {e:Expr}{es:List Expr}{t:TG}{u:TGs}(h1:PG X e t)(h2:PGs X es u)
  (hs:(assignEach (e::es) X.env).map (·.2)=assign e X.env::(assignEach es X.env).map (·.2):=by rfl):PGs X (e::es) (gCons t u):=by
 intro pins s σ H vs us Q I r h;obtain⟨v,vr,e1,h⟩:=h;subst e1;cases r with
 | cons r rr=>
  rw[hs];refine assignInOrder_cons (thn (h1 pins s σ H _ _ _ I r h) λ_ s1 ⟨σ1,H1,I1,q1⟩=> ?_)
  exact h2 pins s1 σ1 H1 _ _ Q I1 rr q1
def gTup (K:Frag)(n:Nat)(t:TGs):TG:=λv σ H Q=> ∃a xs,v= .ref a/\SqT K H a xs/\xs.length=n/\t xs σ H Q
theorem pg_tup {es:List Expr}{k:Nat}{t:TGs}{n:Nat}(hc:X.calm=true)(h:PGs X es t)
  (hn:(assignEach es X.env).length=n:=by rfl) (hst:(assignEach es X.env).findIdx? (·.1)=none:=by rfl):PG X (.Tuple es k pos) (gTup X.K n t):=by
 intro pins s σ H v u Q I r hw;obtain⟨a,xs,e1,hq,hl,hw⟩:=hw;subst e1;cases r;obtain⟨its,rv,ht,hz⟩:=I.tuple hq;refine assign_Tuple_tuple (I.ok.hd hc) ht (by simp[hn,<-hl,rv.length]) hst λh' hx=> ?_
 have I1:Inv X pins σ H {s with heap:=h'}:=I.kept (t':=s.toks) λb o e=>hx b o (ne_of_lt (lt_size e)) e
 exact h pins _ σ H xs _ Q I1 (by simpa using rv) hw
def gSub (to ti:TE)(t:TSet):TG:=λv σ H Q=>to σ H λo H1=>ti σ H1 λi H2=>t o i v H2 λH3=>Q σ H3
def tAsg (te:TE)(g:TG):TS:=λD σ H=>te σ H λx H1=>g x σ H1 D.nx
theorem ps_set {i:Nat}{x:Str}{e:Expr}{te:TE}{pos':Pos}(hN:X.N.Nodup)(hi:X.N[i]? =some x)(hx:Loc X.env.scope x)(he:PE X e te)(hs:swapsWith e (some (.Name x pos')) pos.line X.env=pure false:=by rfl)(hf:X.fn x=true\/X.env.scope.names.lookup x=some .local:=by first|exact .inl rfl|exact .inr rfl|assumption) :
  PS X (.Assign [.Name x pos'] e pos) (tAsg te (tU i)):=by
 intro pins s σ H D I h;refine wpAny_Assign_Name (thn (he pins s σ H _ I h) λv s1 ⟨y,H1,I1,r1,q1⟩=> ?_) hs
 exact rM I1 hN hi hx r1 (λs2 I2=>⟨_,H1,I2,q1⟩) hf
end
structure It where
 go:Nat->Hp->Prop
 yld:Nat->Hp->V->Hp->Prop
 stop:Nat->Hp->Prop
def nR (X:Cx)(pins:List (Addr×Obj))(H:Hp)(b:Addr):Prop:=
 H b=none/\b≠X.env.locals/\b ∉ X.fs/\(b∈X.ex\/X.s₀.heap.objs.size<=b)/\(∀x c,X.env.cells.lookup x=some c->c≠b)/\ ∀p∈X.pn++pins,p.1≠b
theorem Inv.fpOk {X:Cx}{pins:List (Addr×Obj)}{σ:St}{H H':Hp}{s:Shared}{b:Addr}(I:Inv X pins σ H s)(hb:s.heap.objs.size<=b)(hn:H' b=none):nR X pins H' b:=by
 refine⟨hn,Nat.ne_of_gt (lt_of_lt_of_le I.lt hb),I.nofs hb,.inr (le_trans I.sz hb),λx c e z=> ?_,λp hp z=> ?_⟩
 ·obtain⟨v,q⟩:=I.cell x c e;exact absurd (lt_of_lt_of_le q.lt (by rw[z];exact hb)) (lt_irrefl _)
 ·exact absurd (lt_of_lt_of_le (lt_size (I.pin p hp).1) (by rw[z];exact hb)) (lt_irrefl _)
structure vS (P:Program)(w:World)(K:Frag)(tg:Expr)(J:It)(fp:List Addr)(it:Addr)(tn:Nat->Heap->Prop):Prop where
 mem:it∈fp
 obj: ∀i h,tn i h-> ∀b∈fp,∃o,h.get? b=some o/\ ∀v,o.data≠ .cell v
 keep: ∀i h h',tn i h->(∀b∈fp,∀o,h.get? b=some o->h'.get? b=some o)->tn i h'
 item: ∀(X:Cx),X.prog=P->X.w=w->X.K=K->X.calm=true-> ∀(i:Nat) (pins:List (Addr×Obj)) (s:Shared) (σ:St) (H:Hp) (E:Value->Shared->Prop),Inv X pins σ H s->(∀b∈fp,nR X pins H b)->tn i s.heap->J.go i H->
  wpAny (model P w) X.A (pyNext (.ref it)) (λr s1=> ∃u,r=some u/\
   wpAny (model P w) X.A (letOwnedTupleGo tg (.ref it) u) (λ_ s2=> ∃x H',Inv X pins σ H' s2/\RelV x u/\J.yld i H x H'/\tn (i+1) s2.heap/\ ∀b∈fp,H' b=none) E s1) E s
 done: ∀(X:Cx),X.prog=P->X.w=w->X.K=K->X.calm=true-> ∀(i:Nat) (pins:List (Addr×Obj)) (s:Shared) (σ:St) (H:Hp) (E:Value->Shared->Prop),Inv X pins σ H s->(∀b∈fp,nR X pins H b)->tn i s.heap->J.stop i H->
  wpAny (model P w) X.A (pyNext (.ref it)) (λr s1=>r=none/\Inv X pins σ H s1) E s
 self: ∀(A:Around) (i:Nat) (s:Shared) (Q:Value->Shared->Prop) (E:Value->Shared->Prop),tn i s.heap->Q (.ref it) s->wpAny (model P w) A (pyIter (.ref it)) Q E s
abbrev TI:=St->Hp->(It->Hp->Prop)->Prop
def PIE (X:Cx)(pins:List (Addr×Obj))(σ:St)(tg:Expr)(R:It->Hp->Prop)(itv:Value)(s2:Shared):Prop:=
 ∃(it:Addr) (fp:List Addr) (tn:Nat->Heap->Prop) (J:It) (H':Hp),itv= .ref it/\Inv X pins σ H' s2/\vS X.prog X.w X.K tg J fp it tn/\tn 0 s2.heap/\(∀b∈fp,nR X pins H' b)/\R J H'
def PI (X:Cx)(tg iter:Expr)(wi:TI):Prop:=
 ∀(pins:List (Addr×Obj)) (s:Shared) (σ:St) (H:Hp) (R:It->Hp->Prop),Inv X pins σ H s->wi σ H R->
  wpAny (model X.prog X.w) X.A (eval iter X.env) (λv s1=>wpAny (model X.prog X.w) X.A (pyIter v) (PIE X pins σ tg R) X.xe s1) X.xe s
theorem tV {M:Model}{A:Around}{E:Value->Shared->Prop}{s:Shared}{tg:Expr}{it:Addr}{u:Value}{o:Obj}{n:String}{vs:Array Value}{Q:Unit->Shared->Prop}(ho:s.heap.get? it=some o)(hc:o.cls= .type n)(hd:o.data= .fields vs)
  (hn:["enumerate","zip","dict_itemiterator","dict_reverseitemiterator","odict_iterator","itertools.zip_longest","itertools.pairwise"].contains n=false) (hQ:Q () s):wpAny M A (letOwnedTupleGo tg (.ref it) u) Q E s:=by
 unfold letOwnedTupleGo;cases tg<;>first
  | exact wpAny_pure hQ
  | (cases u<;>first
    | exact wpAny_pure hQ
    | (refine wpAny_bind (wpAny_load ho ?_)
       rw[hc,hd];show wpAny M A (if(["enumerate","zip","dict_itemiterator","dict_reverseitemiterator","odict_iterator","itertools.zip_longest","itertools.pairwise"].contains n&&vs[0]? ==some (rawInt _))=true then _ else _) Q E s;rw[if_neg (by intro h;rw[hn,Bool.false_and]at h;cases h)]
       exact wpAny_pure hQ))
def Itl (K:Frag)(a:Addr):It:=
 ⟨λi H=> ∃xs x,SqL K H a xs/\xs[i]? =some x,λi H x H'=>H'=H/\ ∀xs,SqL K H a xs->xs[i]? =some x,λi H=> ∃xs,SqL K H a xs/\xs.length<=i⟩
def Itt (K:Frag)(a:Addr):It:=
 ⟨λi H=> ∃xs x,SqT K H a xs/\xs[i]? =some x,λi H x H'=>H'=H/\ ∀xs,SqT K H a xs->xs[i]? =some x,λi H=> ∃xs,SqT K H a xs/\xs.length<=i⟩
def Itr (lo:Int)(n:Nat):It:=⟨λi _=>i<n,λi H x H'=>H'=H/\x= .int (lo+i),λi _=>n<=i⟩
theorem uR {P:Program}{w:World}{K:Frag}{tg:Expr}(a it:Addr):vS P w K tg (Itl K a) [it] it (λi h=>h.IsListIter it a i) where
 mem:=by simp
 obj:=λi h st b hb=>by
  have e:b=it:=by simpa using hb
  subst e;obtain⟨o,e,c,d⟩:=st;exact⟨o,e,λv z=>by rw[d]at z;cases z⟩
 keep:=λi h h' st k=>st.at λo e=>k it (by simp) o e
 item:=by
  intro X hP hw hK hc i pins s σ H E I hf st hg;subst hP hw hK;obtain⟨xs,x,hq,hx⟩:=hg;obtain⟨its,rv,p,hz⟩:=I.list hq;obtain⟨u,hu,ru⟩:=rv.get hx;obtain⟨f0,f1,f2,f3,f4,f5⟩:=hf it (by simp)
  refine wpAny_pyNext_list_item st p.isList (x:=u) (by simpa using hu) λh' st' sb=> ?_
  have I1:Inv X pins σ H {s with heap:=h'}:=I.turned (t':=s.toks) (λb o hb e=>(sb.2 b hb).trans e) f0 f1 f3 f4 f5
  obtain⟨o,e,c,d⟩:=id st';exact⟨u,rfl,tV (s:={s with heap:=h'}) e c d (by decide) ⟨x,H,I1,ru,⟨rfl,λys hy=>by rw[I.list_inj hy hq];exact hx⟩,st',λb hb=>(hf b hb).1⟩⟩
 done:=by
  intro X hP hw hK hc i pins s σ H E I hf st hg;subst hP hw hK;obtain⟨xs,hq,hx⟩:=hg;obtain⟨its,rv,p,hz⟩:=I.list hq;obtain⟨f0,f1,f2,f3,f4,f5⟩:=hf it (by simp)
  have hl:=rv.length;exact wpAny_pyNext_list_end (I.ok.hd hc) st p.isList (by simp;lia) λh' eb=>⟨rfl,I.turned (t':=s.toks) (λb o hb e=>eb b o hb e) f0 f1 f3 f4 f5⟩
 self:=λ_ _ _ _ _ st h=>wpAny_pyIter_listiter st h
theorem sR {P:Program}{w:World}{K:Frag}{tg:Expr}(a it:Addr):vS P w K tg (Itt K a) [it] it (λi h=>h.IsTupleIter it a i) where
 mem:=by simp
 obj:=λi h st b hb=>by
  have e:b=it:=by simpa using hb
  subst e;obtain⟨o,e,c,d⟩:=st;exact⟨o,e,λv z=>by rw[d]at z;cases z⟩
 keep:=λi h h' st k=>st.at λo e=>k it (by simp) o e
 item:=by
  intro X hP hw hK hc i pins s σ H E I hf st hg;subst hP hw hK;obtain⟨xs,x,hq,hx⟩:=hg;obtain⟨its,rv,p,hz⟩:=I.tuple hq;obtain⟨u,hu,ru⟩:=rv.get hx;obtain⟨f0,f1,f2,f3,f4,f5⟩:=hf it (by simp)
  refine wpAny_pyNext_tuple_item st (show s.heap.IsTuple a its.toArray from p) (x:=u) (by simpa using hu) λh' st' sb=> ?_
  have I1:Inv X pins σ H {s with heap:=h'}:=I.turned (t':=s.toks) (λb o hb e=>(sb.2 b hb).trans e) f0 f1 f3 f4 f5
  obtain⟨o,e,c,d⟩:=id st';exact⟨u,rfl,tV (s:={s with heap:=h'}) e c d (by decide) ⟨x,H,I1,ru,⟨rfl,λys hy=>by rw[I.tuple_inj hy hq];exact hx⟩,st',λb hb=>(hf b hb).1⟩⟩
 done:=by
  intro X hP hw hK hc i pins s σ H E I hf st hg;subst hP hw hK;obtain⟨xs,hq,hx⟩:=hg;obtain⟨its,rv,p,hz⟩:=I.tuple hq;obtain⟨f0,f1,f2,f3,f4,f5⟩:=hf it (by simp)
  have hl:=rv.length;exact wpAny_pyNext_tuple_end (I.ok.hd hc) st (show s.heap.IsTuple a its.toArray from p) (by simp;lia) λh' eb=>⟨rfl,I.turned (t':=s.toks) (λb o hb e=>eb b o hb e) f0 f1 f3 f4 f5⟩
 self:=λ_ _ _ _ _ st h=>wpAny_pyIter_tupleiter st h
theorem sS {P:Program}{w:World}{K:Frag}{tg:Expr}(it:Addr)(lo:Int)(n:Nat):vS P w K tg (Itr lo n) [it] it (λi h=>IsRangeIter h it (lo+(i:Nat)*1) ((n:Int)-(i:Nat)) 1) where
 mem:=by simp
 obj:=λi h st b hb=>by
  have e:b=it:=by simpa using hb
  subst e;exact⟨_,st,λv z=>by
   have z':Data.fields _=Data.cell v:=z;cases z'⟩
 keep:=λi h h' st k=>k it (by simp) _ st
 item:=by
  intro X hP hw hK hc i pins s σ H E I hf st hg;subst hP hw hK;obtain⟨f0,f1,f2,f3,f4,f5⟩:=hf it (by simp)
  have W:=Walks.range (prog:=X.prog) (w:=X.w) (I.ok.hd hc) it lo 1 n;refine W.item i s _ _ hg st λv h' tk hv st' kk=> ?_
  obtain⟨t,rfl⟩:=hv;have I1:Inv X pins σ H {s with heap:=h',toks:=tk}:=I.turned (λb o hb e=>kk b o (by simpa using hb) e) f0 f1 f3 f4 f5
  refine⟨_,rfl,tV (s:={s with heap:=h',toks:=tk}) (n:="range_iterator") st' rfl rfl (by decide) ⟨.int (lo+i),H,I1,⟨t,?_⟩,⟨rfl,rfl⟩,st',λb hb=>(hf b hb).1⟩⟩
  rw[Int.mul_one]
 done:=by
  intro X hP hw hK hc i pins s σ H E I hf st hg;subst hP hw hK;obtain⟨f0,f1,f2,f3,f4,f5⟩:=hf it (by simp)
  exact wpAny_pyNext_range_end (I.ok.hd hc) st (by have:n<=i:=hg;lia) λh' eb=>⟨rfl,I.turned (t':=s.toks) (λb o hb e=>eb b o hb e) f0 f1 f3 f4 f5⟩
 self:=λ_ _ _ _ _ st h=>wpAny_pyIter_rangeiter st h
end L2
namespace L2
open PySem PySem.Spec PyProof.Rows
section
variable {X:Cx}{tg:Expr}
theorem vT {pins:List (Addr×Obj)}{σ:St}{H:Hp}{s:Shared}{R:It->Hp->Prop}{E:Value->Shared->Prop}{lo hi:Int}{t u v:Tok}{tk:Nat}(I:Inv X pins σ H s)(h1: -(2^62)<=lo)(h2:lo<2^62)(h3: -(2^62)<=hi)(h4:hi<2^62)
  (q:R (Itr lo (hi-lo).toNat) H):wpAny (model X.prog X.w) X.A (pyIter (.ref s.heap.objs.size)) (PIE X pins σ tg R) E {s with heap:=s.heap.push {cls:= .type "range",data:= .fields #[.int lo t,.int hi u,.int 1 v]},toks:=tk}:=by
 refine wpAny_pyIter_range (IsRange.new ..) (small_one h1 h2 h3 h4) ?_
 have I1:Inv X pins σ H {s with heap:=s.heap.push {cls:= .type "range",data:= .fields #[.int lo t,.int hi u,.int 1 v]},toks:=tk}:=I.kept λb o e=>get?_push_of_some _ e
 refine⟨(s.heap.push {cls:= .type "range",data:= .fields #[.int lo t,.int hi u,.int 1 v]}).objs.size,[(s.heap.push {cls:= .type "range",data:= .fields #[.int lo t,.int hi u,.int 1 v]}).objs.size],_,_,H,rfl,
  I1.kept (t':=tk) λb o e=>get?_push_of_some _ e,sS _ lo (hi-lo).toNat,?_,λb hb=> ?_,q⟩
 ·have e1:lo+((0:Nat):Int)*1=lo:=by simp
  have e2:(((hi-lo).toNat:Nat):Int)-((0:Nat):Int)=Builtin.Range.rangeSize lo hi 1:=by rw[rangeSize_one];split<;>lia
  show IsRangeIter _ _ (lo+((0:Nat):Int)*1) ((((hi-lo).toNat:Nat):Int)-((0:Nat):Int)) 1
  rw[e1,e2];exact get?_push_size _ rfl
 ·have e:b=(s.heap.push {cls:= .type "range",data:= .fields #[.int lo t,.int hi u,.int 1 v]}).objs.size:=by simpa using hb
  subst e;exact I1.fpOk (le_refl _) (I1.hok.fresh (le_refl _))
def iRng1 (ta:TA):TI:=λσ H R=>ta σ H λvs H1=> ∃j:Int,vs=[.int j]/\ -(2^62)<=j/\j<2^62/\R (Itr 0 j.toNat) H1
theorem uS {a:Expr}{ta:TA}{p pos:Pos}(hg:Gl X "range")(hm:X.mg "range"=none)(ha:PA X [a] ta)(hs:starEach [a] X.env=[(false,eval a X.env)]:=by rfl):PI X tg (.Call (.Name "range" p) [a] [] pos) (iRng1 ta):=by
 intro pins s σ H R I h;refine Call_ (qD I hg hm boot_range (PyProof.Rows.callWith_type1 (thn (ha pos pins s σ H _ I h) λus s1 ⟨vs,H1,I1,r1,q1⟩=> ?_) hs rfl))
 obtain⟨j,e,q1,q2,q⟩:=q1;subst e;cases r1 with
 | cons r rr=>
  cases rr;obtain⟨t,rfl⟩:=r;exact call_range_1 (vT I1 (by lia) (by lia) q1 q2 (by simpa using q))
def tFor (wi:TI)(g:TG)(tb:TS):TS:=λD σ H=>wi σ H λJ H1=> ∃W:Nat->Nat->St->Hp->Prop,(∃m,W 0 m σ H1)/\ ∀i m σ H,W i m σ H->
 (J.stop i H/\D.nx σ H)\/(J.go i H/\ ∃N:St->Hp->Prop,(∀σ' H',N σ' H'-> ∃m',m'<m/\W (i+1) m' σ' H')/\ ∀x H',J.yld i H x H'->g x σ H' λσ2 H2=>tb {D with nx:=N,ct:=N,bk:=D.nx} σ2 H2)
def nS (fp:List Addr)(h:Heap):List (Addr×Obj):=fp.filterMap λb=>(h.get? b).map λo=>(b,o)
theorem iK {fp:List Addr}{h:Heap}{b:Addr}{o:Obj}(hb:b∈fp)(e:h.get? b=some o):(b,o)∈nS fp h:=List.mem_filterMap.mpr ⟨b,hb,by rw[e];rfl⟩
theorem uT {fp:List Addr}{h:Heap}{p:Addr×Obj}(hp:p∈nS fp h):p.1∈fp/\h.get? p.1=some p.2:=by
 obtain⟨b,hb,e⟩:=List.mem_filterMap.mp hp;cases q:h.get? b with
 | none=>rw[q]at e;cases e
 | some o=>
  rw[q]at e;have e':(b,o)=p:=Option.some.inj e;subst e';exact⟨hb,q⟩
theorem Inv.pinned {pins:List (Addr×Obj)}{σ:St}{H:Hp}{s:Shared}{fp:List Addr}(I:Inv X pins σ H s)(hf: ∀b∈fp,nR X pins H b)(ho: ∀b∈fp,∃o,s.heap.get? b=some o/\ ∀v,o.data≠ .cell v):Inv X (pins++nS fp s.heap) σ H s:=
 I.pins_of λp hp=>(List.mem_append.mp hp).elim (λz=>I.pin p (mem_append_right _ z)) λz=>by
  obtain⟨hb,e⟩:=uT z;obtain⟨f0,f1,f2,_⟩:=hf p.1 hb;obtain⟨o,e',d⟩:=ho p.1 hb;rw[e]at e';cases e';exact⟨e,f0,f1,f2,d⟩
theorem Inv.unpinned {pins pl:List (Addr×Obj)}{σ:St}{H:Hp}{s:Shared}(I:Inv X (pins++pl) σ H s):Inv X pins σ H s:=I.pins_of λp hp=>I.pin p (mem_append_right _ (List.mem_append_left _ hp))
theorem ps_for {iter:Expr}{body:List Stmt}{wi:TI}{g:TG}{tb:TS}{pos:Pos}(hp:PassesOwn (model X.prog X.w) X.A X.env X.xe)(hc:X.calm=true)(hi:PI X tg iter wi)(hg:PG X tg g)(hb:PSs X body tb)
  (hs: ∀x,foldedSetIterable iter X.env x=pure x:=by intro _;rfl):PS X (.For tg iter body [] pos) (tFor wi g tb):=by
 intro pins s σ H D I h;refine wpAny_For (thn (hi pins s σ H _ I h) λv s1 h1=>thn h1 λitv s2 h2=> ?_) hs
 obtain⟨it,fp,tn,J,H2,e,I2,T,st2,f2,W,⟨m0,w0⟩,turn⟩:=h2;subst e;have stat: ∀{H':Hp},(∀b∈fp,H' b=none)-> ∀b∈fp,nR X pins H' b:=λhn b hb=>⟨hn b hb,(f2 b hb).2⟩
 refine codeAny_forLoop_any (λn s'=> ∃i σ' H',Inv X pins σ' H' s'/\tn i s'.heap/\(∀b∈fp,H' b=none)/\W i n σ' H') ?_ m0 ⟨0,σ,H2,I2,st2,λb hb=>(f2 b hb).1,w0⟩
 rintro n s3 ⟨i,σ3,H3,I3,st3,fr3,w3⟩;rcases turn i n σ3 H3 w3 with⟨stop,qn⟩| ⟨go,N,hN,step⟩
 ·refine wpAny_passesOwn hp (thn (T.done X rfl rfl rfl hc i pins s3 σ3 H3 X.xe I3 (stat fr3) st3 stop) λr s4 ⟨hr,I4⟩=> ?_)
  subst hr;exact wpAny_execs_nil ⟨σ3,H3,I4,qn⟩
 ·refine wpAny_passesOwn hp (thn (T.item X rfl rfl rfl hc i pins s3 σ3 H3 X.xe I3 (stat fr3) st3 go) λr s4 ⟨u,hr,h4⟩=> ?_)
  subst hr;refine wpAny_passesOwn hp (thn h4 λ_ s5 ⟨x,H5,I5,r5,y5,st5,fr5⟩=> ?_)
  have I5':=I5.pinned (stat fr5) (T.obj _ _ st5);refine wpAny_passesOwn hp (thn (hg _ s5 σ3 H5 x u _ I5' r5 (step x H5 y5)) λ_ s6 ⟨σ6,H6,I6,q6⟩=> ?_)
  refine wpAny_passesOwn hp (thn (hb _ s6 σ6 H6 _ I6 q6) λf s7 q7=> ?_)
  have again: ∀{σ7:St} {H7:Hp},Inv X (pins++nS fp s5.heap) σ7 H7 s7->N σ7 H7-> ∃m,m<n/\ ∃i σ' H',Inv X pins σ' H' s7/\tn i s7.heap/\(∀b∈fp,H' b=none)/\W i m σ' H':=λ{σ7 H7} I7 n7=>by
   obtain⟨m',hm,w7⟩:=hN σ7 H7 n7;refine⟨m',hm,i+1,σ7,H7,I7.unpinned,T.keep _ _ _ st5 λb hb o e=>(I7.pin (b,o) (mem_append_right _ (mem_append_right _ (iK hb e)))).1,λb hb=> ?_,w7⟩
   obtain⟨o,e,d⟩:=T.obj _ _ st5 b hb;exact(I7.pin (b,o) (mem_append_right _ (mem_append_right _ (iK hb e)))).2.1
  cases f with
  | next=>obtain⟨σ7,H7,I7,n7⟩:=q7;exact again I7 n7
  | cont=>obtain⟨σ7,H7,I7,n7⟩:=q7;exact again I7 n7
  | brk=>obtain⟨σ7,H7,I7,q7⟩:=q7;exact⟨σ7,H7,I7.unpinned,q7⟩
  | ret v=>obtain⟨x7,σ7,H7,I7,r7,q7⟩:=q7;exact⟨x7,σ7,H7,I7.unpinned,r7,q7⟩
end
end L2
namespace L2
open PySem PySem.Spec PyProof.Rows
abbrev R2:=V->V->Hp->VK->Prop
def OpR (X:Cx)(f:Value->Value->Sem Value)(r:R2):Prop:=
 ∀(pins:List (Addr×Obj)) (s:Shared) (σ:St) (H:Hp) (x y:V) (v u:Value) (Q:VK),Inv X pins σ H s->RelV x v->RelV y u->r x y H Q->
  wpAny (model X.prog X.w) X.A (f v u) (EP X pins σ Q) X.xe s
def UnR (X:Cx)(f:Value->Sem Value)(r:V->Hp->VK->Prop):Prop:=
 ∀(pins:List (Addr×Obj)) (s:Shared) (σ:St) (H:Hp) (x:V) (v:Value) (Q:VK),Inv X pins σ H s->RelV x v->r x H Q->
  wpAny (model X.prog X.w) X.A (f v) (EP X pins σ Q) X.xe s
def eD (X:Cx)(f:Value)(r:List V->Hp->VK->Prop):Prop:=
 ∀(pins:List (Addr×Obj)) (s:Shared) (σ:St) (H:Hp) (xs:List V) (us:List Value) (Q:VK),Inv X pins σ H s->aZ xs us->r xs H Q->
  wpAny (model X.prog X.w) X.A (call f us) (EP X pins σ Q) X.xe s
def tOp (r:R2)(ta tb:TE):TE:=λσ H Q=>ta σ H λx H1=>tb σ H1 λy H2=>r x y H2 Q
def tUn (r:V->Hp->VK->Prop)(ta:TE):TE:=λσ H Q=>ta σ H λx H1=>r x H1 Q
def rI (C:Int->Int->Prop)(g:Int->Int->V):R2:=λx y H Q=> ∃i j,x= .int i/\y= .int j/\C i j/\Q (g i j) H
def rI0 (g:Int->Int->V):R2:=λx y H Q=> ∃i j,x= .int i/\y= .int j/\Q (g i j) H
def rU (g:Int->V):V->Hp->VK->Prop:=λx H Q=> ∃i,x= .int i/\Q (g i) H
section
variable {X:Cx}{a b c:Expr}{ta tb tc:TE}{pos:Pos}
theorem binT (ha:PE X a ta)(hb:PE X b tb){pins:List (Addr×Obj)}{s:Shared}{σ:St}{H:Hp}{R:V->V->Hp->Prop}(I:Inv X pins σ H s)
  (h:ta σ H λx H1=>tb σ H1 λy H2=>R x y H2) {Q:Value->Shared->Prop} {f:Value->Value->Sem Value}
  (hf: ∀v u s2 x y H2,Inv X pins σ H2 s2->RelV x v->RelV y u->R x y H2->wpAny (model X.prog X.w) X.A (f v u) Q X.xe s2) :
  wpAny (model X.prog X.w) X.A (eval a X.env) (λv s₁=>wpAny (model X.prog X.w) X.A (eval b X.env) (λu s₂=>wpAny (model X.prog X.w) X.A (f v u) Q X.xe s₂) X.xe s₁) X.xe s:=by
 refine thn (ha pins s σ H _ I h) λv s1 ⟨x,H1,I1,r1,q1⟩=> ?_
 refine thn (hb pins s1 σ H1 _ I1 q1) λu s2 ⟨y,H2,I2,r2,q2⟩=> ?_
 exact hf v u s2 x y H2 I2 r1 r2 q2
theorem pe_op {op:Operator}{r:R2}(ho:OpR X (binaryOp op) r)(ha:PE X a ta)(hb:PE X b tb):PE X (.BinOp a op b pos) (tOp r ta tb):=by
 intro pins s σ H Q I h;exact wpAny_BinOp (binT ha hb I h λv u s2 x y H2 I2 rx ry q=>ho pins s2 σ H2 x y v u Q I2 rx ry q)
theorem pe_un {op:UnaryOp}{r:V->Hp->VK->Prop}(ho:UnR X (unaryOp op) r)(ha:PE X a ta):PE X (.UnaryOp op a pos) (tUn r ta):=by
 intro pins s σ H Q I h;exact UnaryOp_ (thn (ha pins s σ H _ I h) λv s1 ⟨x,H1,I1,r1,q1⟩=>ho pins s1 σ H1 x v Q I1 r1 q1)
theorem opI {f:Value->Value->Sem Value}{C:Int->Int->Prop}{g:Int->Int->Int}
  (rule: ∀(i j:Int) (t u:Tok) (s:Shared) (Q:Value->Shared->Prop) (E:Value->Shared->Prop),C i j->Q (.int (g i j) s.toks) {s with toks:=s.toks+1}->wpAny (model X.prog X.w) X.A (f (.int i t) (.int j u)) Q E s) :
  OpR X f (rI C λi j=> .int (g i j)):=by
 intro pins s σ H x y v u Q I rx ry h;obtain⟨i,j,rfl,rfl,hc,q⟩:=h;obtain⟨t,rfl⟩:=rx;obtain⟨t',rfl⟩:=ry;exact rule i j t t' s _ _ hc ⟨.int (g i j),H,I.tok _,⟨_,rfl⟩,q⟩
theorem opI0 {f:Value->Value->Sem Value}{g:Int->Int->Int}
  (rule: ∀(i j:Int) (t u:Tok) (s:Shared) (Q:Value->Shared->Prop) (E:Value->Shared->Prop),Q (.int (g i j) s.toks) {s with toks:=s.toks+1}->wpAny (model X.prog X.w) X.A (f (.int i t) (.int j u)) Q E s) :
  OpR X f (rI0 λi j=> .int (g i j)):=by
 intro pins s σ H x y v u Q I rx ry h;obtain⟨i,j,rfl,rfl,q⟩:=h;obtain⟨t,rfl⟩:=rx;obtain⟨t',rfl⟩:=ry;exact rule i j t t' s _ _ ⟨.int (g i j),H,I.tok _,⟨_,rfl⟩,q⟩
theorem opB0 {f:Value->Value->Sem Value}{g:Int->Int->Bool}
  (rule: ∀(i j:Int) (t u:Tok) (s:Shared) (Q:Value->Shared->Prop) (E:Value->Shared->Prop),Q (.bool (g i j)) s->wpAny (model X.prog X.w) X.A (f (.int i t) (.int j u)) Q E s) :
  OpR X f (rI0 λi j=> .bl (g i j)):=by
 intro pins s σ H x y v u Q I rx ry h;obtain⟨i,j,rfl,rfl,q⟩:=h;obtain⟨t,rfl⟩:=rx;obtain⟨t',rfl⟩:=ry;exact rule i j t t' s _ _ ⟨.bl (g i j),H,I,rfl,q⟩
def xV (i j:Int):Prop:=0<=j/\j<=1000000/\i.natAbs<2^64
def sT (i j:Int):Prop:=(-(2^64)<i/\i<2^64)\/(-(2^64)<j/\j<2^64)
theorem sT.ok {i j:Int}(h:sT i j):IntMulOk i j:=by
 rcases h with⟨h1,h2⟩| ⟨h1,h2⟩
 ·exact .of_left (intBits_le_64 h1 h2)
 ·exact .of_right (intBits_le_64 h1 h2)
theorem op_add:OpR X (binaryOp .Add) (rI0 λi j=> .int (i+j)):=opI0 λ_ _ _ _ _ _ _ q=>add_int q
theorem op_sub:OpR X (binaryOp .Sub) (rI0 λi j=> .int (i-j)):=opI0 λ_ _ _ _ _ _ _ q=>sub_int q
theorem xW:OpR X (binaryOp .Mod) (rI (λ_ j=>j≠0) λi j=> .int (i.fmod j)):=opI λ_ _ _ _ _ _ _ hc q=>mod_int' hc q
theorem op_pow:OpR X (binaryOp .Pow) (rI xV λi j=> .int (i^j.toNat)):=opI λ_ _ _ _ _ _ _ hc q=>pow_int_small hc.1 hc.2.1 hc.2.2 q
theorem unI {f:Value->Sem Value}{g:Int->Int}
  (rule: ∀(i:Int) (t:Tok) (s:Shared) (Q:Value->Shared->Prop) (E:Value->Shared->Prop),Q (.int (g i) s.toks) {s with toks:=s.toks+1}->wpAny (model X.prog X.w) X.A (f (.int i t)) Q E s) :
  UnR X f (rU λi=> .int (g i)):=by
 intro pins s σ H x v Q I rx h;obtain⟨i,rfl,q⟩:=h;obtain⟨t,rfl⟩:=rx;exact rule i t s _ _ ⟨.int (g i),H,I.tok _,⟨_,rfl⟩,q⟩
theorem un_neg:UnR X (unaryOp .USub) (rU λi=> .int (-i)):=unI λ_ _ _ _ _ q=>neg_int q
end
def scal:V->V->Bool
 | .non,.non=>true| .non,.int _=>true| .int _,.non=>true| .non,.bl _=>true| .bl _,.non=>true| .non,.str _=>true| .str _,.non=>true
 | .int _,.int _=>true| .bl _,.bl _=>true| .str _,.str _=>true| .byt _,.byt _=>true
 | .int _,.str _=>true| .str _,.int _=>true| .bl _,.str _=>true| .str _,.bl _=>true
 | _,_=>false
def rEq:R2:=λx y H Q=>scal x y=true/\Q (.bl (decide (x=y))) H
def rNe:R2:=λx y H Q=>scal x y=true/\Q (.bl (!decide (x=y))) H
theorem nK {i j:Int}:decide (V.int i=V.int j)=(i==j):=by
 rw[Bool.eq_iff_iff];simp
theorem qE {i j:Bool}:decide (V.bl i=V.bl j)=(i==j):=by
 rw[Bool.eq_iff_iff];simp
theorem nL {i j:Str}:decide (V.str i=V.str j)=(i==j):=by
 rw[Bool.eq_iff_iff];simp
theorem tW {i j:Array UInt8}:decide (V.byt i=V.byt j)=(i.toList==j.toList):=by
 rw[Bool.eq_iff_iff];cases i;cases j;simp
section
variable {X:Cx}{a b c:Expr}{ta tb tc:TE}{pos:Pos}
theorem bJ {pins:List (Addr×Obj)}{σ:St}{H:Hp}{s:Shared}{Q:VK}{k k':Bool}(I:Inv X pins σ H s)(q:Q (.bl k) H)(e:k=k'):EP X pins σ Q (.bool k') s:=by
 subst e;exact⟨.bl k,H,I,rfl,q⟩
theorem vU:OpR X (compareOp .Eq) rEq:=by
 intro pins s σ H x y v u Q I rx ry h;obtain⟨hs,q⟩:=h;cases x with
 | non=>
  cases rx;cases y with
  | non=>cases ry;exact PySem.EqNone.eq_none_none (bJ I q (by simp))
  | bl j=>cases ry;exact PySem.EqNone.eq_none_bool (bJ I q (by simp))
  | int j=>obtain⟨t',rfl⟩:=ry;exact PySem.EqNone.eq_none_int (bJ I q (by simp))
  | str j=>obtain⟨t',rfl⟩:=ry;exact PySem.EqNone.eq_none_str (bJ I q (by simp))
  | _=>exact absurd (show false=true from hs) Bool.false_ne_true
 | bl i=>
  cases rx;cases y with
  | non=>cases ry;exact PySem.EqNone.eq_bool_none (bJ I q (by simp))
  | bl j=>cases ry;exact eq_bool (bJ I q qE)
  | str j=>obtain⟨t',rfl⟩:=ry;exact PySem.EqMixed.eq_bool_str (bJ I q (by simp))
  | _=>exact absurd (show false=true from hs) Bool.false_ne_true
 | int i=>
  obtain⟨t,rfl⟩:=rx;cases y with
  | non=>cases ry;exact PySem.EqNone.eq_int_none (bJ I q (by simp))
  | int j=>obtain⟨t',rfl⟩:=ry;exact eq_int (bJ I q nK)
  | str j=>obtain⟨t',rfl⟩:=ry;exact PySem.EqMixed.eq_int_str (bJ I q (by simp))
  | _=>exact absurd (show false=true from hs) Bool.false_ne_true
 | str i=>
  obtain⟨t,rfl⟩:=rx;cases y with
  | non=>cases ry;exact PySem.EqNone.eq_str_none (bJ I q (by simp))
  | bl j=>cases ry;exact PySem.EqMixed.eq_str_bool (bJ I q (by simp))
  | int j=>obtain⟨t',rfl⟩:=ry;exact PySem.EqMixed.eq_str_int (bJ I q (by simp))
  | str j=>obtain⟨t',rfl⟩:=ry;exact eq_str (bJ I q nL)
  | _=>exact absurd (show false=true from hs) Bool.false_ne_true
 | byt i=>
  obtain⟨t,rfl⟩:=rx;cases y with
  | byt j=>obtain⟨t',rfl⟩:=ry;exact PySem.W.eq_bytes (bJ I q tW)
  | _=>exact absurd (show false=true from hs) Bool.false_ne_true
 | _=>cases y<;>exact absurd (show false=true from hs) Bool.false_ne_true
theorem vV:OpR X (compareOp .NotEq) rNe:=by
 intro pins s σ H x y v u Q I rx ry h;obtain⟨hs,q⟩:=h;cases x with
 | non=>
  cases rx;cases y with
  | non=>cases ry;exact PySem.EqNone.ne_none_none (bJ I q (by simp))
  | bl j=>cases ry;exact PySem.EqNone.ne_none_bool (bJ I q (by simp))
  | int j=>obtain⟨t',rfl⟩:=ry;exact PySem.EqNone.ne_none_int (bJ I q (by simp))
  | str j=>obtain⟨t',rfl⟩:=ry;exact PySem.EqNone.ne_none_str (bJ I q (by simp))
  | _=>exact absurd (show false=true from hs) Bool.false_ne_true
 | bl i=>
  cases rx;cases y with
  | non=>cases ry;exact PySem.EqNone.ne_bool_none (bJ I q (by simp))
  | bl j=>cases ry;exact ne_bool (bJ I q (congrArg not qE))
  | str j=>obtain⟨t',rfl⟩:=ry;exact PySem.EqMixed.ne_bool_str (bJ I q (by simp))
  | _=>exact absurd (show false=true from hs) Bool.false_ne_true
 | int i=>
  obtain⟨t,rfl⟩:=rx;cases y with
  | non=>cases ry;exact PySem.EqNone.ne_int_none (bJ I q (by simp))
  | int j=>obtain⟨t',rfl⟩:=ry;exact ne_int (bJ I q (congrArg not nK))
  | str j=>obtain⟨t',rfl⟩:=ry;exact PySem.EqMixed.ne_int_str (bJ I q (by simp))
  | _=>exact absurd (show false=true from hs) Bool.false_ne_true
 | str i=>
  obtain⟨t,rfl⟩:=rx;cases y with
  | non=>cases ry;exact PySem.EqNone.ne_str_none (bJ I q (by simp))
  | bl j=>cases ry;exact PySem.EqMixed.ne_str_bool (bJ I q (by simp))
  | int j=>obtain⟨t',rfl⟩:=ry;exact PySem.EqMixed.ne_str_int (bJ I q (by simp))
  | str j=>obtain⟨t',rfl⟩:=ry;exact ne_str (bJ I q (congrArg not nL))
  | _=>exact absurd (show false=true from hs) Bool.false_ne_true
 | byt i=>
  obtain⟨t,rfl⟩:=rx;cases y with
  | byt j=>obtain⟨t',rfl⟩:=ry;exact PySem.W.ne_bytes (bJ I q (congrArg not tW))
  | _=>exact absurd (show false=true from hs) Bool.false_ne_true
 | _=>cases y<;>exact absurd (show false=true from hs) Bool.false_ne_true
theorem op_lt:OpR X (compareOp .Lt) (rI0 λi j=> .bl (decide (i<j))):=opB0 λ_ _ _ _ _ _ _ q=>lt_int q
theorem op_gt:OpR X (compareOp .Gt) (rI0 λi j=> .bl (decide (j<i))):=opB0 λ_ _ _ _ _ _ _ q=>gt_int q
theorem op_ge:OpR X (compareOp .GtE) (rI0 λi j=> .bl (decide (j<=i))):=opB0 λ_ _ _ _ _ _ _ q=>ge_int q
theorem uU:OpR X (compareOp .In) (λx y H Q=> ∃i j,x= .str i/\y= .str j/\Q (.bl (!(Builtin.Str.occurrences j i 0 j.length 1).isEmpty)) H):=by
 intro pins s σ H x y v u Q I rx ry h;obtain⟨i,j,rfl,rfl,q⟩:=h;obtain⟨t,rfl⟩:=rx;obtain⟨t',rfl⟩:=ry;exact in_str (bJ I q rfl)
theorem OpR.or {f:Value->Value->Sem Value}{r r':R2}(h:OpR X f r)(h':OpR X f r'):OpR X f (λx y H Q=>r x y H Q\/r' x y H Q):=by
 intro pins s σ H x y v u Q I rx ry q;rcases q with q|q
 ·exact h pins s σ H x y v u Q I rx ry q
 ·exact h' pins s σ H x y v u Q I rx ry q
theorem bC (b:Expr){op:CmpOp}(h:op≠ .In:=by decide)(h2:op≠ .NotIn:=by decide):behindInMarks op b=false:=by
 have e1:(op==CmpOp.In)=false:=by cases op<;>first|rfl|exact absurd rfl h
 have e2:(op==CmpOp.NotIn)=false:=by cases op<;>first|rfl|exact absurd rfl h2
 cases b<;>simp[behindInMarks,e1,e2]
theorem xX {op:CmpOp}{r:R2}(ho:OpR X (compareOp op) r)(ha:PE X a ta)(hb:PE X b tb)(hm:behindInMarks op b=false):PE X (.Compare a [op] [b] pos) (tOp r ta tb):=by
 intro pins s σ H Q I h;exact wpAny_Compare1 (binT ha hb I h λv u s2 x y H2 I2 rx ry q=>ho pins s2 σ H2 x y v u Q I2 rx ry q) hm
def tTest (t:TE):TT:=λσ H Q=>t σ H λx H'=> ∃k,x= .bl k/\Q k H'
theorem xY {op:CmpOp}{r:R2}(ho:OpR X (compareOp op) r)(ha:PE X a ta)(hb:PE X b tb)(hm:behindInMarks op b=false):PT X (.Compare a [op] [b] pos) (tTest (tOp r ta tb)):=by
 intro pins s σ H Q I h;refine wpAny_isTrue_Compare1 (thn (ha pins s σ H _ I h) λv s1 ⟨x,H1,I1,r1,q1⟩=>thn (hb pins s1 σ H1 _ I1 q1) λu s2 ⟨y,H2,I2,r2,q2⟩=>
  thn (ho pins s2 σ H2 x y v u _ I2 r1 r2 q2) λc s3 ⟨z,H3,I3,r3,k,e,q3⟩=> ?_) hm
 subst e;cases r3;exact wpAny_truthy_bool ⟨H3,I3,q3⟩
theorem nT:(sizeLine:Nat)<2^63:=by rw[sizeLine_eq];decide
theorem sU:OpR X (binaryOp .Add) (λx y H Q=> ∃i j,x= .str i/\y= .str j/\i.length+j.length<=sizeLine/\Q (.str (i++j)) H):=by
 intro pins s σ H x y v u Q I rx ry h;obtain⟨i,j,rfl,rfl,hz,q⟩:=h;obtain⟨t,rfl⟩:=rx;obtain⟨t',rfl⟩:=ry;exact add_str (λt' tk=>⟨.str (i++j),H,I.tok _,⟨_,rfl⟩,q⟩) hz
theorem vals1 {x:V}{us:List Value}(r:aZ [x] us): ∃u,us=[u]/\RelV x u:=by
 cases r with
 | cons r1 r2=>cases r2;exact⟨_,rfl,r1⟩
theorem vals2 {x y:V}{us:List Value}(r:aZ [x,y] us): ∃u w',us=[u,w']/\RelV x u/\RelV y w':=by
 cases r with
 | cons r1 r2=>
  cases r2 with
  | cons r3 r4=>cases r4;exact⟨_,_,rfl,r1,r3⟩
theorem vW:eD X (.builtin "abs") (λxs H Q=> ∃i,xs=[.int i]/\Q (.int (if i<0 then -i else i)) H):=by
 intro pins s σ H xs us Q I r h;obtain⟨i,rfl,q⟩:=h;obtain⟨u,rfl,t,rfl⟩:=vals1 r;exact call_abs_int λu tk=>⟨.int (if i<0 then -i else i),H,I.tok _,⟨_,rfl⟩,q⟩
theorem uW (hc:X.calm=true):eD X (.builtin "max") (λxs H Q=> ∃i j,xs=[.int i,.int j]/\Q (.int (if j>i then j else i)) H):=by
 intro pins s σ H xs us Q I r h;obtain⟨i,j,rfl,q⟩:=h;obtain⟨u,w',rfl,⟨t,rfl⟩,⟨t',rfl⟩⟩:=vals2 r;refine max_two_ints (I.ok.hd hc) λh' tk k=>⟨_,H,I.kept k,?_,q⟩
 by_cases hj:j>i
 ·rw[if_pos hj,if_pos hj];exact⟨_,rfl⟩
 ·rw[if_neg hj,if_neg hj];exact⟨_,rfl⟩
theorem qF:eD X (.type "str") (λxs H Q=> ∃i,xs=[.int i]/\i.natAbs.log2<1920/\Q (.str (toString i)) H):=by
 intro pins s σ H xs us Q I r h;obtain⟨i,rfl,hz,q⟩:=h;obtain⟨u,rfl,t,rfl⟩:=vals1 r;exact PySem.P.str_of_int hz ⟨.str _,H,I.tok _,⟨_,rfl⟩,q⟩
end
end L2
namespace L2
open PySem PySem.Spec PyProof.Rows
structure Cls (K:Frag)(C:Addr):Prop where
 pg:PySem.W.plainGet K C Str.empty=true
 hd:PySem.W.hasDictIn K C=true
 po:PySem.W.plainOver K C=true
 sa:PySem.W.findIn K (.ref C) "__setattr__"=some (some (.builtin "object.__setattr__"))
theorem Cls.get {K:Frag}{C:Addr}(c:Cls K C)(f:Str):PySem.W.plainGet K C f=true:=c.pg
def NoAttr (K:Frag)(C:Addr)(f:Str):Prop:=PySem.W.findIn K (.ref C) f=some none
end L2
namespace L2
open PySem PySem.Spec PyProof.Rows
structure cL (k:Nat)(A:Around):Prop where
 hd:A.handled=none
 dp:A.depth+3*k+5<recursionLimit
 un:A.units+16*k+200<cLine
theorem cL.mono {j k:Nat}{A:Around}(r:cL k A)(h:j<=k):cL j A:=⟨r.hd,by have:=r.dp;lia,by have:=r.un;lia⟩
theorem cL.deeper {k:Nat}{A:Around}(r:cL (k+1) A)(env:Env):cL k (A.deeper env):=
 ⟨r.hd,by have:=r.dp;show A.depth+1+3*k+5<_;lia,by have:=r.un;show A.units+3+16*k+200<_;lia⟩
theorem cL.in1 {k:Nat}{A:Around}(r:cL (k+1) A):cL k A.in1:=
 ⟨r.hd,by have:=r.dp;show A.depth+3*k+5<_;lia,by have:=r.un;show A.units+1+16*k+200<_;lia⟩
theorem cL.depth {k:Nat}{A:Around}(r:cL k A):A.depth<recursionLimit:=by have:=r.dp;lia
theorem cL.units {k:Nat}{A:Around}(r:cL k A):A.units+64<cLine:=by have:=r.un;lia
def tNil:TA:=λ_ H Q=>Q [] H
def tCons (ta:TE)(tr:TA):TA:=λσ H Q=>ta σ H λx H1=>tr σ H1 λxs H2=>Q (x::xs) H2
section
variable {X:Cx}{e:Expr}{es:List Expr}{te:TE}{t:TA}{pos:Pos}
theorem sV:PA X [] tNil:=λ_ _ _ _ H Q I h=>Calls.spliced_nil ⟨[],H,I,.nil,h⟩
theorem qG (ha:PE X e te)(hr:PA X es t)(hs:starEach (e::es) X.env=(false,eval e X.env)::starEach es X.env:=by rfl):PA X (e::es) (tCons te t):=by
 intro pos pins s σ H Q I h;rw[hs];show wpAny _ _ (spliced ((false,eval e X.env)::backTo pos (starEach es X.env))) _ _ s;refine Calls.spliced_cons (thn (ha pins s σ H _ I h) λu s1 ⟨x,H1,I1,r1,q1⟩=> ?_)
 exact thn (hr pos pins s1 σ H1 _ I1 q1) λus s2 ⟨xs,H2,I2,r2,q2⟩=>⟨x::xs,H2,I2,.cons r1 r2,q2⟩
def tTup (t:TA):TE:=λσ H Q=>t σ H λxs H1=>xs.length<=sizeLine/\ ∀p,H1 p=none->Q (.ref p) (upd H1 p (.tup xs))
def tLst (t:TA):TE:=λσ H Q=>t σ H λxs H1=>xs.length<=sizeLine/\ ∀p,H1 p=none->Q (.ref p) (upd H1 p (.lst xs))
theorem pe_tup {x1}(h:PA X es t):PE X (.Tuple es x1 pos) (tTup t):=by
 intro pins s σ H Q I hq;refine wpAny_Tuple_spliced (thn (h pos pins s σ H _ I hq) λus s1 ⟨xs,H1,I1,r,z,q⟩=>⟨by rw[<-r.length];exact z,?_⟩)
 have hf:H1 s1.heap.objs.size=none:=I1.hok.fresh (le_refl _);refine⟨.ref s1.heap.objs.size,upd H1 s1.heap.objs.size (.tup xs),I1.laid (t':=s1.toks) (λb u e=>get?_push_of_some _ e) (le_refl _) ?_,rfl,q _ hf⟩
 exact⟨z,us,r,⟨_,get?_push_size _ rfl,rfl,_,rfl⟩⟩
theorem pe_lst (h:PA X es t):PE X (.List es pos) (tLst t):=by
 intro pins s σ H Q I hq;refine wpAny_List_spliced (thn (h pos pins s σ H _ I hq) λus s1 ⟨xs,H1,I1,r,z,q⟩=>⟨by rw[<-r.length];exact z,?_⟩)
 have hf:H1 s1.heap.objs.size=none:=I1.hok.fresh (le_refl _);refine⟨.ref s1.heap.objs.size,upd H1 s1.heap.objs.size (.lst xs),I1.laid (t':=s1.toks) (λb u e=>get?_push_of_some _ e) (le_refl _) ?_,rfl,q _ hf⟩
 exact⟨z,us,0,r,get?_push_size _ rfl⟩
end
abbrev Sp:=List V->Hp->VK->XK->Prop
abbrev CXT:=List Env->Hp->Shared->XK->Value->Shared->Prop
structure sW (P:Program)(w:World)(K:Frag)(mg:Str->Option Value)(base:Heap)(A:Around)(outer:List Env)(s:Shared)(H:Hp):Prop where
 frames:A.frames=some outer
 mod:Mod K mg base
 bs: ∀b o,base.get? b=some o->s.heap.get? b=some o/\H b=none
 bsz:base.objs.size<=s.heap.objs.size
 funs:s.heap.FunFrames base outer
 frf: ∀b∈frs outer,H b=none
 hok:HOk P w H s.heap
 bare:AllBare s.gens
def CE (outer:List Env)(P:Program)(w:World)(H:Hp)(s:Shared)(Q:VK)(u:Value)(s':Shared):Prop:=
 ∃v H',s'.os=s.os/\AllBare s'.gens/\Un (frs outer) [] H H' s.heap s'.heap/\HOk P w H' s'.heap/\RelV v u/\Q v H'
def CR (CX:CXT)(outer:List Env)(P:Program)(w:World)(H:Hp)(s:Shared)(Q:VK)(E:XK)(r:Result)(s':Shared):Prop:=
 match r with
 | .ok (.ret u)=>CE outer P w H s Q u s'
 | .ok _=>False
 | .error e=>CX outer H s E e s'
structure j5 (P:Program)(w:World)(K:Frag)(mg:Str->Option Value)(base:Heap)(CX:CXT)(k:Nat)(f:Addr)(fd:FuncData)(ps:List Str)(sp:Sp):Prop where
 len: ∀vs H Q E,sp vs H Q E->vs.length=ps.length
 run: ∀(A:Around) (outer:List Env) (s:Shared) (H:Hp) (args:Args) (us:List Value) (vs:List V) (Q:VK) (E:XK),cL k A->sW P w K mg base A outer s H->BindsTo s fd args (ps.zip us)->aZ vs us->sp vs H Q E->
  codeAny (model P w) A (.call (.ref f) args) (CR CX outer P w H s Q E) s
theorem j5.mono {P:Program}{w:World}{K:Frag}{mg:Str->Option Value}{base:Heap}{CX:CXT}{j k:Nat}{f:Addr}{fd:FuncData}{ps:List Str}{sp:Sp}(F:j5 P w K mg base CX j f fd ps sp)(h:j<=k) :
  j5 P w K mg base CX k f fd ps sp:=⟨F.len,λA outer s H args us vs Q E hr=>F.run A outer s H args us vs Q E (hr.mono h)⟩
theorem j5.imp {P:Program}{w:World}{K:Frag}{mg:Str->Option Value}{base:Heap}{CX:CXT}{k:Nat}{f:Addr}{fd:FuncData}{ps:List Str}{sp sp':Sp}(F:j5 P w K mg base CX k f fd ps sp)
  (h: ∀vs H Q E,sp' vs H Q E->sp vs H Q E):j5 P w K mg base CX k f fd ps sp':=
 ⟨λvs H Q E q=>F.len vs H Q E (h _ _ _ _ q),λA outer s H args us vs Q E hr he hb hv hs=>F.run A outer s H args us vs Q E hr he hb hv (h _ _ _ _ hs)⟩
theorem sW.in1 {P:Program}{w:World}{K:Frag}{mg:Str->Option Value}{base:Heap}{A:Around}{outer:List Env}{s:Shared}{H:Hp}(e:sW P w K mg base A outer s H) :
  sW P w K mg base A.in1 outer s H:=⟨e.frames,e.mod,e.bs,e.bsz,e.funs,e.frf,e.hok,e.bare⟩
section
variable {X:Cx}{pins:List (Addr×Obj)}{σ:St}{H:Hp}{s s':Shared}
theorem Inv.env0 (I:Inv X pins σ H s):sW X.prog X.w X.K X.mg X.base X.A X.stack s H:=
 ⟨I.ok.frames,I.ok.mod,I.bs,le_trans I.ok.bsz I.sz,I.stack,I.stkFree,I.hok,I.bare⟩
theorem Inv.after {Q:VK}{u:Value}(I:Inv X pins σ H s)(h:CE X.stack X.prog X.w H s Q u s'):EP X pins σ Q u s':=by
 obtain⟨v,H',os,bare,un,hok,r,q⟩:=h;obtain⟨hh,g,d,t,os'⟩:=s';obtain rfl:os'=s.os:=os;exact⟨v,H',I.call (h':=hh) (g':=g) (d':=d) (t':=t) (ch:=[]) un hok bare (λb z=>absurd z (by simp)),r,q⟩
end
def zE (sp:Sp)(dvs:List V)(E:XK)(t:TA):TE:=λσ H Q=>t σ H λvs H1=>sp (vs++dvs) H1 Q E
def Binds (K:Frag)(fd:FuncData)(ps:List Str)(ds:List Value):Prop:=
 ∀(s:Shared) (us:List Value),K.In s.heap->(us++ds).length=ps.length->BindsTo s fd ⟨us,[]⟩ (ps.zip (us++ds))
theorem Binds.all {K:Frag}{fd:FuncData}{ps:List Str}(h: ∀us:List Value,us.length=ps.length->bindArgs fd ⟨us,[]⟩=pure (ps.zip us)):Binds K fd ps []:=λs us _ hl=>by
 rw[append_nil]at hl⊢;exact .of_eq (h us hl)
def sX (CX:CXT)(X:Cx)(E:XK):Prop:= ∀(pins:List (Addr×Obj)) (σ:St) (H:Hp) (s:Shared) (e:Value) (s':Shared),Inv X pins σ H s->CX X.stack H s E e s'->X.xe e s'
section
variable {X:Cx}{CX:CXT}{k:Nat}{f C:Addr}{fd:FuncData}{ps:List Str}{sp:Sp}{dvs:List V}{ds:List Value}{E:XK}{x m:Str}{p pos apos:Pos}{e o:Expr}{es:List Expr}{ta:TE}{t:TA}
theorem run_fn {pins:List (Addr×Obj)}{σ:St}{H:Hp}{s:Shared}{Q:VK}{us:List Value}{vs:List V}(F:j5 X.prog X.w X.K X.mg X.base CX k f fd ps sp)(hr:cL k X.A)(hb:Binds X.K fd ps ds)(hd:aZ dvs ds)(hx:sX CX X E)
  (I:Inv X pins σ H s) (r:aZ vs us) (h:sp (vs++dvs) H Q E):wpAny (model X.prog X.w) X.A (call (.ref f) us) (EP X pins σ Q) X.xe s:=by
 have r2:aZ (vs++dvs) (us++ds):=r.append hd;have hl:(us++ds).length=ps.length:=by rw[<-r2.length];exact F.len _ _ _ _ h
 refine wpAny_call (codeAny_mono (F.run X.A X.stack s H ⟨us,[]⟩ (us++ds) (vs++dvs) Q E hr I.env0 (hb s us I.kIn hl) r2 h) λr s' hq=> ?_)
 cases r with
 | error e=>exact hx pins σ H s e s' I hq
 | ok fl=>
  cases fl with
  | ret u=>exact I.after hq
  | next=>exact False.elim hq
  | brk=>exact False.elim hq
  | cont=>exact False.elim hq
theorem xZ (F:j5 X.prog X.w X.K X.mg X.base CX k f fd ps sp)(hr:cL k X.A)(hg:Gl X x)(hm:X.mg x=some (.ref f))(hk:keepIn X.K (.ref f)=true)(hb:Binds X.K fd ps ds)(hd:aZ dvs ds)(hx:sX CX X E)
  (ha:PA X (e::es) t) (hdb:(x==("__debug__":Str))=false:=by decide) (he:starEach (e::es) X.env=(false,eval e X.env)::starEach es X.env:=by rfl) (hpl:(backTo pos (starEach es X.env)).any (·.1)=false:=by rfl) :
  PE X (.Call (.Name x p) (e::es) [] pos) (zE sp dvs E t):=by
 intro pins s σ H Q I h;refine wpAny_Call_Name_kw (tS I hg hm ?_ hdb);refine PySem.W.callWith_K (h₀:=X.base) I.ok.mod.kin hk (thn (ha pos pins s σ H _ I h) λus s1 ⟨vs,H1,I1,r,q⟩=>⟨I1.kIn,?_⟩) he hpl
 exact run_fn F hr hb hd hx I1 r q
end
section
variable {X:Cx}{CX:CXT}{k:Nat}{f C:Addr}{fd:FuncData}{ps ks:List Str}{sp:Sp}{E:XK}{x m:Str}{p pos apos kpos:Pos}{e o:Expr}{es:List Expr}{kws:List Keyword}{te ta:TE}{t tk:TA}{nm:Option Str}
variable {g:List Value->List Value->List Value}{gV:List V->List V->List V}
end
structure b9 (N P:List Str)(sc:Scope):Prop where
 kind:sc.kind= .function
 co:sc.isCoroutine=false
 gen:sc.isGenerator=false
 nd:N.Nodup
 pre:N.take P.length=P
 par: ∀x∈P,sc.names.lookup x=some .local\/sc.names.lookup x=some .cell
 nofree: ∀y∈sc.names,y.2≠ .free
theorem p6 {kindOf:Str->Option NameKind}{x:Str}: ∀{binds:List (Str×Value)} {m:Str->Option Value},(∀v,(x,v) ∉ binds)->bindL kindOf binds m x=m x
 | [],_,_=>rfl
 | (n,v)::r,m,h=>by
  unfold bindL;rw[p6 λw hw=>h w (mem_cons_of_mem _ hw)]
  split
  ·have:x≠n:=by rintro rfl;exact h v mem_cons_self
   simp[this]
  ·rfl
theorem p7 {kindOf:Str->Option NameKind}{x:Str}: ∀{binds:List (Str×Value)} {m:Str->Option Value},(∀v,(x,v) ∉ binds)->bindC kindOf binds m x=m x
 | [],_,_=>rfl
 | (n,v)::r,m,h=>by
  unfold bindC;rw[p7 λw hw=>h w (mem_cons_of_mem _ hw)]
  split
  ·rfl
  ·have:x≠n:=by rintro rfl;exact h v mem_cons_self
   simp[this]
theorem p8 {kindOf:Str->Option NameKind}{x:Str}{v:Value}: ∀{P:List Str} {vs:List Value} {i:Nat} {m:Str->Option Value},P.Nodup->P[i]? =some x->vs[i]? =some v->kindOf x=some .local->
  bindL kindOf (P.zip vs) m x=some v
 | [],_,_,_,_,h,_,_=>by simp at h
 | _::_,[],_,_,_,_,h,_=>by simp at h
 | p::P,w::vs,0,m,nd,h1,h2,hk=>by
  simp at h1 h2;subst h1;subst h2
  show bindL kindOf ((p,w)::P.zip vs) m p=_
  unfold bindL;rw[p6 λv hv=>(List.nodup_cons.mp nd).1 (of_mem_zip hv).1,if_pos hk]
  simp
 | p::P,w::vs,i+1,m,nd,h1,h2,hk=>by
  show bindL kindOf ((p,w)::P.zip vs) m x=_
  unfold bindL;exact p8 (i:=i) (List.nodup_cons.mp nd).2 (by simpa using h1) (by simpa using h2) hk
theorem p9 {kindOf:Str->Option NameKind}{x:Str}{v:Value}: ∀{P:List Str} {vs:List Value} {i:Nat} {m:Str->Option Value},P.Nodup->P[i]? =some x->vs[i]? =some v->kindOf x≠some .local->
  bindC kindOf (P.zip vs) m x=some v
 | [],_,_,_,_,h,_,_=>by simp at h
 | _::_,[],_,_,_,_,h,_=>by simp at h
 | p::P,w::vs,0,m,nd,h1,h2,hk=>by
  simp at h1 h2;subst h1;subst h2
  show bindC kindOf ((p,w)::P.zip vs) m p=_
  unfold bindC;rw[p7 λv hv=>(List.nodup_cons.mp nd).1 (of_mem_zip hv).1,if_neg hk]
  simp
 | p::P,w::vs,i+1,m,nd,h1,h2,hk=>by
  show bindC kindOf ((p,w)::P.zip vs) m x=_
  unfold bindC;exact p9 (i:=i) (List.nodup_cons.mp nd).2 (by simpa using h1) (by simpa using h2) hk
def start (N:List Str)(vs:List V):St:=vs.map some++replicate (N.length-vs.length) none
def eI (CX:CXT)(P:Program)(w:World)(K:Frag)(mg:Str->Option Value)(base:Heap)(N:List Str)(qual:Str)(scope:Scope)(f:Addr)(cd:Value)(A:Around)(outer:List Env)(s:Shared)(H:Hp)(E:XK):Cx where
 prog:=P
 w:=w
 K:=K
 mg:=mg
 base:=base
 A:=A.deeper (envOfC qual scope s.heap.objs.size f cd)
 N:=N
 s₀:=s
 H₀:=H
 env:=envOfC qual scope s.heap.objs.size f cd
 outer:=outer
 stack:=envOfC qual scope s.heap.objs.size f cd::outer
 ex:=[]
 calm:=true
 fn:=λ_=>true
 pn:=[]
 xe:=λe s'=>wpAny (model P w) (A.deeper (envOfC qual scope s.heap.objs.size f cd)) (leaving (envOfC qual scope s.heap.objs.size f cd) e) (λ_ s''=>CX outer H s E e s'') (λe' s''=>CX outer H s E e' s'') s'
theorem rN {sc:Scope}{n:Nat}{x:Str}(h:sc.names.lookup x=some .cell): ∃c,(cellsFrom n sc.names []).lookup x=some c:=by
 have q:=cellsFrom_some sc.names n [] (.inl h);exact Option.isSome_iff_exists.mp q
theorem uX {CX:CXT}{P:Program}{w:World}{K:Frag}{mg:Str->Option Value}{base:Heap}{N ps:List Str}{qual:Str}{scope:Scope}{f:Addr}{cd:Value}{A:Around}{outer:List Env}{s s1:Shared}{H:Hp}{E:XK}{us:List Value}{vs:List V}
  (S:b9 N ps scope) (hd:A.handled=none) (e0:sW P w K mg base A outer s H) (hl:vs.length=ps.length) (r:aZ vs us)
  (x:InCallC s s.heap.objs.size (bindL (envOfC qual scope s.heap.objs.size f cd).kindOf (ps.zip us) λ_=>none) (cellsFrom (s.heap.objs.size+1) scope.names []) (bindC (envOfC qual scope s.heap.objs.size f cd).kindOf (ps.zip us) λ_=>none) s1) :
  Inv (eI CX P w K mg base N qual scope f cd A outer s H E) [] (start N vs) H s1:=by
 have hpl:ps.length<=N.length:=by have:=congrArg length S.pre;rw[length_take]at this;lia
 obtain⟨h1,tk,rfl,hk⟩:=x.done;have noA: ∀b:Addr,b ∉ (eI CX P w K mg base N qual scope f cd A outer s H E).ex:=λb z=>absurd (show b∈([]:List Addr)from z) (by simp)
 refine⟨⟨e0.mod,S.kind,rfl,rfl,le_refl _,λy z c h1 h2=> ?_,λy hy=> ?_,λy c _ h=> ?_,λ_=>hd,Around.frames_deeper e0.frames,.inr ⟨rfl,rfl⟩,λb z=>absurd z (noA b),e0.bs,e0.bsz,λb _ _=>noA b,λb z=>absurd z (noA b),e0.funs,e0.frf⟩,
  rfl,e0.bare,Un.kept hk,⟨_,x.toInCall.ns,λi y v h1 h2 h3=> ?_⟩,λy c h=>⟨_,x.cell y c h⟩,e0.hok.fresh (le_refl _),λy c h=> ?_,λp hp=>absurd (show p∈([]:List (Addr×Obj))from hp) (by simp),e0.hok.kept hk,?_⟩
 ·exact name_of_addr x.apart (PySem.mem_of_lookup h1) (PySem.mem_of_lookup h2)
 ·have hy:scope.names.lookup y=some .cell\/scope.names.lookup y=some .free:=hy;rcases hy with hy|hy
  ·exact rN hy
  ·exact absurd rfl (S.nofree _ (PySem.mem_of_lookup hy))
 ·exact le_of_lt (x.above y c (PySem.mem_of_lookup h))
 ·have hi:i<vs.length:=by
   unfold start at h2
   by_cases hi:i<vs.length
   ·exact hi
   ·rw[getElem?_append_right (by simpa using hi)]at h2
    rw[List.getElem?_replicate]at h2;split at h2<;>cases h2
  have ha:vs[i]? =some v:=by
   unfold start at h2;rw[getElem?_append_left (by simpa using hi),getElem?_map]at h2
   cases e:vs[i]? with
   | none=>rw[e]at h2;cases h2
   | some a=>rw[e]at h2;cases h2;rfl
  obtain⟨u,hu,rv⟩:=r.get ha;have hp:ps[i]? =some y:=by
   rw[<-S.pre,List.getElem?_take_of_lt (by lia)];exact h1
  have ndP:ps.Nodup:=by rw[<-S.pre];exact S.nd.sublist (List.take_sublist _ _)
  refine⟨u,rv,?_⟩
  rcases S.par y (List.mem_of_getElem? hp)with k|k
  ·exact .inl ⟨k,p8 ndP hp hu k⟩
  ·obtain⟨c,e⟩:=rN (n:=s.heap.objs.size+1) k;refine .inr ⟨.inl k,c,e,?_⟩;have q:=x.cell y c e;rw[p9 ndP hp hu (by show scope.names.lookup y≠_;rw[k];decide)]at q
   exact q
 ·exact e0.hok.fresh (le_of_lt (x.above y c (PySem.mem_of_lookup h)))
 ·unfold start;show _=N.length;rw[length_append,length_map,List.length_replicate]
  lia
theorem fn_of {CX:CXT}{P:Program}{w:World}{K:Frag}{mg:Str->Option Value}{base:Heap}{k:Nat}{f:Addr}{name qual:Str}{params:Arguments}{body:List Stmt}{scope:Scope}{dV kV doc pm cdv ct oc:Value}{an od:Option Addr}
  {osl:Array (Option Value)} {N ps:List Str} {sp:Sp} (lk:K.lookup f=some ⟨oc,od,.func (fnOf name qual params body scope dV kV doc pm an cdv ct),osl⟩) (hcd:codeIn K cdv qual=true) (S:b9 N ps scope)
  (len: ∀vs H Q E,sp vs H Q E->vs.length=ps.length)
  (hbody: ∀(A:Around) (outer:List Env) (s:Shared) (H:Hp) (vs:List V) (Q:VK) (E:XK),cL k (A.deeper (envOfC qual scope s.heap.objs.size f cdv))->sp vs H Q E->
   ∃t,PSs (eI CX P w K mg base N qual scope f cdv A outer s H E) body t/\t {nx:=λ_ H'=>Q .non H',rt:=Q} (start N vs) H) :
  j5 P w K mg base CX (k+1) f (fnOf name qual params body scope dV kV doc pm an cdv ct) ps sp:=by
 refine⟨len,λA outer s H args us vs Q E hr e0 hb r hsp=> ?_⟩
 have hl:=len _ _ _ _ hsp;have KX:K.In s.heap:=e0.mod.kin.keeps λb o e=>(e0.bs b o e).1
 have lim:s.heap.NoLimit:=e0.mod.nolimit.keeps λb o e=>(e0.bs b o e).1
 have hkind: ∀y∈ps.zip us,scope.names.lookup y.1=some .local\/(scope.names.lookup y.1=some .cell/\((cellsFrom (s.heap.objs.size+1) scope.names []).lookup y.1).isSome=true):=λ⟨n,v⟩ hy=>by
  rcases S.par n (of_mem_zip hy).1 with q|q
  ·exact .inl q
  ·exact .inr ⟨q,cellsFrom_some _ _ _ (.inl q)⟩
 refine codeAny_call_function hr.depth (KX _ _ lk) rfl S.co S.gen rfl (PySem.W.codeRec_of KX hcd) (hb _ _ _ _ ?_)
 refine wpAny_newFunctionEnv_cells S.kind hkind λenv he s1 x=> ?_
 subst he;refine⟨lim.keeps x.toInCall.keep,codeAny_func ?_⟩;obtain⟨t,ht,hq⟩:=hbody A outer s H vs Q E (hr.deeper _) hsp;have I:Inv (eI CX P w K mg base N qual scope f cdv A outer s H E) [] (start N vs) H s1:=uX S hr.hd e0 hl r x;refine wpAny_mono (ht [] s1 (start N vs) H _ I hq) (λfl s' hs=> ?_) λe s' hs=>hs
 have fin: ∀{σ':St} {H':Hp} {v:V} {u:Value},Inv (eI CX P w K mg base N qual scope f cdv A outer s H E) [] σ' H' s'->RelV v u->Q v H'->CE outer P w H s Q u s':=
  λ{σ' H' v u} J rv q=>⟨v,H',J.os,J.bare,J.base,J.hok,rv,q⟩
 cases fl with
 | ret u=>
  obtain⟨v,σ',H',J,rv,q⟩:=hs;exact fin J rv q
 | next=>
  obtain⟨σ',H',J,q⟩:=hs;exact fin (v:=V.non) (u:=Value.none) J rfl q
 | brk=>
  obtain⟨_,_,_,q⟩:=hs;exact False.elim q
 | cont=>
  obtain⟨_,_,_,q⟩:=hs;exact False.elim q
end L2
namespace L2
open PySem PySem.Spec PyProof.Rows
section
variable {X:Cx}{x:Str}{p pos:Pos}{e:Expr}{es:List Expr}{t:TA}{id T:String}{r:List V->Hp->VK->Prop}
def tCB (r:List V->Hp->VK->Prop)(t:TA):TE:=λσ H Q=>t σ H λvs H1=>r vs H1 Q
theorem rO (hc:eD X (.builtin id) r)(hg:Gl X x)(hm:X.mg x=none)(hv:bootBuiltins x=some (.builtin id))(ha:PA X (e::es) t)(hn:x≠"__name__":=by decide)(hdb:(x==("__debug__":Str))=false:=by decide)
  (he:starEach (e::es) X.env=(false,eval e X.env)::starEach es X.env:=by rfl) (hpl:(backTo pos (starEach es X.env)).any (·.1)=false:=by rfl):PE X (.Call (.Name x p) (e::es) [] pos) (tCB r t):=by
 intro pins s σ H Q I h;refine wpAny_Call_Name_kw (qD I hg hm hv ?_ hn hdb);exact PyProof.Rows.callWith_builtin1 (thn (ha pos pins s σ H _ I h) λus s1 ⟨vs,H1,I1,r1,q1⟩=>hc pins s1 σ H1 vs us Q I1 r1 q1) he hpl
theorem uY (hc:eD X (.type T) r)(hg:Gl X x)(hm:X.mg x=none)(hv:bootBuiltins x=some (.type T))(ha:PA X (e::es) t)(hn:x≠"__name__":=by decide)(hdb:(x==("__debug__":Str))=false:=by decide)
  (he:starEach (e::es) X.env=(false,eval e X.env)::starEach es X.env:=by rfl) (hpl:(backTo pos (starEach es X.env)).any (·.1)=false:=by rfl):PE X (.Call (.Name x p) (e::es) [] pos) (tCB r t):=by
 intro pins s σ H Q I h;refine wpAny_Call_Name_kw (qD I hg hm hv ?_ hn hdb);exact PyProof.Rows.callWith_type1 (thn (ha pos pins s σ H _ I h) λus s1 ⟨vs,H1,I1,r1,q1⟩=>hc pins s1 σ H1 vs us Q I1 r1 q1) he hpl
end
end L2
namespace HT
open PySem PyProof.Rows
section
open PySem.SeqAt
open PySem.AutoSeq1 (wpAny_loadPart')
open PySem.MeetsSeq PySem.MeetsSeq2 PySem.MeetsSeq3
end
section
variable {prog:Program}{w:World}{A:Around}{E:Value->Shared->Prop}{s:Shared}
theorem cat_tup {t b:Addr}{vs ws:List Value}{Q:Value->Shared->Prop}(ht:IsTup s.heap t vs.toArray)(hb:IsTup s.heap b ws.toArray)(hv:vs≠[])
  (h1:ws=[]->Q (.ref t) s) (h2:ws≠[]->Q (.ref s.heap.objs.size) {s with heap:=s.heap.push {cls:= .type "tuple",data:= .seq (vs++ws).toArray}})
  (hsz:vs.length+ws.length<=sizeLine):wpAny (model prog w) A (binaryOp .Add (.ref t) (.ref b)) Q E s:=by
 obtain⟨⟨cls,dd,data,sl⟩,ho,hc,n,hd⟩:=id ht;obtain⟨⟨cls2,dd2,data2,sl2⟩,ho2,hc2,n2,hd2⟩:=id hb;simp only at hc hd hc2 hd2;subst hc hd hc2 hd2;have e:vs.toArray++ws.toArray=(vs++ws).toArray:=by simp
 by_cases hw:ws=[]
 ·exact concat_meets ⟨_,ho,rfl⟩ ⟨_,ho2,rfl⟩ noFill_tuple_add seq_tuple_add PySem.F.slot_tuple_add PySem.F.entry_tuple_add (PySem.F.args_tuple_add_2 _ _)
   (tuple_addW1 t b vs.toArray ws.toArray n n2 dd dd2 sl sl2 (by simpa using hv) (by simp[hw])) ⟨ho,ho2,h1 hw⟩
 ·refine concat_meets ⟨_,ho,rfl⟩ ⟨_,ho2,rfl⟩ noFill_tuple_add seq_tuple_add PySem.F.slot_tuple_add PySem.F.entry_tuple_add (PySem.F.args_tuple_add_2 _ _)
   (tuple_addW2 t b vs.toArray ws.toArray n n2 dd dd2 sl sl2 (by simpa using hv) (by simpa using hw) (by rw[size_toArray,size_toArray];exact hsz)) ⟨ho,ho2,?_⟩
  rw[e];exact h2 hw
def sIx (n d:Nat):Option Int->Nat
 | none=>d
 | some v=>if v<0 then(v+(n:Int)).toNat else min v.toNat n
theorem sIx_none (n d:Nat):sIx n d none=d:=rfl
theorem sIx_nat (n d k:Nat):sIx n d (some (k:Int))=min k n:=by
 show(if(k:Int)<0 then((k:Int)+(n:Int)).toNat else min (k:Int).toNat n)=min k n
 rw[if_neg (by lia),toNat_natCast]
theorem sIx_le (n d:Nat)(hd:d<=n)(o:Option Int):sIx n d o<=n:=by
 cases o with
 | none=>exact hd
 | some v=>
  show(if v<0 then(v+(n:Int)).toNat else min v.toNat n)<=n
  by_cases hv:v<0
  ·rw[if_pos hv];lia
  ·rw[if_neg hv];exact Nat.min_le_right _ _
theorem tX (v:Int)(n d:Nat):(if v<0 then max (v+(n:Int)) 0 else min v (n:Int))=((sIx n d (some v):Nat):Int):=by
 show(if v<0 then max (v+(n:Int)) 0 else min v (n:Int))=(((if v<0 then(v+(n:Int)).toNat else min v.toNat n):Nat):Int)
 by_cases hv:v<0
 ·simp only[if_pos hv];lia
 ·simp only[if_neg hv];lia
theorem sY (lo hi:Option Int)(n:Nat):Builtin.Slice.sliceAdjust lo hi 1 (n:Int)=(((sIx n 0 lo:Nat):Int),((sIx n n hi:Nat):Int)):=by
 have h1: ¬((1:Int)<0):=by lia
 unfold Builtin.Slice.sliceAdjust;simp only[h1,if_false];refine Prod.ext ?_ ?_
 ·cases lo with
  | none=>rfl
  | some v=>exact tX v n 0
 ·cases hi with
  | none=>rfl
  | some v=>exact tX v n n
theorem sZ (i j:Nat):Builtin.Slice.slicePlaces (i:Int) (j:Int) 1=j-i:=by
 unfold Builtin.Slice.slicePlaces;have h1:(1:Int)>0:=by lia
 simp only[h1,if_true,Int.ediv_one];split<;>lia
theorem nU {v:Value}{o:Option Int}{Q:Option Int->Shared->Prop}(p:IsPart v o)(h:Q o s):wpAny (model prog w) A (Builtin.Slice.slicePartIndex v) Q E s:=by
 cases p with
 | none=>exact slicePart_none h
 | int i t=>exact slicePart_int h
theorem i6 {sl:Addr}{vl vu:Value}{lo hi:Option Int}{n:Nat}{Q:Int×Int×Nat->Shared->Prop}(hs:s.heap.IsSliceOf sl vl vu .none)(pl:IsPart vl lo)(pu:IsPart vu hi)
  (h:Q (((sIx n 0 lo:Nat):Int),1,sIx n n hi-sIx n 0 lo) s):wpAny (model prog w) A (Builtin.Slice.sliceApplied (.ref sl) (pure (n:Int))) Q E s:=by
 obtain⟨os,hos,hcs,hds⟩:=id hs;unfold Builtin.Slice.sliceApplied Builtin.Slice.sliceFields;refine wpAny_bind (wpAny_bind (wpAny_field hos hds (x:=vl) rfl (wpAny_bind (wpAny_field hos hds (x:=vu) rfl (wpAny_bind (wpAny_field hos hds (x:= .none) rfl (wpAny_pure ?_)))))));refine wpAny_bind (slicePart_none ?_);show wpAny _ _ (if((1:Int)==0)=true then _ else _) _ _ s;rw[if_neg (by decide)]
 refine wpAny_bind (nU pl (wpAny_bind (nU pu (wpAny_bind (wpAny_pure ?_)))))
 show wpAny _ _ (match Builtin.Slice.sliceAdjust lo hi 1 (n:Int)with| (lo,hi)=>pure (lo,(1:Int),Builtin.Slice.slicePlaces lo hi 1)) _ _ s
 rw[sY lo hi n];show wpAny _ _ (pure (((sIx n 0 lo:Nat):Int),(1:Int),Builtin.Slice.slicePlaces ((sIx n 0 lo:Nat):Int) ((sIx n n hi:Nat):Int) 1)) _ _ s;rw[sZ];exact wpAny_pure h
theorem vX (xs:Array Value)(i k:Nat):((range k).filterMap fun(m:Nat)=>xs[((i:Int)+(m:Int)*1).toNat]?).toArray=((xs.toList.drop i).take k).toArray:=by
 have e:(fun(m:Nat)=>xs[((i:Int)+(m:Int)*1).toNat]?)=λm=>xs[i+m]? :=by
  funext m
  have:((i:Int)+(m:Int)*1).toNat=i+m:=by lia
  rw[this]
 rw[e];have:=pick_run xs i k;rw[List.filterMap_map]at this;have e2:((λx=>xs[x]?)∘λx=>i+x)=λm=>xs[i+m]? :=rfl
 rw[e2]at this;rw[this]
theorem getItem_tuple_cut {t sl:Addr}{items:Array Value}{vl vu:Value}{lo hi:Option Int}{Q:Value->Shared->Prop}(ht:IsTup s.heap t items)(hs:s.heap.IsSliceOf sl vl vu .none)(pl:IsPart vl lo)(pu:IsPart vu hi)
  (hw: ¬(sIx items.size 0 lo=0/\sIx items.size items.size hi=items.size))
  (h:Q (.ref s.heap.objs.size) {s with heap:=s.heap.push {cls:= .type "tuple",data:= .seq ((items.toList.drop (sIx items.size 0 lo)).take (sIx items.size items.size hi-sIx items.size 0 lo)).toArray}})
  (hsz:items.size<=sizeLine):wpAny (model prog w) A (getItem (.ref t) (.ref sl)) Q E s:=by
 have htake:sizeOk (.seq ((items.toList.drop (sIx items.size 0 lo)).take (sIx items.size items.size hi-sIx items.size 0 lo)).toArray):=by
  show((items.toList.drop (sIx items.size 0 lo)).take (sIx items.size items.size hi-sIx items.size 0 lo)).toArray.size<=sizeLine
  rw[size_toArray,length_take,length_drop,length_toList];omega
 have hj:sIx items.size items.size hi<=items.size:=sIx_le _ _ (le_refl _) hi;obtain⟨os,hos,hcs,hds⟩:=id hs;have hTs:s.TypeIs (.ref sl) "slice":=⟨os,hos,hcs⟩;unfold getItem;try with_reducible refine wpAny_holding ?_
 first|refine wpAny_bind (wpAny_pure ?_)|skip
 refine wpAny_bind (wpAny_sequenceKey ht.typeIs (by decide) ?_)
 refine wpAny_bind (wpAny_callSpecial?_slot (name:=Str.ofString "__getitem__") ht.typeIs PyProof.Rows.slot_tuple_getitem
  (wpAny_call_entry PyProof.Rows.slot_tuple_getitem ht.typeIs entry_tuple_getitem ?_ (args_tuple_getitem _ _)))
 show wpAny _ _ (Builtin.Tuple.tupleItemsOf (.ref t) >>= _) _ _ s
 refine wpAny_bind (tupleItemsOf_ ht ?_)
 refine wpAny_bind (wpAny_typeOf hTs ?_)
 rw[if_pos (by decide)]
 refine wpAny_bind (i6 hs pl pu ?_)
 have hno: ¬((((sIx items.size 0 lo:Nat):Int)==0&&(1:Int)==1&&(sIx items.size items.size hi-sIx items.size 0 lo)==items.size)=true):=by
  intro q;rw[and_eq_true,and_eq_true]at q;have q1:((sIx items.size 0 lo:Nat):Int)=0:=eq_of_beq q.1.1;have q2:sIx items.size items.size hi-sIx items.size 0 lo=items.size:=eq_of_beq q.2;exact hw ⟨by omega,by omega⟩
 show wpAny _ _ (if(((sIx items.size 0 lo:Nat):Int)==0&&(1:Int)==1&&(sIx items.size items.size hi-sIx items.size 0 lo)==items.size)=true then _ else _) _ _ s
 rw[if_neg hno,vX]
 first
  | exact wpAny_bind (m:=Builtin.Tuple.tupleExact _) (wpAny_newObj_type (wpAny_pure ⟨_,rfl,wpAny_pure h⟩) htake)
  | exact wpAny_bind (m:=Builtin.Tuple.tupleExact _) (wpAny_newObj_type (wpAny_bind (wpAny_pure (wpAny_pure ⟨_,rfl,wpAny_pure h⟩))) htake)
  | exact wpAny_bind (wpAny_bind (m:=Builtin.Tuple.tupleExact _) (wpAny_newObj_type (wpAny_pure (wpAny_pure ⟨_,rfl,wpAny_pure h⟩)) htake))
  | exact wpAny_bind (wpAny_bind (m:=Builtin.Tuple.tupleExact _) (wpAny_newObj_type (wpAny_pure ⟨_,rfl,wpAny_pure h⟩) htake))
end
end HT
namespace L2
open PySem PySem.Spec PyProof.Rows
abbrev TO:=St->Hp->(Option Int->Hp->Prop)->Prop
def PO (X:Cx)(e:Option Expr)(t:TO):Prop:=
 ∀(pins:List (Addr×Obj)) (s:Shared) (σ:St) (H:Hp) (Q:Option Int->Hp->Prop),Inv X pins σ H s->t σ H Q->
  wpAny (model X.prog X.w) X.A (evalPart e X.env) (λu s'=> ∃o H',Inv X pins σ H' s'/\IsPart u o/\Q o H') X.xe s
def y0:TO:=λ_ H Q=>Q none H
def tPart (t:TE):TO:=λσ H Q=>t σ H λx H1=> ∃i,x= .int i/\Q (some i) H1
section
variable {X:Cx}{e:Expr}{te:TE}{lo hi:Option Expr}{tl th:TO}{pos p2:Pos}
theorem y1:PO X none y0:=by
 intro pins s σ H Q I h;rw[evalPart_none];exact wpAny_pure ⟨none,H,I,.none,h⟩
theorem y2 (h:PE X e te):PO X (some e) (tPart te):=by
 intro pins s σ H Q I hw;rw[evalPart_some];refine thn (h pins s σ H _ I hw) λu s1 ⟨x,H1,I1,r1,q1⟩=> ?_
 obtain⟨i,rfl,q⟩:=q1;obtain⟨t,rfl⟩:=r1;exact⟨some i,H1,I1,.int i t,q⟩
def SlR (X:Cx)(r:V->Option Int->Option Int->Hp->VK->Prop):Prop:=
 ∀(pins:List (Addr×Obj)) (s:Shared) (σ:St) (H:Hp) (x:V) (v vl vu:Value) (lo hi:Option Int) (sl:Addr) (Q:VK),Inv X pins σ H s->RelV x v->s.heap.IsSliceOf sl vl vu .none->IsPart vl lo->IsPart vu hi->r x lo hi H Q->
  ∃T id,typeLookup (.type T) "__getitem__"=pure (some (.builtin id))/\s.TypeIs v T/\wpAny (model X.prog X.w) X.A (getItem v (.ref sl)) (EP X pins σ Q) X.xe s
theorem SlR.or {r r':V->Option Int->Option Int->Hp->VK->Prop}(h:SlR X r)(h':SlR X r'):SlR X (λx lo hi H Q=>r x lo hi H Q\/r' x lo hi H Q):=by
 intro pins s σ H x v vl vu lo hi sl Q I rx hs pl pu q;rcases q with q|q
 ·exact h pins s σ H x v vl vu lo hi sl Q I rx hs pl pu q
 ·exact h' pins s σ H x v vl vu lo hi sl Q I rx hs pl pu q
def tSl (r:V->Option Int->Option Int->Hp->VK->Prop)(te:TE)(tl th:TO):TE:=λσ H Q=>te σ H λx H1=>tl σ H1 λl H2=>th σ H2 λu H3=>r x l u H3 Q
theorem nV {r:V->Option Int->Option Int->Hp->VK->Prop}(hr:SlR X r)(he:PE X e te)(hl:PO X lo tl)(hu:PO X hi th):PE X (.Subscript e (.Slice lo hi none p2) pos) (tSl r te tl th):=by
 intro pins s σ H Q I h;refine Subscript_ (thn (he pins s σ H _ I h) λv s1 ⟨x,H1,I1,r1,q1⟩=> ?_)
 refine wpAny_Slice (thn (hl pins s1 σ H1 _ I1 q1) λvl s2 ⟨l,H2,I2,pl,q2⟩=>thn (hu pins s2 σ H2 _ I2 q2) λvu s3 ⟨u,H3,I3,pu,q3⟩=> ?_)
 rw[evalPart_none];refine wpAny_pure ?_;have I4:Inv X pins σ H3 {s3 with heap:=s3.heap.push {cls:= .type "slice",data:= .fields #[vl,vu,.none]}}:=I3.kept (t':=s3.toks) λb ob q=>get?_push_of_some _ q
 obtain⟨T,id,hT,ht,hg⟩:=hr pins {s3 with heap:=s3.heap.push {cls:= .type "slice",data:= .fields #[vl,vu,.none]}} σ H3 x v vl vu l u s3.heap.objs.size Q I4 r1 (Heap.IsSliceOf.new ..) pl pu q3;show wpAny (model X.prog X.w) X.A (subscriptTail e (.Slice lo hi none p2) v (.ref s3.heap.objs.size)) (EP X pins σ Q) X.xe {s3 with heap:=s3.heap.push {cls:= .type "slice",data:= .fields #[vl,vu,.none]}}
 exact tail_any (ops:=[.ref s3.heap.objs.size,v]) ht hT hg (by with_unfolding_all rfl)
def rP (xs:List V)(lo hi:Option Int):List V:=(xs.drop (HT.sIx xs.length 0 lo)).take (HT.sIx xs.length xs.length hi-HT.sIx xs.length 0 lo)
theorem mS (xs:List V)(lo hi:Option Int):(rP xs lo hi).length<=xs.length:=by
 unfold rP;rw[length_take,length_drop]
 lia
def rSlT (K:Frag):V->Option Int->Option Int->Hp->VK->Prop:=λx lo hi H Q=> ∃a xs,x= .ref a/\SqT K H a xs/\
 ¬(HT.sIx xs.length 0 lo=0/\HT.sIx xs.length xs.length hi=xs.length)/\ ∀p,H p=none->Q (.ref p) (upd H p (.tup (rP xs lo hi)))
theorem vY:SlR X (rSlT X.K):=by
 intro pins s σ H x v vl vu lo hi sl Q I rx hs pl pu h;obtain⟨a,xs,rfl,hx,hw,q⟩:=h;cases rx;obtain⟨its,r,ht,hz⟩:=I.tuple hx;have cC:its.toArray.size=xs.length:=by rw[size_toArray];exact r.length.symm
 refine⟨"tuple",_,PyProof.Rows.slot_tuple_getitem.lookup,ht.typeIs,?_⟩
 refine HT.getItem_tuple_cut ht hs pl pu (by rw[cC];exact hw) ?_ (by rw[cC];exact hz)
 rw[cC];refine⟨.ref s.heap.objs.size,_,I.laid (t':=s.toks) (o:= .tup (rP xs lo hi)) (λb ob q=>get?_push_of_some _ q) (le_refl _) ?_,rfl,q _ (I.hok.fresh (le_refl _))⟩
 exact⟨le_trans (mS xs lo hi) hz,_,(r.drop (HT.sIx xs.length 0 lo)).take (HT.sIx xs.length xs.length hi-HT.sIx xs.length 0 lo),IsTup.new _ _⟩
def rCatT (K:Frag):R2:=λx y H Q=> ∃a b xs ys,x= .ref a/\y= .ref b/\SqT K H a xs/\SqT K H b ys/\xs≠[]/\xs.length+ys.length<=sizeLine/\
 (ys=[]->Q (.ref a) H)/\(ys≠[]-> ∀p,H p=none->Q (.ref p) (upd H p (.tup (xs++ys))))
theorem aZ.nil_iff {xs:List V}{us:List Value}(r:aZ xs us):us=[]↔xs=[]:=by
 cases r with
 | nil=>simp
 | cons _ _=>simp
theorem y3:OpR X (binaryOp .Add) (rCatT X.K):=by
 intro pins s σ H x y v u Q I rx ry h;obtain⟨a,b,xs,ys,rfl,rfl,ha,hb,hx,hz,q1,q2⟩:=h;cases rx;cases ry;obtain⟨its,r1,p1,_⟩:=I.tuple ha;obtain⟨its2,r2,p2,_⟩:=I.tuple hb;refine HT.cat_tup p1 p2 (λz=>hx (r1.nil_iff.mp z)) (λz=>⟨.ref a,H,I,rfl,q1 (r2.nil_iff.mp z)⟩) (λz=> ?_) (by rw[<-r1.length,<-r2.length];exact hz)
 refine⟨.ref s.heap.objs.size,_,I.laid (t':=s.toks) (o:= .tup (xs++ys)) (λb ob q=>get?_push_of_some _ q) (le_refl _) ?_,rfl,q2 (λw=>z (r2.nil_iff.mpr w)) _ (I.hok.fresh (le_refl _))⟩
 exact⟨by rw[length_append];exact hz,_,r1.append r2,IsTup.new _ _⟩
end
end L2
namespace L2
open PySem PySem.Spec PyProof.Rows
def ixN (n:Nat)(i:Int):Option Nat:=if 0<=i then(if i<n then some i.toNat else none)else if -(n:Int)<=i then some (i+n).toNat else none
def atI {α:Type}(xs:List α)(i:Int):Option α:=(ixN xs.length i).bind λj=>xs[j]?
theorem y4 {n:Nat}{i:Int}{j:Nat}(h:ixN n i=some j):seqIndex? i n=some j/\j<n/\ -(n:Int)<=i/\i<n:=by
 unfold ixN at h
 by_cases h0:0<=i
 ·rw[if_pos h0]at h
  by_cases h1:i<n
  ·rw[if_pos h1]at h;have e:i.toNat=j:=Option.some.inj h;exact⟨by rw[seqIndex_of h0 h1,e],by lia,by lia,h1⟩
  ·rw[if_neg h1]at h;cases h
 ·rw[if_neg h0]at h
  by_cases h1: -(n:Int)<=i
  ·rw[if_pos h1]at h;have e:(i+n).toNat=j:=Option.some.inj h;exact⟨by rw[seqIndex_neg (by lia) h1,e],by lia,h1,by lia⟩
  ·rw[if_neg h1]at h;cases h
theorem qH {α:Type}{xs:List α}{i:Int}{v:α}(h:atI xs i=some v): ∃j,seqIndex? i xs.length=some j/\xs[j]? =some v/\j<xs.length/\ -(xs.length:Int)<=i/\i<xs.length:=by
 unfold atI at h;cases e:ixN xs.length i with
 | none=>rw[e]at h;cases h
 | some j=>
  rw[e]at h;obtain⟨h1,h2,h3,h4⟩:=y4 e;exact⟨j,h1,h,h2,h3,h4⟩
theorem bF {α:Type}{xs:List α}{j:Nat}{v:α}(h:xs[j]? =some v):atI xs (j:Int)=some v:=by
 have hj:j<xs.length:=(List.getElem?_eq_some_iff.mp h).1;have e:ixN xs.length (j:Int)=some j:=by
  unfold ixN;rw[if_pos (by lia),if_pos (by lia)];simp
 unfold atI;rw[e];exact h
def qI (b:Expr):Prop:= ∀o i,subscripted b false o i=operate [o,i] (getItem o i)
def IxR (X:Cx)(r:R2):Prop:=
 ∀(value slice:Expr) (pins:List (Addr×Obj)) (s:Shared) (σ:St) (H:Hp) (x y:V) (v u:Value) (Q:VK),Inv X pins σ H s->RelV x v->RelV y u->r x y H Q->
  subscripted slice false v u=operate [v,u] (getItem v u)->wpAny (model X.prog X.w) X.A (subscriptTail value slice v u) (EP X pins σ Q) X.xe s
def MtR (X:Cx)(id:String)(r:V->List V->Hp->VK->Prop):Prop:=
 ∀(pins:List (Addr×Obj)) (s:Shared) (σ:St) (H:Hp) (x:V) (xs:List V) (v:Value) (us:List Value) (Q:VK),Inv X pins σ H s->RelV x v->aZ xs us->r x xs H Q->
  wpAny (model X.prog X.w) X.A (call (.builtin id) (v::us)) (EP X pins σ Q) X.xe s
section
variable {X:Cx}{a b:Expr}{ta tb:TE}{pos:Pos}
theorem IxR.or {r r':R2}(h:IxR X r)(h':IxR X r'):IxR X (λx y H Q=>r x y H Q\/r' x y H Q):=by
 intro value slice pins s σ H x y v u Q I rx ry q hs;rcases q with q|q
 ·exact h value slice pins s σ H x y v u Q I rx ry q hs
 ·exact h' value slice pins s σ H x y v u Q I rx ry q hs
theorem MtR.or {id:String}{r r':V->List V->Hp->VK->Prop}(h:MtR X id r)(h':MtR X id r'):MtR X id (λx xs H Q=>r x xs H Q\/r' x xs H Q):=by
 intro pins s σ H x xs v us Q I rx rs q;rcases q with q|q
 ·exact h pins s σ H x xs v us Q I rx rs q
 ·exact h' pins s σ H x xs v us Q I rx rs q
theorem zF {r:R2}(hr:IxR X r)(ha:PE X a ta)(hb:PE X b tb)(hs:qI b):PE X (.Subscript a b pos) (tOp r ta tb):=by
 intro pins s σ H Q I h;exact Subscript_ (binT ha hb I h λv u s2 x y H2 I2 rx ry q=>hr a b pins s2 σ H2 x y v u Q I2 rx ry q (hs _ _))
def rIxL (K:Frag):R2:=λx y H Q=> ∃p xs i v,x= .ref p/\y= .int i/\SqL K H p xs/\atI xs i=some v/\Q v H
def rIxT (K:Frag):R2:=λx y H Q=> ∃p xs i v,x= .ref p/\y= .int i/\SqT K H p xs/\atI xs i=some v/\Q v H
def rIxS:R2:=λx y H Q=> ∃z i c,x= .str z/\y= .int i/\z.length<=sizeLine/\atI z.cps.toList i=some c/\Q (.str ⟨#[c]⟩) H
theorem yA:IxR X (rIxL X.K):=by
 intro value slice pins s σ H x y v u Q I rx ry h hs;obtain⟨p,xs,i,z,rfl,rfl,hq,he,q⟩:=h;cases rx;obtain⟨t,rfl⟩:=ry;obtain⟨its,r,pl,hz⟩:=I.list hq;obtain⟨j,h1,h2,h3,h4,h5⟩:=qH he;obtain⟨w,ew,rw'⟩:=r.get h2;have hl:=r.length;have hn:=nT;have fin:EP X pins σ Q w s:=⟨z,H,I,rw',q⟩
 by_cases h0:0<=i
 ·have hj:i.toNat=j:=by
   rw[seqIndex_of h0 h5]at h1;exact Option.some.inj h1
  exact item_listR pl.isList h0 (by lia) (by rw[hj];simpa using ew) fin hs
 ·have hj:(i+(its.toArray.size:Int)).toNat=j:=by
   rw[seqIndex_neg (by lia) h4]at h1
   rw[size_toArray,<-hl];exact Option.some.inj h1
  exact subscriptTail_builtinR (x:=w) pl.isList.typeIs slot_list_getitem.lookup
   (wpAny_getItem_list_neg (Q:=λr s'=>r=w/\EP X pins σ Q r s') pl.isList (by lia) (by rw[size_toArray]<;>lia) (by lia) (by rw[hj];simpa using ew) ⟨rfl,fin⟩) hs
theorem ix_tup:IxR X (rIxT X.K):=by
 intro value slice pins s σ H x y v u Q I rx ry h hs;obtain⟨p,xs,i,z,rfl,rfl,hq,he,q⟩:=h;cases rx;obtain⟨t,rfl⟩:=ry;obtain⟨its,r,pl,hz⟩:=I.tuple hq;obtain⟨j,h1,h2,h3,h4,h5⟩:=qH he;obtain⟨w,ew,rw'⟩:=r.get h2;have hl:=r.length;have hn:=nT;have fin:EP X pins σ Q w s:=⟨z,H,I,rw',q⟩;exact subscriptTail_builtinR (x:=w) pl.typeIs slot_tuple_getitem.lookup
  (getItem_tuple (j:=j) (Q:=λr s'=>r=w/\EP X pins σ Q r s') pl (by lia) (by lia) (by rw[size_toArray,<-hl];exact h1) (by simpa using ew) ⟨rfl,fin⟩) hs
theorem vZ:IxR X rIxS:=by
 intro value slice pins s σ H x y v u Q I rx ry h hs;obtain⟨z,i,c,rfl,rfl,hz,he,q⟩:=h;obtain⟨t,rfl⟩:=rx;obtain⟨t',rfl⟩:=ry;obtain⟨j,h1,h2,h3,h4,h5⟩:=qH he;have hl:z.cps.toList.length=z.length:=by simp[Str.length]
 rw[hl]at h1 h4 h5;have hn:=nT;exact tail_any (typeIs_str s z t) slot_str_getitem.lookup (getItem_str (c:=c) (by
  have e1:decide (i< -(2^63:Int))=false:=decide_eq_false (by lia)
  have e2:decide (i≥2^63)=false:=decide_eq_false (by lia)
  rw[e1,e2,Bool.or_false]) (by rw[h1];simpa using h2) ⟨.str ⟨#[c]⟩,H,I.tok _,⟨_,rfl⟩,q⟩) hs
def rIx (K:Frag):R2:=λx y H Q=>rIxL K x y H Q\/rIxT K x y H Q\/rIxS x y H Q
theorem ix_seq:IxR X (rIx X.K):=yA.or (ix_tup.or vZ)
theorem Inv.lst {pins:List (Addr×Obj)}{σ:St}{H:Hp}{s:Shared}{p:Addr}{xs:List V}(I:Inv X pins σ H s)(h:H p=some (.lst xs)) :
  ∃(its:List Value) (n:Nat),aZ xs its/\s.heap.get? p=some {cls:= .type "list",data:= .seq its.toArray n}/\xs.length<=sizeLine:=by
 obtain⟨z,its,n,r,e⟩:=I.hok p _ h;exact⟨its,n,r,e,z⟩
theorem qJ (lo hi:Option Int)(n:Nat):(sliceBounds lo hi none n).1=((HT.sIx n 0 lo:Nat):Int)/\(sliceBounds lo hi none n).2.1=((HT.sIx n n hi:Nat):Int)/\(sliceBounds lo hi none n).2.2=1:=by
 refine⟨?_,?_,rfl⟩
 ·cases lo with
  | none=>simp[sliceBounds,HT.sIx]
  | some i=>
   simp only[sliceBounds,HT.sIx,getD_none,show(1:Int)>0 by decide,if_true]
   by_cases h:i<0
   ·simp only[h,if_true]<;>lia
   ·simp only[h,if_false]<;>lia
 ·cases hi with
  | none=>simp[sliceBounds,HT.sIx]
  | some i=>
   simp only[sliceBounds,HT.sIx,getD_none,show(1:Int)>0 by decide,if_true]
   by_cases h:i<0
   ·simp only[h,if_true]<;>lia
   ·simp only[h,if_false]<;>lia
theorem oR (its:List Value)(lo hi:Option Int):slicePick its.toArray lo hi none=((its.drop (HT.sIx its.length 0 lo)).take (HT.sIx its.length its.length hi-HT.sIx its.length 0 lo)).toArray:=by
 obtain⟨h1,h2,h3⟩:=qJ lo hi its.toArray.size;unfold slicePick;rw[h1,h2,h3];simp only[sliceRange_one,pick_run,size_toArray]<;>rfl
def rSlL (K:Frag):V->Option Int->Option Int->Hp->VK->Prop:=λx lo hi H Q=> ∃a xs,x= .ref a/\SqL K H a xs/\ ∀p,H p=none->Q (.ref p) (upd H p (.lst (rP xs lo hi)))
theorem tY:SlR X (rSlL X.K):=by
 intro pins s σ H x v vl vu lo hi sl Q I rx hs pl pu h;obtain⟨a,xs,rfl,hx,q⟩:=h;cases rx;obtain⟨its,r,ht,hz⟩:=I.list hx;have cC:=r.length;refine⟨"list",_,slot_list_getitem.lookup,ht.isList.typeIs,?_⟩;refine wpAny_getItem_list_slice ht.isList hs pl pu .none (by simp) ?_ (by rw[size_toArray]<;>lia)
 rw[oR,<-cC];refine⟨.ref s.heap.objs.size,_,I.laid (t':=s.toks) (o:= .lst (rP xs lo hi)) (λb ob q=>get?_push_of_some _ q) (le_refl _) ?_,rfl,q _ (I.hok.fresh (le_refl _))⟩
 exact⟨le_trans (mS xs lo hi) hz,_,0,(r.drop (HT.sIx xs.length 0 lo)).take (HT.sIx xs.length xs.length hi-HT.sIx xs.length 0 lo),get?_push_size _ rfl⟩
theorem qK:eD X (.builtin "len") (λxs H Q=> ∃p ys,xs=[.ref p]/\(SqL X.K H p ys\/SqT X.K H p ys)/\Q (.int ys.length) H):=by
 intro pins s σ H xs us Q I r h;obtain⟨p,ys,rfl,hq,q⟩:=h;obtain⟨u,rfl,rx⟩:=vals1 r;cases rx;have hn:=nT;rcases hq with hq|hq
 ·obtain⟨its,r',pl,hz⟩:=I.list hq;have cC:=r'.length;exact Calls.call_len_list pl.isList (by simp only[size_toArray]<;>lia) ⟨.int ys.length,H,I.tok _,⟨s.toks+1,by rw[size_toArray,cC]⟩,q⟩
 ·obtain⟨its,r',pl,hz⟩:=I.tuple hq;have cC:=r'.length;exact len_tuple pl (by simp only[size_toArray]<;>lia) ⟨.int ys.length,H,I.tok _,⟨s.toks+1,by rw[size_toArray,cC]⟩,q⟩
theorem qL:eD X (.builtin "len") (λxs H Q=> ∃z,xs=[.str z]/\z.length<=sizeLine/\Q (.int z.length) H):=by
 intro pins s σ H xs us Q I r h;obtain⟨z,rfl,hz,q⟩:=h;obtain⟨u,rfl,t,rfl⟩:=vals1 r;have hn:=nT;exact len_str (by lia) ⟨.int z.length,H,I.tok _,⟨_,rfl⟩,q⟩
theorem eD.or {f:Value}{r r':List V->Hp->VK->Prop}(h:eD X f r)(h':eD X f r'):eD X f (λxs H Q=>r xs H Q\/r' xs H Q):=by
 intro pins s σ H xs us Q I rs q;rcases q with q|q
 ·exact h pins s σ H xs us Q I rs q
 ·exact h' pins s σ H xs us Q I rs q
theorem qM:eD X (.type "list") (λxs H Q=> ∃p ys,xs=[.ref p]/\(SqL X.K H p ys\/SqT X.K H p ys)/\ ∀l,H l=none->Q (.ref l) (upd H l (.lst ys))):=by
 intro pins s σ H xs us Q I r h;obtain⟨p,ys,rfl,hq,q⟩:=h;obtain⟨u,rfl,rx⟩:=vals1 r;cases rx;have fin: ∀(its:List Value),aZ ys its->ys.length<=sizeLine-> ∀(h':Heap) (c':Nat),(∀b o',s.heap.get? b=some o'->h'.get? b=some o')->
   h'.get? s.heap.objs.size=some {cls:= .type "list",dict:=none,data:= .seq its.toArray c',slots:= #[]}->EP X pins σ Q (.ref s.heap.objs.size) {s with heap:=h'}:=λits r' hz h' c' kp e=>
  ⟨.ref s.heap.objs.size,_,I.laid (t':=s.toks) kp (le_refl _) (show gB X.prog X.w _ h' _ (.lst ys)from⟨hz,its,c',r',e⟩),rfl,q _ (I.hok.fresh (le_refl _))⟩
 rcases hq with hq|hq
 ·obtain⟨its,r',pl,hz⟩:=I.list hq;have cC:=r'.length;obtain⟨o,ho,hc,n,hd⟩:=pl.isList;exact call_list_seq p (.inl rfl) ho hc hd (λh' c' kp e=>fin its r' hz h' c' kp e) (by simp only[size_toArray]<;>lia)
 ·obtain⟨its,r',pl,hz⟩:=I.tuple hq;have cC:=r'.length;obtain⟨o,ho,hc,n,hd⟩:=pl;exact call_list_seq p (.inr rfl) ho hc hd (λh' c' kp e=>fin its r' hz h' c' kp e) (by simp only[size_toArray]<;>lia)
theorem hE:eD X (.type "tuple") (λxs H Q=> ∃p ys,xs=[.ref p]/\((SqL X.K H p ys/\ ∀l,H l=none->Q (.ref l) (upd H l (.tup ys)))\/(SqT X.K H p ys/\Q (.ref p) H))):=by
 intro pins s σ H xs us Q I r h;obtain⟨p,ys,rfl,h⟩:=h;obtain⟨u,rfl,rx⟩:=vals1 r;cases rx;rcases h with⟨hq,q⟩| ⟨hq,q⟩
 ·obtain⟨its,r',pl,hz⟩:=I.list hq;have cC:=r'.length;refine call_tuple_list pl.isList (λh' kp=> ?_) (by simp only[size_toArray]<;>lia)
  have I1:Inv X pins σ H {s with heap:=h'}:=I.kept (t':=s.toks) kp;have I2:Inv X pins σ (upd H h'.objs.size (.tup ys)) {s with heap:=h'.push {cls:= .type "tuple",data:= .seq its.toArray}}:=
   I1.laid (t':=s.toks) (λb o e=>get?_push_of_some _ e) (le_refl _) (show gB X.prog X.w _ _ _ (.tup ys)from⟨hz,its,r',IsTup.new _ _⟩)
  exact⟨.ref h'.objs.size,_,I2,rfl,q _ (I1.hok.fresh (le_refl _))⟩
 ·obtain⟨its,r',pl,hz⟩:=I.tuple hq;exact call_tuple_same pl ⟨.ref p,H,I,rfl,q⟩
def tyV (K:Frag)(T:String)(x:V)(H:Hp):Prop:=match x with
 | .str _=>T="str"
 | .int _=>T="int"
 | .ref p=>(T="list"/\ ∃xs,SqL K H p xs)\/(T="tuple"/\ ∃o,K.lookup p=some o/\o.cls= .type "tuple"/\o.dict=none)\/
   (T="dict"/\((∃kvs,H p=some (.dK kvs))\/ ∃kvs,H p=some (.dT kvs)))\/(T="set"/\ ∃S n,H p=some (.set S n))
 | _=>False
theorem tyV_is {pins:List (Addr×Obj)}{σ:St}{H:Hp}{s:Shared}{T:String}{x:V}{v:Value}(I:Inv X pins σ H s)(r:RelV x v)(ty:tyV X.K T x H) :
  s.TypeIs v T/\ ∀a,v= .ref a-> ∃ob,s.heap.get? a=some ob/\ob.dict=none:=by
 cases x with
 | str z=>
  obtain⟨t,rfl⟩:=r;cases (show T="str" from ty)
  exact⟨typeIs_str s z t,λ_ e=>nomatch e⟩
 | int i=>
  obtain⟨t,rfl⟩:=r;cases (show T="int" from ty)
  exact⟨typeIs_int s i t,λ_ e=>nomatch e⟩
 | ref p=>
  cases r;rcases ty with⟨rfl,xs,hq⟩| ⟨rfl,o,hk,hc,hd⟩| ⟨rfl,hk⟩| ⟨rfl,S,n,hk⟩
  ·obtain⟨its,_,pl,_⟩:=I.list hq;refine⟨pl.isList.typeIs,λa e=> ?_⟩
   cases e;obtain⟨o,n,e,c,hd,_⟩:=pl;exact⟨o,e,hd⟩
  ·refine⟨⟨o,I.kIn p o hk,hc⟩,λa e=> ?_⟩
   cases e;exact⟨o,I.kIn _ o hk,hd⟩
  ·have z: ∃o,s.heap.get? p=some o/\o.ExactDict:=by
    rcases hk with⟨kvs,hk⟩| ⟨kvs,hk⟩
    ·obtain⟨_,_,_,_,o,_,_,e,ex,_⟩:=I.hok p _ hk;exact⟨o,e,ex⟩
    ·obtain⟨_,_,_,_,o,_,_,e,ex,_⟩:=I.hok p _ hk;exact⟨o,e,ex⟩
   obtain⟨o,e,ex⟩:=z;refine⟨⟨o,e,ex.1⟩,λa e2=> ?_⟩
   cases e2;exact⟨o,e,ex.2.1⟩
  ·obtain⟨o,_,_,_,e,ex,_⟩:=I.hok p _ hk;refine⟨⟨o,e,ex.1⟩,λa e2=> ?_⟩
   cases e2;exact⟨o,e,ex.2.1⟩
 | _=>exact False.elim ty
def tBM (K:Frag)(T:String)(r:V->List V->Hp->VK->Prop)(to:TE)(t:TA):TE:=λσ H Q=>to σ H λx H1=>tyV K T x H1/\t σ H1 λxs H2=>r x xs H2 Q
variable {o e:Expr}{es:List Expr}{to:TE}{t:TA}{name:Str}{apos cpos:Pos}{T id:String}{r:V->List V->Hp->VK->Prop}
theorem zG (pa:PlainAttrs T)(slot:Slot T name id)(hty:typeOf (.builtin id)=pure (.type "method_descriptor"))(hm:MtR X id r)(ho:PE X o to)(ha:PA X (e::es) t)
  (hbase:attributeBase o name X.env (eval o X.env)=eval o X.env:=by rfl)
  (hfew:((backTo cpos (starEach (e::es) X.env)).all (λx=> !x.1)&&(backToKw cpos (keywordEach [] X.env)).all (λx=>x.1.isSome)
   &&decide ((e::es).length+([]:List Keyword).length+(if([]:List Keyword).isEmpty then 0 else 1)<30))=true:=by rfl)
  (hline:(apos.endLine==cpos.line)=true:=by rfl) (hs:starEach (e::es) X.env=(false,eval e X.env)::starEach es X.env:=by rfl) (hplain:(backTo cpos (starEach es X.env)).any (·.1)=false:=by rfl) :
  PE X (.Call (.Attribute o name apos) (e::es) [] cpos) (tBM X.K T r to t):=by
 intro pins s σ H Q I h;refine wpAny_Call_method_late hbase hfew hline rfl (thn (ho pins s σ H _ I h) λv s1 ⟨x,H1,I1,r1,ty,q1⟩=> ?_)
 obtain⟨h1,h2⟩:=tyV_is I1 r1 ty;refine⟨T,id,pa,slot,hty,h1,h2,?_⟩;have hA:=ha cpos pins s1 σ H1 _ I1 q1;rw[hs]at hA⊢;refine Calls.callWith_builtin (by show(false||(backTo cpos (starEach es X.env)).any (·.1))=false;rw[hplain]<;>rfl) (Calls.evalArgs_plain ?_)
 exact thn hA λus s2 ⟨vs,H2,I2,r2,q2⟩=>hm pins s2 σ H2 x vs v us Q I2 r1 r2 q2
end
end L2
namespace L2
open PySem PySem.Spec PyProof.Rows
def MtM (X:Cx)(id:String)(r:V->List V->Hp->VK->Prop):Prop:=
 ∀(pins:List (Addr×Obj)) (s:Shared) (σ:St) (H:Hp) (x:V) (xs:List V) (v:Value) (us:List Value) (Q:VK),Inv X pins σ H s->RelV x v->aZ xs us->r x xs H Q->
  wpAny (model X.prog X.w) X.A (call (.builtin id) (v::us)) (EP X pins σ Q) X.xe s
theorem aZ.one: ∀{x:V} {us:List Value},aZ [x] us-> ∃u,us=[u]/\RelV x u
 | _,_,.cons r .nil=>⟨_,rfl,r⟩
theorem aZ.zero: ∀{us:List Value},aZ [] us->us=[]
 | _,.nil=>rfl
theorem aZ.dropLast {xs:List V}{us:List Value}(h:aZ xs us):aZ xs.dropLast us.dropLast:=by
 induction h with
 | nil=>exact .nil
 | cons r t ih=>
  cases t with
  | nil=>exact .nil
  | cons q t'=>exact .cons r ih
theorem aZ.reverse {xs:List V}{us:List Value}(h:aZ xs us):aZ xs.reverse us.reverse:=by
 induction h with
 | nil=>exact .nil
 | cons r t ih=>rw[reverse_cons,reverse_cons];exact aZ.append ih (.cons r .nil)
theorem aZ.rep {xs:List V}{us:List Value}(h:aZ xs us): ∀k:Nat,aZ (replicate k xs).flatten (replicate k us).flatten
 | 0=> .nil
 | k+1=>by
  rw[replicate_succ,replicate_succ,flatten_cons,flatten_cons];exact aZ.append h (aZ.rep h k)
theorem foldl_rep (its:List Value): ∀(k:Nat) (acc:List Value),
  foldl (λx1 x2=>x1++x2) acc.toArray (replicate k its.toArray)=(acc++(replicate k its).flatten).toArray
 | 0,acc=>by simp
 | k+1,acc=>by
  have e:acc.toArray++its.toArray=(acc++its).toArray:=by simp
  have e2:(acc++its)++(replicate k its).flatten=acc++(replicate (k+1) its).flatten:=by
   rw[replicate_succ,flatten_cons,append_assoc]
  rw[<-e2,<-foldl_rep its k (acc++its),<-e,replicate_succ,List.foldl_cons]
section
variable {X:Cx}{pins:List (Addr×Obj)}{σ:St}{H:Hp}{s:Shared}{l b:Addr}{xs ys zs:List V}
theorem Inv.lset {its its':List Value}{n:Nat}{f:Array Value->Array Value}{t':Nat}(I:Inv X pins σ H s)(hH:H l=some (.lst xs))
  (e:s.heap.get? l=some {cls:= .type "list",data:= .seq its.toArray n}) (hf:f its.toArray=its'.toArray) (hv:aZ ys its') (hz:ys.length<=sizeLine) :
  Inv X pins σ (upd H l (.lst ys)) {s with heap:=s.heap.update l (Obj.mapSeq f),toks:=t'}:=by
 have q:=PySem.IsL.update e f;rw[hf]at q;refine I.write (x:=l) (e:=l) (by rw[hH];exact trivial) (.inl rfl) (λb' u hb hu=>(Heap.get?_update_other s.heap (Obj.mapSeq f) (Ne.symm hb)).trans hu) ⟨_,q⟩ ?_
 exact⟨hz,its',_,hv,q⟩
theorem Inv.lnew {its:List Value}{t':Nat}(I:Inv X pins σ H s)(hv:aZ ys its)(hz:ys.length<=sizeLine) :
  Inv X pins σ (upd H s.heap.objs.size (.lst ys)) {s with heap:=s.heap.push {cls:= .type "list",data:= .seq its.toArray},toks:=t'}:=
 I.laid (λ_ _ q=>get?_push_of_some _ q) (le_refl _) ⟨hz,its,0,hv,get?_push_size _ rfl⟩
theorem Inv.fresh (I:Inv X pins σ H s):H s.heap.objs.size=none:=I.hok.fresh (le_refl _)
theorem Inv.lstM (I:Inv X pins σ H s)(hH:H l=some (.lst xs)):xs.length<=sizeLine/\ ∃(its:List Value) (n:Nat),aZ xs its/\xs.length=its.length/\s.heap.get? l=some {cls:= .type "list",data:= .seq its.toArray n}:=by
 obtain⟨z,its,n,r,e⟩:=I.hok l _ hH;exact⟨z,its,n,r,r.length,e⟩
theorem w6 {n:Nat}(h:n<=sizeLine):Builtin.List.listTooLong n=false:=by
 unfold Builtin.List.listTooLong;exact decide_eq_false (by lia)
end
section
variable {X:Cx}
def yB:V->List V->Hp->VK->Prop:=λx vs H Q=> ∃l xs y,x= .ref l/\vs=[y]/\H l=some (.lst xs)/\xs.length<sizeLine/\Q .non (upd H l (.lst (xs++[y])))
theorem pA:MtM X "list.append" yB:=by
 intro pins s σ H x vs v us Q I rx rv h;obtain⟨l,xs,y,rfl,rfl,hH,hz,q⟩:=h;cases rx;obtain⟨u,rfl,ru⟩:=rv.one;obtain⟨z,its,n,r,hl,e⟩:=I.lstM hH;refine call_meets F.slot_list_append ⟨_,e,rfl⟩ F.entry_list_append (F.args_list_append_2 _ _) (PySem.list_append l its.toArray n u (by rw[size_toArray];lia)) ⟨e,?_⟩
 refine⟨.non,_,I.lset (its':=its++[u]) hH e (by simp) (r.append (.cons ru .nil)) ?_,rfl,q⟩
 rw[length_append,List.length_singleton]
 lia
def rCat:R2:=λx y H Q=> ∃l b xs zs,x= .ref l/\y= .ref b/\H l=some (.lst xs)/\H b=some (.lst zs)/\xs.length+zs.length<=sizeLine/\ ∀p,H p=none->Q (.ref p) (upd H p (.lst (xs++zs)))
theorem op_cat:OpR X (binaryOp .Add) rCat:=by
 intro pins s σ H x y v u Q I rx ry h;obtain⟨l,b,xs,zs,rfl,rfl,hH,hB,hz,q⟩:=h;cases rx;cases ry;obtain⟨z,its,n,r,hl,e⟩:=I.lstM hH;obtain⟨z2,its2,n2,r2,hl2,e2⟩:=I.lstM hB;refine PySem.P.add_list e e2 ?_ (by rw[size_toArray,size_toArray];omega)
 have ea:its.toArray++its2.toArray=(its++its2).toArray:=by simp
 rw[ea];exact⟨.ref _,_,I.lnew (t':=s.toks) (r.append r2) (by rw[length_append];omega),rfl,q _ I.fresh⟩
def rRep:R2:=λx y H Q=> ∃l k xs,x= .ref l/\y= .int k/\H l=some (.lst xs)/\ -(2^63)<=k/\k<2^63/\xs.length*k.toNat<=sizeLine/\
 ∀p,H p=none->Q (.ref p) (upd H p (.lst (replicate k.toNat xs).flatten))
theorem yC {α:Type}(xs:List α)(k:Nat):(replicate k xs).flatten.length=k*xs.length:=by
 induction k with
 | zero=>simp
 | succ k ih=>rw[replicate_succ,flatten_cons,length_append,ih,Nat.succ_mul,Nat.add_comm]
theorem op_rep:OpR X (binaryOp .Mult) rRep:=by
 intro pins s σ H x y v u Q I rx ry h;obtain⟨l,k,xs,rfl,rfl,hH,h1,h2,hz,q⟩:=h;cases rx;obtain⟨t,rfl⟩:=ry;obtain⟨z,its,n,r,hl,e⟩:=I.lstM hH;have cC:its.toArray.size*k.toNat<=sizeLine:=by rw[size_toArray,<-hl];exact hz
 have hcap: ¬its.toArray.size*k.toNat>(2^63-1)/8:=by
  have:(sizeLine:Nat)<=(2^63-1)/8:=by decide
  lia
 have hfit: ¬(!Builtin.List.listFitsIndex k)=true:=by
  rw[fitsIndex_both h1 h2];exact Bool.false_ne_true
 have hlong: ¬Builtin.List.listTooLong (its.toArray.size*k.toNat)=true:=by
  rw[w6 cC];exact Bool.false_ne_true
 have hnew:foldl (λx1 x2=>x1++x2) #[] (replicate (if its.toArray.isEmpty=true then 0 else k.toNat) its.toArray)=(replicate k.toNat its).flatten.toArray:=by
  have f0: ∀m:Nat,foldl (λx1 x2=>x1++x2) #[] (replicate m its.toArray)=(replicate m its).flatten.toArray:=λm=>by
   have:=foldl_rep its m [];rw[List.nil_append]at this;exact this
  rw[f0];cases its with
  | nil=>simp
  | cons a r'=>rw[if_neg (by simp)]
 refine wpAny_binaryOp_repeat_ref (T:="list") (U:="int") (by decide) ⟨_,e,rfl⟩ (λs'=>typeIs_int s' k t) noFill_list_mul F.fills_int_mul F.slot_int_rmul repeat_list F.slot_int_index.lookup
  (call_meets F.slot_int_rmul (typeIs_int s k t) F.entry_int_rmul (F.args_int_rmul_2 _ _) (int___rmul___int_list k t l its.toArray n)
   ⟨e,rfl,⟨_,e,rfl⟩,call_meets F.slot_list_mul ⟨_,e,rfl⟩ F.entry_list_mul (F.args_list_mul_2 _ _) (AutoListH.list___mul___list_int_3 l its.toArray n k t hfit hcap hlong) ⟨e,?_⟩⟩)
 rw[hnew];exact⟨.ref _,_,I.lnew (t':=s.toks) (r.rep k.toNat) (by rw[yC,mul_comm];exact hz),rfl,q _ I.fresh⟩
end
section
variable {prog:Program}{w:World}{A:Around}{E:Value->Shared->Prop}{s:Shared}
set_option maxRecDepth 100000 in
end
end L2
namespace Att
open PySem PySem.W PySem.Calls PyProof.Rows
theorem mZ {P:Params}{h:Heap}: ∀(ns:List Int) (vs:List Value),WellAll P h vs (ns.map WData.int)->IntsAre vs ns:=by
 intro ns
 induction ns with
 | nil=>
  intro vs w;rw[map_nil]at w;cases w;exact .nil
 | cons n ns ih=>
  intro vs w;rw[map_cons]at w;cases w with
  | cons a b=>
   cases a;exact .cons _ _ (ih _ b)
theorem uZ {l:OpenLaw}{n:Nat}(hn:l.most=some n){P:Params}{h:Heap}{args:List WData}{vals:List Value}
  (hpre:l.row.toRowW.claim.pre args=true) (hwl:WellAll P h vals args) :
  ∃a vs ns,vals=[Value.ref a]/\args=[WData.list (ns.map WData.int)]/\h.get? a=some {cls:= .type "list",data:= .seq vs.toArray}/\IntsAre vs ns/\ns.length<=n:=by
 have hsh:WShape.hasAll [] args [.list .int]=true:=(pre_splitW hpre).1;have hc:l.pre.holds [] {args:=args}=true:=(pre_splitW hpre).2;obtain⟨d,r,rfl,h1,h2⟩:=hasAllW_cons hsh;obtain rfl:=hasAllW_nil h2;obtain⟨xs,rfl,h3⟩:=hasW_list h1;obtain⟨ns,rfl⟩:=items_int h3;have cC:ns.length<=n:=by
  unfold OpenLaw.pre at hc;have h4:(WTm.not (.lt (.lit (.int (n:Int))) (.len (.arg 0)))).holds [] {args:=[.list (ns.map .int)]}=true:=by
   have h4:=(holds_andW hc).1;rw[hn]at h4;exact h4
  have h5:=condW_of h4 (w_not (w_lt w_lit (w_len_list (w_arg rfl))));rw[length_map]at h5;refine Nat.le_of_not_lt λq=> ?_
  have q':(n:Int)< ((ns.length:Nat):Int):=by omega
  first
   | (rw[decide_eq_true q']at h5;exact absurd h5 (by decide))
   | (simp at h5;omega)
 cases hwl with
 | cons w1 w2=>
  cases w2;cases w1 with
  | list ho hall=>exact⟨_,_,ns,rfl,rfl,ho,mZ ns _ hall,cC⟩
theorem v0 (l:OpenLaw)(args:List WData):l.row.toRowW.claim.post args (.bool true) args=true:=
 postW_of (r:=l.row.toRowW) (X:=(true==true))
  (show WShape.has [] (.bool true) .bool=true by first|rfl|decide|simp[WShape.has,WShape.arms,WShape.armsAll])
  (show(WTm.eq .res (.lit (.bool true))).value [] {args:=args,res:=some (.bool true),after:=args}=some (.bool (true==true))from w_eq_bool (w_res rfl) w_lit) rfl
theorem attach_call {l:OpenLaw}{n:Nat}{q:Program}{loose:List Str}{XP:(Str->Option Value)->Heap->Prop}{YP:World->Heap->Prop}{d:DefRec}
  (hn:l.most=some n) (hdf:d.params.defaults=[])
  (call: ∀(w:World) (s₀ s₁:Shared) (mg mb:Str->Option Value) (fa:Addr) (o:Obj) (pm cd doc:Value) (a:Addr) (vs:List Value) (ns:List Int),
   Ground q loose [] XP w s₀ mg mb s₁.heap->YP w s₁.heap->
   s₁.heap.get? fa=some o->o.data= .func (docDef d.name d.params d.body d.scope pm cd doc)->s₁.heap.CodeRec cd d.name->mg d.name=some (.ref fa)->
   s₁.heap.get? a=some {cls:= .type "list",data:= .seq vs.toArray}->IntsAre vs ns->ns.length<=n->s₁.gens= #[]->
   codeAny (model l.prog w) callerA (.call (.ref fa) ⟨[.ref a],[]⟩) (λr s'=>r= .ok (.ret (.bool true))/\OldK s₁.heap s'.heap/\s'.os=s₁.os/\AllBare s'.gens) s₁) :
  WalkO q loose XP YP l.row.toRowW d [] (λf vs=>PySem.call f vs):=by
 intro w s₀ s₁ mg mb G Y fa o pm cd doc dV kV ho hd hcd hD hmg hg args vals as hpre hlay hrd hwl hlo;obtain rfl:dV= .none:=Dflts.none hD hdf;obtain rfl:kV= .none:=Dflts.noKw hD;obtain⟨a,vs,ns,rfl,rfl,hobj,hints,cC⟩:=uZ hn hpre hwl;refine enter_call (codeAny_mono (call w s₀ s₁ mg mb fa o pm cd doc a vs ns G Y ho (fd_plain hd) hcd hmg hobj hints cC hg) λr s' hq=> ?_)
 obtain⟨rfl,h2,h3,h4⟩:=hq;exact⟨.inl ⟨.bool true,.bool true,[],rfl,λ_=>rfl,.bool true,v0 l _,λ_=>⟨List.Pairwise.nil,λ_ hm=>(nomatch hm)⟩⟩,h2,h3,h4⟩
end Att
namespace L2
open PySem PySem.Spec PyProof.Rows
theorem pB: ∀{vs:List Value} {ns:List Int},IntsAre vs ns->aZ (ns.map V.int) vs
 | _,_,.nil=> .nil
 | _,_,.cons n t h=> .cons ⟨t,rfl⟩ (pB h)
def Only (H:Hp):Prop:= ∀b,H b=none\/ ∃o xs,H b=some (.frz o (.lst xs))
theorem w8 {P:Program}{w:World}{K:Frag}{mg mb:Str->Option Value}{CX:CXT}{k:Nat}{fa a:Addr}{fd:FuncData}{x:Str}{sp:Sp}{s₁:Shared}{vs:List Value}{ns:List Int}
  (KX:K.In s₁.heap) (hns:s₁.heap.Ns mainGlobals mg) (hb:s₁.heap.Ns builtinsNs mb) (hbb: ∀x:Str,x≠"__name__"->mb x=bootBuiltins x) (hlim:s₁.heap.NoLimit) (hg:s₁.gens= #[])
  (ha:s₁.heap.get? a=some {cls:= .type "list",data:= .seq vs.toArray}) (hi:IntsAre vs ns) (hl:ns.length<=sizeLine) (hr:cL k callerA)
  (F: ∀base:Heap,K.In base->base.Ns mainGlobals mg->j5 P w K mg base CX k fa fd [x] sp) (hbind: ∀(s:Shared) (u:Value),BindsTo s fd ⟨[u],[]⟩ [(x,u)])
  (hsp: ∀H:Hp,Only H->SqL K H a (ns.map V.int)->sp [.ref a] H (λv _=>v= .bl true) λ_ _ _=>False)
  (hCX: ∀H e s',CX [] H s₁ (λ_ _ _=>False) e s'->False) :
  codeAny (model P w) callerA (.call (.ref fa) ⟨[.ref a],[]⟩) (λr s'=>r= .ok (.ret (.bool true))/\OldK s₁.heap s'.heap/\s'.os=s₁.os/\AllBare s'.gens) s₁:=by
 have rv:=pB hi;have lenV:=hi.length;have core: ∀H:Hp,Only H->SqL K H a (ns.map V.int)->HOk P w H s₁.heap->(∀b,H b≠none->b=a)->(H a≠none->K.lookup a=none)->
   codeAny (model P w) callerA (.call (.ref fa) ⟨[.ref a],[]⟩) (λr s'=>r= .ok (.ret (.bool true))/\OldK s₁.heap s'.heap/\s'.os=s₁.os/\AllBare s'.gens) s₁:=by
  intro H hO hS hok hA hK;have base_of: ∀{b:Addr} {o:Obj},s₁.heap.get? b=some o->H b=none->(qC s₁.heap H).get? b=some o:=λe n=>vM e n
  have noA: ∀{b:Addr} {o:Obj} {es:Array DictEntry} {ep:Nat},s₁.heap.get? b=some o->o.data= .dict es ep->H b=none:=λ{b o es ep} e d=>by
   cases q:H b with
   | none=>rfl
   | some u=>
    have e':b=a:=hA b (by rw[q];simp)
    subst e';rw[ha]at e;cases e;have d':Data.seq vs.toArray _=Data.dict es ep:=d;cases d'
  have nsK: ∀{b:Addr} {m:Str->Option Value},s₁.heap.Ns b m->(qC s₁.heap H).Ns b m:=λ{b m} ⟨o,es,ep,e,d,r⟩=>⟨o,es,ep,base_of e (noA e d),d,r⟩
  have hKb:K.In (qC s₁.heap H):=λb o e=>base_of (KX b o e) (by
   cases q:H b with
   | none=>rfl
   | some u=>
    have e':b=a:=hA b (by rw[q];simp)
    subst e';rw[hK (by rw[q];simp)]at e;cases e)
  have hM:Mod K mg (qC s₁.heap H):=⟨hKb,nsK hns,⟨mb,nsK hb,hbb⟩,let ⟨mc,h1,h2⟩:=hlim;⟨mc,nsK h1,h2⟩⟩;have e0:sW P w K mg (qC s₁.heap H) callerA [] s₁ H:=⟨rfl,hM,λb o e=>xO e,Nat.le_of_eq (uN _ _),trivial,λb hb=>absurd (show b∈([]:List Addr)from hb) (by simp),hok,.of_eq hg⟩
  refine codeAny_mono ((F _ hKb (nsK hns)).run callerA [] s₁ H ⟨[.ref a],[]⟩ [.ref a] [.ref a] _ _ hr e0 (hbind s₁ (.ref a)) (.cons rfl .nil) (hsp H hO hS)) λr s' h=> ?_
  cases r with
  | error e=>exact(hCX H e s' h).elim
  | ok fl=>
   cases fl with
   | next=>exact False.elim h
   | brk=>exact False.elim h
   | cont=>exact False.elim h
   | ret u=>
    obtain⟨v,H',os,bare,un,hok',r',q⟩:=h;have q':v= .bl true:=q;subst q';obtain rfl:u=Value.bool true:=r';refine⟨rfl,OldK.of_keep λb o e=> ?_,os,bare⟩
    cases q:H b with
    | none=>exact un.keep b o e q (by intro z;exact absurd (show b∈([]:List Addr)from z) (by simp)) (by simp)
    | some u=>
     rcases hO b with z| ⟨ob,xs,z⟩
     ·rw[q]at z;cases z
     ·have z2:=un.frzs b ob _ z;obtain⟨e1,_⟩:=hok b _ z;obtain⟨e2,_⟩:=hok' b _ z2;rw[e]at e1;cases e1;exact e2
 cases hk:K.lookup a with
 | some o=>
  have e:=KX a o hk;rw[ha]at e;cases e;refine core (λ_=>none) (λ_=> .inl rfl) (.inr ⟨_,vs.toArray,_,hk,rfl,rfl,rfl,by rw[size_toArray,lenV];exact hl,by simpa using rv⟩) (λb u z=>by have z':(none:Option HO)=some u:=z;cases z') (λb z=>absurd rfl z) λz=>absurd rfl z
 | none=>
  refine core (λb=>if b=a then some (.frz {cls:= .type "list",data:= .seq vs.toArray} (.lst (ns.map V.int)))else none) (λb=> ?_) (.inl (.inr ⟨{cls:= .type "list",data:= .seq vs.toArray},if_pos rfl⟩)) (λb u z=> ?_) (λb z=> ?_) λ_=>hk
  ·by_cases hb:b=a
   ·exact .inr ⟨_,_,if_pos hb⟩
   ·exact .inl (if_neg hb)
  ·by_cases hb:b=a
   ·have z':=(if_pos hb).symm.trans z;cases z';subst hb;exact⟨ha,by rw[length_map];exact hl,vs,_,rv,ha⟩
   ·have z':=(if_neg hb).symm.trans z;cases z'
  ·by_cases hb:b=a
   ·exact hb
   ·exact absurd (if_neg hb) z
end L2
namespace L2
open PySem PySem.Spec PyProof.Rows
theorem walk_of {l:PySem.W.OpenLaw}{n k:Nat}{q:Program}{loose:List Str}{XP:(Str->Option Value)->Heap->Prop}{YP:World->Heap->Prop}{d:DefRec}{K:Params->Frag}{CX:World->CXT}{sp:World->Sp}{x:Str}
  (hn:l.most=some n) (hn2:n<=sizeLine) (hdf:d.params.defaults=[]) (hr:cL k callerA)
  (hY: ∀(w:World) (h:Heap),YP w h->(K w.params).In h)
  (F: ∀(w:World) (mg:Str->Option Value) (fa:Addr) (h:Heap),(K w.params).In h->h.Ns mainGlobals mg->mg d.name=some (.ref fa)->
   ∃fd:FuncData,(∀(s:Shared) (u:Value),BindsTo s fd ⟨[u],[]⟩ [(x,u)])/\
    ∀base:Heap,(K w.params).In base->base.Ns mainGlobals mg->j5 l.prog w (K w.params) mg base (CX w) k fa fd [x] (sp w))
  (hsp: ∀(w:World) (H:Hp) (a:Addr) (ns:List Int),ns.length<=n->Only H->SqL (K w.params) H a (ns.map V.int)->sp w [.ref a] H (λv _=>v= .bl true) λ_ _ _=>False)
  (hCX: ∀(w:World) (H:Hp) (s:Shared) (e:Value) (s':Shared),CX w [] H s (λ_ _ _=>False) e s'->False) :
  PySem.W.WalkO q loose XP YP l.row.toRowW d [] (λf vs=>PySem.call f vs):=by
 refine Att.attach_call hn hdf λw s₀ s₁ mg mb fa o pm cd doc a vs ns G Y ho hd hcd hmg hobj hints cC hg=> ?_
 have KX:=hY w _ Y;obtain⟨fd,hb,hF⟩:=F w mg fa _ KX G.T.g hmg;exact w8 KX G.T.g G.T.b G.T.builtins G.T.nolimit hg hobj hints (le_trans cC hn2) hr hF hb (λH hO hS=>hsp w H a ns cC hO hS) λH e s'=>hCX w H s₁ e s'
end L2
namespace L2
open PySem PySem.Spec PyProof.Rows
def bA (s:Stmt):Arguments:=match s with
 | .FunctionDef _ a _ _ _ _ _ _ _ _=>a
 | _=>{posonlyargs:=[],args:=[],vararg:=none,kwonlyargs:=[],kw_defaults:=[],kwarg:=none,defaults:=[]}
def aL (s:Stmt):List Stmt:=match s with
 | .FunctionDef _ _ b _ _ _ _ _ _ _=>b
 | _=>[]
def aB (s:Stmt):Scope:=match s with
 | .FunctionDef _ _ _ _ _ _ sc _ _ _=>sc
 | _=>{kind:= .function,names:=[],isGenerator:=false,isCoroutine:=false}
abbrev CX0:CXT:=λ_ _ _ _ _ _=>False
abbrev E0:XK:=λ_ _ _=>False
structure Fun (K:Frag)(x qual:Str)(st:Stmt)(f:Addr)(fd:FuncData):Prop where
 ex: ∃(oc:Value) (od:Option Addr) (kV doc pm:Value) (an:Option Addr) (cdv ct:Value) (osl:Array (Option Value)),
  fd=fnOf x qual (bA st) (aL st) (aB st) .none kV doc pm an cdv ct/\K.lookup f=some ⟨oc,od,.func fd,osl⟩/\codeIn K cdv qual=true
 kp:keepIn K (.ref f)=true
section
variable {P:Program}{w:World}{K:Frag}{mg:Str->Option Value}{base:Heap}
theorem Fun.ok {x qual:Str}{st:Stmt}{f:Addr}{fd:FuncData}{N ps:List Str}{k:Nat}{sp:Sp}(F:Fun K x qual st f fd)(S:b9 N ps (aB st))(len: ∀vs H Q E,sp vs H Q E->vs.length=ps.length)
  (hbody: ∀(cdv:Value) (A:Around) (outer:List Env) (s:Shared) (H:Hp) (vs:List V) (Q:VK) (E:XK),cL k (A.deeper (envOfC qual (aB st) s.heap.objs.size f cdv))->sp vs H Q E->
   ∃t,PSs (eI CX0 P w K mg base N qual (aB st) f cdv A outer s H E).nox (aL st) t/\t {nx:=λ_ H'=>Q .non H',rt:=Q} (start N vs) H):j5 P w K mg base CX0 (k+1) f fd ps sp:=by
 obtain⟨oc,od,kV,doc,pm,an,cdv,ct,osl,rfl,lk,hcd⟩:=F.ex;refine fn_of lk hcd S len λA outer s H vs Q E hr hsp=> ?_
 obtain⟨t,h,q⟩:=hbody cdv A outer s H vs Q E hr hsp;exact⟨t,h.nox,q⟩
theorem Fun.binds {x qual:Str}{st:Stmt}{f:Addr}{fd:FuncData}{ps:List Str}(F:Fun K x qual st f fd)
  (h: ∀(kV doc pm:Value) (an:Option Addr) (cdv ct:Value) (us:List Value),us.length=ps.length->bindArgs (fnOf x qual (bA st) (aL st) (aB st) .none kV doc pm an cdv ct) ⟨us,[]⟩=pure (ps.zip us)):Binds K fd ps []:=by
 obtain⟨oc,od,kV,doc,pm,an,cdv,ct,osl,rfl,lk,hcd⟩:=F.ex;exact .all (h kV doc pm an cdv ct)
theorem cO {x qual:Str}{st:Stmt}{f:Addr}{oc:Value}{od an:Option Addr}{osl:Array (Option Value)}{kV doc pm cdv ct:Value}(l:K.lookup f=some ⟨oc,od,.func (fnOf x qual (bA st) (aL st) (aB st) .none kV doc pm an cdv ct),osl⟩)
  (c:codeIn K cdv qual=true) (k:keepIn K (.ref f)=true):Fun K x qual st f (fnOf x qual (bA st) (aL st) (aB st) .none kV doc pm an cdv ct):=⟨⟨oc,od,kV,doc,pm,an,cdv,ct,osl,rfl,l,c⟩,k⟩
end
section
variable {X:Cx}
theorem pv (i:Nat){x:Str}{pos:Pos}(hN:X.N[i]? =some x:=by rfl)(hv:Vis X.env.scope x:=by first|exact Or.inl rfl|exact Or.inr (Or.inl rfl)|exact Or.inr (Or.inr rfl))(hd:(x==("__debug__":Str))=false:=by decide)
  (hcd:(x==("__classdict__":Str))=false:=by decide):PE X (.Name x pos) (uQ i):=pe_var hN hv hd hcd
end
def dQ (H H':Hp):Prop:= ∀b o,H b=some o->H' b=some o
theorem dQ.refl (H:Hp):dQ H H:=λ_ _ h=>h
theorem dQ.trans {H H1 H2:Hp}(a:dQ H H1)(b:dQ H1 H2):dQ H H2:=λc o h=>b c o (a c o h)
theorem dQ.free {H H':Hp}(e:dQ H H'){l:Addr}(h:H' l=Option.none):H l=Option.none:=by
 cases q:H l with
 | none=>rfl
 | some o=>
  rw[e l o q]at h;cases h
theorem dQ.seq {K:Frag}{H H':Hp}{a:Addr}{xs:List V}(e:dQ H H')(h:SqL K H a xs):SqL K H' a xs:=by
 rcases h with(h| ⟨o,h⟩)|h
 ·exact .inl (.inl (e _ _ h))
 ·exact .inl (.inr ⟨o,e _ _ h⟩)
 ·exact .inr h
end L2
section
namespace M
open PySem PySem.Spec PyProof.Rows L2
inductive D where
 | non|bl (b:Bool)|int (i:Int)|str (x:Str)|ty (n:String)
 | tup (l:List D)|lst (l:List D)|rol (l:List D)
 | obj (C:Addr) (ks:List Str) (l:List D)
 | adr (a:Addr)
 | xob (a d:Addr) (ks:List Str) (l:List D)
abbrev AS:=Addr->Prop
def KT (K:Frag)(a:Addr)(vs:List V):Prop:=
 ∃(o:Obj) (its:Array Value) (n:Nat),K.lookup a=some o/\o.cls= .type "tuple"/\o.data= .seq its n/\its.size<=sizeLine/\aZ vs its.toList
def KL (K:Frag)(a:Addr)(vs:List V):Prop:=
 ∃(o:Obj) (its:Array Value) (n:Nat),K.lookup a=some o/\o.cls= .type "list"/\o.dict=none/\o.data= .seq its n/\its.size<=sizeLine/\aZ vs its.toList
def OkC (K:Frag)(C:Addr)(ks:List Str):Prop:=Cls K C/\ ∀f∈ks,NoAttr K C f
mutual
def Rep (K:Frag)(A:AS)(H:Hp):D->V->Prop
 | .non,v=>v= .non
 | .bl b,v=>v= .bl b
 | .int i,v=>v= .int i
 | .str x,v=>v= .str x
 | .ty n,v=>v= .ty n
 | .tup l,v=> ∃a vs,v= .ref a/\((¬A a/\Rd H a (.tup vs))\/KT K a vs)/\aO K A H l vs
 | .lst l,v=> ∃a vs,v= .ref a/\ ¬A a/\H a=some (.lst vs)/\aO K A H l vs
 | .rol l,v=> ∃a vs,v= .ref a/\((¬A a/\Rd H a (.lst vs))\/KL K a vs)/\aO K A H l vs
 | .obj C ks l,v=> ∃a dx vs,v= .ref a/\ ¬A a/\H a=some (.ins C dx (ks.zip vs))/\ks.length=vs.length/\aO K A H l vs/\OkC K C ks
 | .adr a,v=>v= .ref a
 | .xob a d ks l,v=> ∃vs,v= .ref a/\ ¬A d/\H d=some (.xd (ks.zip vs))/\ks.length=vs.length/\aO K A H l vs
def aO (K:Frag)(A:AS)(H:Hp):List D->List V->Prop
 | [],vs=>vs=[]
 | d::ds,vs=> ∃v vr,vs=v::vr/\Rep K A H d v/\aO K A H ds vr
end
section
variable {K:Frag}{A A':AS}{H H':Hp}
def fM (A:AS)(H:Hp)(A':AS)(H':Hp):Prop:= ∀b o,¬A b->H b=some o-> ¬A' b/\H' b=some o
theorem Rd.pres (p:fM A H A' H'){a:Addr}{u:HO}(n: ¬A a)(r:Rd H a u): ¬A' a/\Rd H' a u:=by
 rcases r with r| ⟨o,r⟩
 ·exact⟨(p a _ n r).1,.inl (p a _ n r).2⟩
 ·exact⟨(p a _ n r).1,.inr ⟨o,(p a _ n r).2⟩⟩
mutual
theorem Rep.mono (p:fM A H A' H'): ∀{d:D} {v:V},Rep K A H d v->Rep K A' H' d v
 | .non,_,h=>h
 | .bl _,_,h=>h
 | .int _,_,h=>h
 | .str _,_,h=>h
 | .ty _,_,h=>h
 | .tup l,v,h=>by
  simp only[Rep]at h⊢;obtain⟨a,vs,e,c,r⟩:=h;refine⟨a,vs,e,?_,aO.mono p r⟩;rcases c with⟨n,c⟩|c
  ·exact .inl (Rd.pres p n c)
  ·exact .inr c
 | .lst l,v,h=>by
  simp only[Rep]at h⊢;obtain⟨a,vs,e,n,c,r⟩:=h;exact⟨a,vs,e,(p a _ n c).1,(p a _ n c).2,aO.mono p r⟩
 | .rol l,v,h=>by
  simp only[Rep]at h⊢;obtain⟨a,vs,e,c,r⟩:=h;refine⟨a,vs,e,?_,aO.mono p r⟩;rcases c with⟨n,c⟩|c
  ·exact .inl (Rd.pres p n c)
  ·exact .inr c
 | .obj C ks l,v,h=>by
  simp only[Rep]at h⊢;obtain⟨a,dx,vs,e,n,c,hl,r,ok⟩:=h;exact⟨a,dx,vs,e,(p a _ n c).1,(p a _ n c).2,hl,aO.mono p r,ok⟩
 | .adr _,_,h=>h
 | .xob a d ks l,v,h=>by
  simp only[Rep]at h⊢;obtain⟨vs,e,n,c,hl,r⟩:=h;exact⟨vs,e,(p d _ n c).1,(p d _ n c).2,hl,aO.mono p r⟩
theorem aO.mono (p:fM A H A' H'): ∀{l:List D} {vs:List V},aO K A H l vs->aO K A' H' l vs
 | [],_,h=>by simp only[aO]at h ⊢; exact h
 | d::ds,vs,h=>by
  simp only[aO]at h⊢;obtain⟨v,vr,e,r,rs⟩:=h;exact⟨v,vr,e,Rep.mono p r,aO.mono p rs⟩
end
theorem aO.length: ∀{l:List D} {vs:List V},aO K A H l vs->l.length=vs.length
 | [],_,h=>by simp only[aO]at h;subst h;rfl
 | d::ds,vs,h=>by
  simp only[aO]at h;obtain⟨v,vr,rfl,_,rs⟩:=h;simp only[length_cons,aO.length rs]
theorem aO.nil:aO K A H [] []:=by simp only[aO]
theorem aO.cons {d:D}{v:V}{l:List D}{vs:List V}(r:Rep K A H d v)(rs:aO K A H l vs):aO K A H (d::l) (v::vs):=by
 simp only[aO];exact⟨v,vs,rfl,r,rs⟩
theorem aO.uncons {d:D}{l:List D}{vs:List V}(h:aO K A H (d::l) vs): ∃v vr,vs=v::vr/\Rep K A H d v/\aO K A H l vr:=by
 simpa only[aO]using h
theorem aO.unnil {vs:List V}(h:aO K A H [] vs):vs=[]:=by simpa only[aO]using h
theorem aO.append: ∀{l m:List D} {vs ws:List V},aO K A H l vs->aO K A H m ws->aO K A H (l++m) (vs++ws)
 | [],_,_,_,h,g=>by rw[h.unnil];exact g
 | d::l,m,vs,ws,h,g=>by
  obtain⟨v,vr,rfl,r,rs⟩:=h.uncons;exact .cons r (aO.append rs g)
theorem aO.get: ∀{l:List D} {vs:List V} {i:Nat} {d:D},aO K A H l vs->l[i]? =some d-> ∃v,vs[i]? =some v/\Rep K A H d v
 | [],_,_,_,_,e=>by simp at e
 | d::l,vs,0,d',h,e=>by
  obtain⟨v,vr,rfl,r,rs⟩:=h.uncons;simp at e;subst e;exact⟨v,by simp,r⟩
 | d::l,vs,i+1,d',h,e=>by
  obtain⟨v,vr,rfl,r,rs⟩:=h.uncons;obtain⟨w,h1,h2⟩:=aO.get (i:=i) rs (by simpa using e)
  exact⟨w,by simpa using h1,h2⟩
theorem aO.set: ∀{l:List D} {vs:List V} {d:D} {v:V} (i:Nat),aO K A H l vs->Rep K A H d v->aO K A H (l.set i d) (vs.set i v)
 | [],_,_,_,_,h,_=>by rw[h.unnil];exact .nil
 | d'::l,vs,d,v,0,h,g=>by
  obtain⟨w,vr,rfl,r,rs⟩:=h.uncons;exact .cons g rs
 | d'::l,vs,d,v,i+1,h,g=>by
  obtain⟨w,vr,rfl,r,rs⟩:=h.uncons;exact .cons r (aO.set i rs g)
theorem aO.drop: ∀{l:List D} {vs:List V} (n:Nat),aO K A H l vs->aO K A H (l.drop n) (vs.drop n)
 | _,_,0,h=>h
 | [],_,n+1,h=>by rw[h.unnil];exact .nil
 | d::l,vs,n+1,h=>by
  obtain⟨v,vr,rfl,r,rs⟩:=h.uncons;exact aO.drop n rs
theorem aO.take: ∀{l:List D} {vs:List V} (n:Nat),aO K A H l vs->aO K A H (l.take n) (vs.take n)
 | _,_,0,h=>by simp only[List.take_zero];exact .nil
 | [],_,n+1,h=>by rw[h.unnil];exact .nil
 | d::l,vs,n+1,h=>by
  obtain⟨v,vr,rfl,r,rs⟩:=h.uncons;exact .cons r (aO.take n rs)
theorem aO.rep {l:List D}{vs:List V}(h:aO K A H l vs): ∀k:Nat,aO K A H (replicate k l).flatten (replicate k vs).flatten
 | 0=> .nil
 | k+1=>by
  rw[replicate_succ,replicate_succ,flatten_cons,flatten_cons];exact .append h (h.rep k)
theorem aO.reverse: ∀{l:List D} {vs:List V},aO K A H l vs->aO K A H l.reverse vs.reverse
 | [],_,h=>by rw[h.unnil];exact .nil
 | d::l,vs,h=>by
  obtain⟨v,vr,rfl,r,rs⟩:=h.uncons;rw[reverse_cons,reverse_cons];exact .append (aO.reverse rs) (.cons r .nil)
theorem fM.same (s:dQ H H'):fM A H A H':=λb o n e=>⟨n,s b o e⟩
theorem fM.sub (s:dQ H H')(h: ∀a,A' a->A a):fM A H A' H':=λb o n e=>⟨λq=>n (h b q),s b o e⟩
theorem fM.fresh {a:Addr}(s:dQ H H')(n:H a=none):fM A H (λb=>A b\/b=a) H':=λb o nb e=>
 ⟨λq=>q.elim nb λz=>(by subst z;rw[n]at e;cases e),s b o e⟩
theorem fM.upd {a:Addr}{o:HO}(h:A a):fM A H A (upd H a o):=λb o' nb e=>⟨nb,by rw[dA (λz=>nb (by subst z;exact h))];exact e⟩
end
inductive B where
 | pu (d:D)|ow (l:List D)|bo (l:List D)
def B.d:B->D
 | .pu d=>d
 | .ow l=> .lst l
 | .bo l=> .lst l
abbrev Ev:=List (Option B)
def Own (ρ:Ev)(σ:L2.St):AS:=λa=> ∃(i:Nat) (l:List D),ρ[i]? =some (some (.ow l))/\σ[i]? =some (some (.ref a))
structure C0 where
 H0:Hp
 A0:AS
def Av (C:C0)(ρ:Ev)(σ:L2.St):AS:=λa=>C.A0 a\/Own ρ σ a
structure EOk (K:Frag)(C:C0)(ρ:Ev)(σ:L2.St)(H:Hp):Prop where
 len:ρ.length=σ.length
 pu: ∀(i:Nat) (d:D),ρ[i]? =some (some (.pu d))-> ∃v,σ[i]? =some (some v)/\Rep K (Av C ρ σ) H d v
 ow: ∀(i:Nat) (l:List D),ρ[i]? =some (some (.ow l))-> ∃a vs,σ[i]? =some (some (.ref a))/\H a=some (.lst vs)/\C.H0 a=none/\aO K (Av C ρ σ) H l vs
 inj: ∀(i j:Nat) (l l':List D) (a:Addr),ρ[i]? =some (some (.ow l))->ρ[j]? =some (some (.ow l'))->σ[i]? =some (some (.ref a))->σ[j]? =some (some (.ref a))->i=j
 bo: ∀(i:Nat) (l:List D),ρ[i]? =some (some (.bo l))-> ∃a vs,σ[i]? =some (some (.ref a))/\C.A0 a/\C.H0 a=some (.lst vs)/\aO K (Av C ρ σ) H l vs
 ext:dQ C.H0 H
 a0: ∀a,C.A0 a->C.H0 a≠none
section
variable {K:Frag}{C:C0}{ρ ρ':Ev}{σ σ':L2.St}{H H':Hp}
theorem EOk.avSome (I:EOk K C ρ σ H){a:Addr}(h:Av C ρ σ a):H a≠none:=by
 rcases h with h| ⟨i,l,h1,h2⟩
 ·intro z;cases e:C.H0 a with
  | none=>exact I.a0 a h e
  | some o=>rw[I.ext a o e]at z;cases z
 ·obtain⟨b,vs,h3,h4,_⟩:=I.ow i l h1;rw[h2]at h3;cases h3;rw[h4];simp
theorem EOk.same (I:EOk K C ρ σ H)(s:dQ H H'):EOk K C ρ σ H' where
 len:=I.len
 pu:=λi d h=>let ⟨v,h1,h2⟩:=I.pu i d h;⟨v,h1,h2.mono (.same s)⟩
 ow:=λi l h=>let ⟨a,vs,h1,h2,h3,h4⟩:=I.ow i l h;⟨a,vs,h1,s _ _ h2,h3,h4.mono (.same s)⟩
 inj:=I.inj
 bo:=λi l h=>let ⟨a,vs,h1,h2,h3,h4⟩:=I.bo i l h;⟨a,vs,h1,h2,h3,h4.mono (.same s)⟩
 ext:=I.ext.trans s
 a0:=I.a0
theorem get_set_ne {α:Type}{l:List α}{i j:Nat}{x:α}(h:i≠j):(l.set i x)[j]? =l[j]? :=by
 rw[getElem?_set];simp[h]
theorem dI {α:Type}{l:List α}{i:Nat}{x:α}(h:i<l.length):(l.set i x)[i]? =some x:=by
 rw[getElem?_set];simp[h]
theorem aJ {α:Type}{l:List α}{i j:Nat}{x y:α}(h:(l.set i x)[j]? =some y):(i=j/\y=x/\i<l.length)\/(i≠j/\l[j]? =some y):=by
 by_cases e:i=j
 ·subst e;rw[getElem?_set]at h
  by_cases hl:i<l.length
  ·simp[hl]at h;exact .inl ⟨rfl,h.symm,hl⟩
  ·simp[hl]at h
 ·exact .inr ⟨e,by rw[get_set_ne e]at h;exact h⟩
def hJ (K:Frag)(A:AS)(H H':Hp):B->V->Prop
 | .pu d,v=>Rep K A H' d v
 | .ow l,v=> ∃a vs,v= .ref a/\H a=none/\H' a=some (.lst vs)/\aO K (λb=>A b\/b=a) H' l vs
 | .bo _,_=>False
theorem hJ.rep {A:AS}(hA: ∀a,A a->H a≠none): ∀{b:B} {v:V},hJ K A H H' b v->Rep K A H' b.d v
 | .pu d,v,h=>h
 | .ow l,v,h=>by
  obtain⟨a,vs,e,n,h1,r⟩:=h;show Rep K A H' (.lst l) v;simp only[Rep];exact⟨a,vs,e,λz=>hA a z n,h1,r.mono (λb o nb q=>⟨λz=>nb (.inl z),q⟩)⟩
 | .bo l,v,h=>h.elim
theorem EOk.store (I:EOk K C ρ σ H){i:Nat}{b:B}{v:V}{H1:Hp}(s:dQ H H1)(r:hJ K (Av C ρ σ) H H1 b v)(hi:i<σ.length):EOk K C (ρ.set i (some b)) (σ.set i (some v)) H1:=by
 have I1:=I.same s;have hir:i<ρ.length:=by rw[I.len];exact hi
 cases b with
 | pu d=>
  have sub: ∀a,Av C (ρ.set i (some (.pu d))) (σ.set i (some v)) a->Av C ρ σ a:=by
   rintro a (z| ⟨j,l,h1,h2⟩)
   ·exact .inl z
   ·rcases aJ h1 with⟨rfl,h3,_⟩| ⟨ne,h3⟩
    ·cases h3
    ·rw[get_set_ne ne]at h2;exact .inr ⟨j,l,h3,h2⟩
  refine⟨by rw[length_set,length_set];exact I.len,?_,?_,?_,?_,I1.ext,I.a0⟩
  rotate_right
  ·intro j l h;rcases aJ h with⟨rfl,h3,_⟩| ⟨ne,h3⟩
   ·cases h3
   ·obtain⟨a,vs,h4,h5,h6,h7⟩:=I1.bo j l h3;exact⟨a,vs,by rw[get_set_ne ne];exact h4,h5,h6,h7.mono (.sub (.refl _) sub)⟩
  ·intro j d' h;rcases aJ h with⟨rfl,h3,_⟩| ⟨ne,h3⟩
   ·cases h3;exact⟨v,dI hi,Rep.mono (.sub (.refl _) sub) r⟩
   ·obtain⟨v',h4,h5⟩:=I1.pu j d' h3;exact⟨v',by rw[get_set_ne ne];exact h4,h5.mono (.sub (.refl _) sub)⟩
  ·intro j l h;rcases aJ h with⟨rfl,h3,_⟩| ⟨ne,h3⟩
   ·cases h3
   ·obtain⟨a,vs,h4,h5,h6,h7⟩:=I1.ow j l h3;exact⟨a,vs,by rw[get_set_ne ne];exact h4,h5,h6,h7.mono (.sub (.refl _) sub)⟩
  ·intro j k l l' a h1 h2 h3 h4;rcases aJ h1 with⟨rfl,z,_⟩| ⟨ne,z⟩
   ·cases z
   ·rcases aJ h2 with⟨rfl,z',_⟩| ⟨ne',z'⟩
    ·cases z'
    ·rw[get_set_ne ne]at h3;rw[get_set_ne ne']at h4;exact I.inj j k l l' a z z' h3 h4
 | ow l0=>
  obtain⟨a0,vs0,rfl,n0,e0,r0⟩:=r;have sub: ∀a,Av C (ρ.set i (some (.ow l0))) (σ.set i (some (.ref a0))) a->Av C ρ σ a\/a=a0:=by
   rintro a (z| ⟨j,l,h1,h2⟩)
   ·exact .inl (.inl z)
   ·rcases aJ h1 with⟨rfl,h3,_⟩| ⟨ne,h3⟩
    ·rw[dI hi]at h2;cases h2;exact .inr rfl
    ·rw[get_set_ne ne]at h2;exact .inl (.inr ⟨j,l,h3,h2⟩)
  have P:fM (Av C ρ σ) H (Av C (ρ.set i (some (.ow l0))) (σ.set i (some (.ref a0)))) H1:=λb o nb e=>
   ⟨λq=>(sub b q).elim nb λz=>(by subst z;rw[n0]at e;cases e),s b o e⟩
  refine⟨by rw[length_set,length_set];exact I.len,?_,?_,?_,?_,I1.ext,I.a0⟩
  rotate_right
  ·intro j l h;rcases aJ h with⟨rfl,h3,_⟩| ⟨ne,h3⟩
   ·cases h3
   ·obtain⟨a,vs,h4,h5,h6,h7⟩:=I.bo j l h3;exact⟨a,vs,by rw[get_set_ne ne];exact h4,h5,h6,h7.mono P⟩
  ·intro j d' h;rcases aJ h with⟨rfl,h3,_⟩| ⟨ne,h3⟩
   ·cases h3
   ·obtain⟨v',h4,h5⟩:=I.pu j d' h3;exact⟨v',by rw[get_set_ne ne];exact h4,h5.mono P⟩
  ·intro j l h;rcases aJ h with⟨rfl,h3,_⟩| ⟨ne,h3⟩
   ·cases h3;refine⟨a0,vs0,dI hi,e0,?_,r0.mono (λb o nb q=>⟨λz=>nb (sub b z),q⟩)⟩
    cases e:C.H0 a0 with
    | none=>rfl
    | some o=>rw[I.ext _ _ e]at n0;cases n0
   ·obtain⟨a,vs,h4,h5,h6,h7⟩:=I.ow j l h3;exact⟨a,vs,by rw[get_set_ne ne];exact h4,s _ _ h5,h6,h7.mono P⟩
  ·intro j k l l' a h1 h2 h3 h4;have old: ∀{j:Nat} {l:List D},ρ[j]? =some (some (.ow l))->σ[j]? ≠some (some (.ref a0)):=λ{j l} h z=>by
    obtain⟨b,vs,h4,h5,_⟩:=I.ow j l h;rw[z]at h4;cases h4;rw[n0]at h5;cases h5
   rcases aJ h1 with⟨rfl,z,_⟩| ⟨ne,z⟩
   ·rw[dI hi]at h3;cases h3;rcases aJ h2 with⟨rfl,z',_⟩| ⟨ne',z'⟩
    ·rfl
    ·rw[get_set_ne ne']at h4;exact absurd h4 (old z')
   ·rw[get_set_ne ne]at h3;rcases aJ h2 with⟨rfl,z',_⟩| ⟨ne',z'⟩
    ·rw[dI hi]at h4;cases h4;exact absurd h3 (old z)
    ·rw[get_set_ne ne']at h4;exact I.inj j k l l' a z z' h3 h4
 | bo l0=>exact r.elim
theorem EOk.freeze (I:EOk K C ρ σ H){i:Nat}{l:List D}(h:ρ[i]? =some (some (.ow l))) :
  EOk K C (ρ.set i (some (.pu (.lst l)))) σ H/\(∀a,Own (ρ.set i (some (.pu (.lst l)))) σ a->Own ρ σ a)/\ ∃v,σ[i]? =some (some v)/\Rep K (Av C (ρ.set i (some (.pu (.lst l)))) σ) H (.lst l) v:=by
 have sub: ∀a,Own (ρ.set i (some (.pu (.lst l)))) σ a->Own ρ σ a:=by
  rintro a ⟨j,l',h1,h2⟩;rcases aJ h1 with⟨rfl,h3,_⟩| ⟨ne,h3⟩
  ·cases h3
  ·exact⟨j,l',h3,h2⟩
 have subA: ∀a,Av C (ρ.set i (some (.pu (.lst l)))) σ a->Av C ρ σ a:=λa z=>z.imp id (sub a)
 obtain⟨a,vs,h1,h2,h3,h4⟩:=I.ow i l h;have na: ¬Av C (ρ.set i (some (.pu (.lst l)))) σ a:=by
  rintro(z| ⟨j,l',g1,g2⟩)
  ·exact I.a0 a z h3
  ·rcases aJ g1 with⟨rfl,g3,_⟩| ⟨ne,g3⟩
   ·cases g3
   ·exact ne (I.inj i j l l' a h g3 h1 g2)
 have R:Rep K (Av C (ρ.set i (some (.pu (.lst l)))) σ) H (.lst l) (.ref a):=by
  simp only[Rep];exact⟨a,vs,rfl,na,h2,h4.mono (.sub (.refl _) subA)⟩
 refine⟨⟨by rw[length_set];exact I.len,?_,?_,?_,?_,I.ext,I.a0⟩,sub,.ref a,h1,R⟩
 rotate_right
 ·intro j l' g;rcases aJ g with⟨rfl,g3,_⟩| ⟨ne,g3⟩
  ·cases g3
  ·obtain⟨a',vs',g4,g5,g6,g7⟩:=I.bo j l' g3;exact⟨a',vs',g4,g5,g6,g7.mono (.sub (.refl _) subA)⟩
 ·intro j d' g;rcases aJ g with⟨rfl,g3,_⟩| ⟨ne,g3⟩
  ·cases g3;exact⟨_,h1,R⟩
  ·obtain⟨v',g4,g5⟩:=I.pu j d' g3;exact⟨v',g4,g5.mono (.sub (.refl _) subA)⟩
 ·intro j l' g;rcases aJ g with⟨rfl,g3,_⟩| ⟨ne,g3⟩
  ·cases g3
  ·obtain⟨a',vs',g4,g5,g6,g7⟩:=I.ow j l' g3;exact⟨a',vs',g4,g5,g6,g7.mono (.sub (.refl _) subA)⟩
 ·intro j k l1 l2 a' g1 g2 g3 g4;rcases aJ g1 with⟨rfl,z,_⟩| ⟨ne,z⟩
  ·cases z
  ·rcases aJ g2 with⟨rfl,z',_⟩| ⟨ne',z'⟩
   ·cases z'
   ·exact I.inj j k l1 l2 a' z z' g3 g4
theorem EOk.write (I:EOk K C ρ σ H){i:Nat}{l l':List D}{a:Addr}{vs':List V}(h:ρ[i]? =some (some (.ow l)))(hs:σ[i]? =some (some (.ref a)))(r:aO K (Av C ρ σ) H l' vs') :
  EOk K C (ρ.set i (some (.ow l'))) σ (upd H a (.lst vs')):=by
 have hi:i<ρ.length:=(List.getElem?_eq_some_iff.mp h).1;have sub: ∀b,Av C (ρ.set i (some (.ow l'))) σ b->Av C ρ σ b:=by
  rintro b (z| ⟨j,l2,h1,h2⟩)
  ·exact .inl z
  ·rcases aJ h1 with⟨rfl,h3,_⟩| ⟨ne,h3⟩
   ·exact .inr ⟨i,l,h,h2⟩
   ·exact .inr ⟨j,l2,h3,h2⟩
 have own:Av C ρ σ a:= .inr ⟨i,l,h,hs⟩;have P:fM (Av C ρ σ) H (Av C (ρ.set i (some (.ow l'))) σ) (upd H a (.lst vs')):=λb o nb e=>⟨λz=>nb (sub b z),(fM.upd own b o nb e).2⟩
 obtain⟨a1,vs,h1,h2,h3,h4⟩:=I.ow i l h;rw[hs]at h1;cases h1;refine⟨by rw[length_set];exact I.len,?_,?_,?_,?_,?_,I.a0⟩
 rotate_left 3
 ·intro j l2 g;rcases aJ g with⟨rfl,g3,_⟩| ⟨ne,g3⟩
  ·cases g3
  ·obtain⟨a',vs',g4,g5,g6,g7⟩:=I.bo j l2 g3;exact⟨a',vs',g4,g5,g6,g7.mono P⟩
 rotate_left 1
 ·intro j d' g;rcases aJ g with⟨rfl,g3,_⟩| ⟨ne,g3⟩
  ·cases g3
  ·obtain⟨v',g4,g5⟩:=I.pu j d' g3;exact⟨v',g4,g5.mono P⟩
 ·intro j l2 g;rcases aJ g with⟨rfl,g3,_⟩| ⟨ne,g3⟩
  ·cases g3;exact⟨a,vs',hs,i5,h3,r.mono P⟩
  ·obtain⟨a',vs2,g4,g5,g6,g7⟩:=I.ow j l2 g3;refine⟨a',vs2,g4,?_,g6,g7.mono P⟩;rw[dA (λz=> ?_)]
   ·exact g5
   ·subst z;exact ne (I.inj i j l l2 a' h g3 hs g4)
 ·intro j k l1 l2 a' g1 g2 g3 g4;have old: ∀{j:Nat} {l1:List D},(ρ.set i (some (.ow l')))[j]? =some (some (.ow l1))-> ∃l3,ρ[j]? =some (some (.ow l3)):=λ{j l1} g=>by
   rcases aJ g with⟨rfl,z,_⟩| ⟨ne,z⟩
   ·exact⟨l,h⟩
   ·exact⟨l1,z⟩
  obtain⟨_,q1⟩:=old g1;obtain⟨_,q2⟩:=old g2;exact I.inj j k _ _ a' q1 q2 g3 g4
 ·intro b o e;rw[dA (λz=> ?_)]
  ·exact I.ext b o e
  ·subst z;rw[h3]at e;cases e
def C0.raise (C:C0)(ρ:Ev)(σ:L2.St)(H:Hp)(D:(a:Addr)->Decidable (Own ρ σ a)):C0:=⟨λb=> @ite _ (Own ρ σ b) (D b) none (H b),C.A0⟩
open Classical in
theorem EOk.raise (I:EOk K C ρ σ H):EOk K (C.raise ρ σ H λ_=>inferInstance) ρ σ H/\dQ C.H0 (C.raise ρ σ H λ_=>inferInstance).H0:=by
 have e1: ∀b,Own ρ σ b->(C.raise ρ σ H λ_=>inferInstance).H0 b=none:=λb h=>if_pos h
 have e2: ∀b,¬Own ρ σ b->(C.raise ρ σ H λ_=>inferInstance).H0 b=H b:=λb h=>if_neg h
 have no: ∀b o,C.H0 b=some o-> ¬Own ρ σ b:=λb o e ⟨i,l,h1,h2⟩=>by
  obtain⟨a,vs,h3,h4,h5,_⟩:=I.ow i l h1;rw[h2]at h3;cases h3;rw[h5]at e;cases e
 have s1:dQ C.H0 (C.raise ρ σ H λ_=>inferInstance).H0:=λb o e=>by rw[e2 b (no b o e)];exact I.ext b o e
 refine⟨⟨I.len,I.pu,λi l h=> ?_,I.inj,λi l h=> ?_,λb o e=> ?_,λa h z=> ?_⟩,s1⟩
 ·obtain⟨a,vs,h3,h4,h5,h6⟩:=I.ow i l h;exact⟨a,vs,h3,h4,e1 a ⟨i,l,h,h3⟩,h6⟩
 ·obtain⟨a,vs,h3,h4,h5,h6⟩:=I.bo i l h;exact⟨a,vs,h3,h4,s1 _ _ h5,h6⟩
 ·by_cases q:Own ρ σ b
  ·rw[e1 b q]at e;cases e
  ·rw[e2 b q]at e;exact e
 ·cases e:C.H0 a with
  | none=>exact I.a0 a h e
  | some o=>rw[s1 a o e]at z;cases z
theorem EOk.lower {C C':C0}(I:EOk K C' ρ σ H)(s:dQ C.H0 C'.H0)(e:C'.A0=C.A0)(ha: ∀a,C.A0 a->C.H0 a≠none):EOk K C ρ σ H:=by
 obtain⟨H0',A0'⟩:=C';obtain⟨H0,A0⟩:=C;have e':A0'=A0:=e;subst e';refine⟨I.len,I.pu,λi l h=> ?_,I.inj,λi l h=> ?_,s.trans I.ext,ha⟩
 ·obtain⟨a,vs,h3,h4,h5,h6⟩:=I.ow i l h;exact⟨a,vs,h3,h4,s.free h5,h6⟩
 ·obtain⟨a,vs,h3,h4,h5,h6⟩:=I.bo i l h;refine⟨a,vs,h3,h4,?_,h6⟩;cases e:H0 a with
  | none=>exact absurd e (ha a h4)
  | some o=>
   have:=s a o e;have h5':H0' a=some (.lst vs):=h5;have this':H0' a=some o:=this;rw[h5']at this';cases this';exact e
end
end M
end
section
namespace M
open PySem PySem.Spec PyProof.Rows L2
def Frz (ρ ρ':Ev):Prop:=ρ'.length=ρ.length/\ ∀i:Nat,ρ'[i]? =ρ[i]? \/ ∃l:List D,ρ[i]? =some (some (.ow l))/\ρ'[i]? =some (some (.pu (.lst l)))
theorem Frz.refl (ρ:Ev):Frz ρ ρ:=⟨rfl,λ_=> .inl rfl⟩
theorem Frz.trans {a b c:Ev}(h:Frz a b)(g:Frz b c):Frz a c:=by
 refine⟨g.1.trans h.1,λi=> ?_⟩
 rcases g.2 i with e| ⟨l,e1,e2⟩
 ·rcases h.2 i with e'| ⟨l,e1,e2⟩
  ·exact .inl (e.trans e')
  ·exact .inr ⟨l,e1,e.trans e2⟩
 ·rcases h.2 i with e'| ⟨l',e3,e4⟩
  ·exact .inr ⟨l,e'▸e1,e2⟩
  ·rw[e4]at e1;cases e1
theorem Frz.own {ρ ρ':Ev}{σ:L2.St}(f:Frz ρ ρ'){a:Addr}(h:Own ρ' σ a):Own ρ σ a:=by
 obtain⟨i,l,h1,h2⟩:=h;rcases f.2 i with e| ⟨l',_,e2⟩
 ·exact⟨i,l,e▸h1,h2⟩
 ·rw[e2]at h1;cases h1
theorem Frz.set {ρ:Ev}{i:Nat}{l:List D}(h:ρ[i]? =some (some (.ow l))):Frz ρ (ρ.set i (some (.pu (.lst l)))):=by
 refine⟨length_set,λj=> ?_⟩
 by_cases e:i=j
 ·subst e;exact .inr ⟨l,h,dI (List.getElem?_eq_some_iff.mp h).1⟩
 ·exact .inl (get_set_ne e)
section
variable {K:Frag}{C:C0}{ρ ρ':Ev}{σ:L2.St}{H H':Hp}
theorem Frz.av (f:Frz ρ ρ'){a:Addr}(h:Av C ρ' σ a):Av C ρ σ a:=h.imp id f.own
theorem EOk.frz (I:EOk K C ρ σ H)(f:Frz ρ ρ'):EOk K C ρ' σ H:=by
 have ow': ∀{j:Nat} {l:List D},ρ'[j]? =some (some (.ow l))->ρ[j]? =some (some (.ow l)):=λ{j l} h=>by
  rcases f.2 j with e| ⟨l',_,e2⟩
  ·exact e▸h
  ·rw[e2]at h;cases h
 refine⟨by rw[f.1];exact I.len,λi d h=> ?_,λi l h=> ?_,λi j l l' a h1 h2=>I.inj i j l l' a (ow' h1) (ow' h2),λi l h=> ?_,I.ext,I.a0⟩
 ·rcases f.2 i with e| ⟨l,e1,e2⟩
  ·obtain⟨v,h1,h2⟩:=I.pu i d (e▸h);exact⟨v,h1,h2.mono (.sub (.refl _) λa=>f.av)⟩
  ·rw[e2]at h;cases h;obtain⟨a,vs,h1,h2,h3,h4⟩:=I.ow i l e1;refine⟨.ref a,h1,?_⟩;simp only[Rep];refine⟨a,vs,rfl,?_,h2,h4.mono (.sub (.refl _) λa=>f.av)⟩
   rintro(z| ⟨j,l',g1,g2⟩)
   ·exact I.a0 a z h3
   ·have:=I.inj i j l l' a e1 (ow' g1) h1 g2;subst this;rw[e2]at g1;cases g1
 ·obtain⟨a,vs,h1,h2,h3,h4⟩:=I.ow i l (ow' h);exact⟨a,vs,h1,h2,h3,h4.mono (.sub (.refl _) λa=>f.av)⟩
 ·have h':ρ[i]? =some (some (.bo l)):=by
   rcases f.2 i with e| ⟨l',_,e2⟩
   ·exact e▸h
   ·rw[e2]at h;cases h
  obtain⟨a,vs,h1,h2,h3,h4⟩:=I.bo i l h';exact⟨a,vs,h1,h2,h3,h4.mono (.sub (.refl _) λa=>f.av)⟩
end
abbrev UE:=Ev->(B->Ev->Prop)->Prop
abbrev UV:=Ev->(D->Ev->Prop)->Prop
abbrev UA:=Ev->(List D->Ev->Prop)->Prop
abbrev UT:=Ev->(Bool->Ev->Prop)->Prop
def lE (K:Frag)(t:UE):TE:=λσ H Q=> ∃C ρ Q0,EOk K C ρ σ H/\t ρ Q0/\
 ∀b ρ' v H',Q0 b ρ'->Frz ρ ρ'->dQ H H'->hJ K (Av C ρ' σ) H H' b v->Q v H'
def lA (K:Frag)(t:UA):TA:=λσ H Q=> ∃C ρ Q0,EOk K C ρ σ H/\t ρ Q0/\
 ∀ds ρ' vs H',Q0 ds ρ'->Frz ρ ρ'->dQ H H'->aO K (Av C ρ' σ) H' ds vs->Q vs H'
def lT (K:Frag)(t:UT):TT:=λσ H Q=> ∃C ρ Q0,EOk K C ρ σ H/\t ρ Q0/\
 ∀b ρ' H',Q0 b ρ'->Frz ρ ρ'->dQ H H'->Q b H'
def t4 (K:Frag)(A:AS)(H:Hp):D->V->Prop
 | .tup l,v=> ∃a vs,v= .ref a/\SqT K H a vs/\aO K A H l vs
 | .lst l,v=> ∃a vs,v= .ref a/\H a=some (.lst vs)/\aO K A H l vs
 | .rol l,v=> ∃a vs,v= .ref a/\SqL K H a vs/\aO K A H l vs
 | d,v=>Rep K A H d v
def lV (K:Frag)(t:UV):TE:=λσ H Q=> ∃C ρ Q0,EOk K C ρ σ H/\t ρ Q0/\
 ∀d ρ' v H',Q0 d ρ'->Frz ρ ρ'->dQ H H'->t4 K (Av C ρ' σ) H' d v->Q v H'
def PU (X:Cx)(e:Expr)(t:UE):Prop:=PE X e (lE X.K t)
def PUV (X:Cx)(e:Expr)(t:UV):Prop:=PE X e (lV X.K t)
def PUA (X:Cx)(es:List Expr)(t:UA):Prop:=PA X es (lA X.K t)
def PUT (X:Cx)(e:Expr)(t:UT):Prop:=PT X e (lT X.K t)
def PUW (X:Cx)(e:Expr)(t:UT):Prop:=PW X e (lT X.K t)
section
variable {K:Frag}{A:AS}{H:Hp}
theorem Rep.one: ∀{d:D} {v:V},Rep K A H d v->t4 K A H d v
 | .non,_,h=>h
 | .bl _,_,h=>h
 | .int _,_,h=>h
 | .str _,_,h=>h
 | .ty _,_,h=>h
 | .tup l,v,h=>by
  simp only[Rep]at h;obtain⟨a,vs,e,c,r⟩:=h;exact⟨a,vs,e,c.imp And.right id,r⟩
 | .lst l,v,h=>by
  simp only[Rep]at h;obtain⟨a,vs,e,n,c,r⟩:=h;exact⟨a,vs,e,c,r⟩
 | .rol l,v,h=>by
  simp only[Rep]at h;obtain⟨a,vs,e,c,r⟩:=h;exact⟨a,vs,e,c.imp And.right id,r⟩
 | .obj _ _ _,_,h=>h
 | .adr _,_,h=>h
 | .xob _ _ _ _,_,h=>h
end
theorem dB {X:Cx}{e:Expr}{t t':TE}(h:PE X e t)(i: ∀σ H Q,t' σ H Q->t σ H Q):PE X e t':=λpins s σ H Q I q=>h pins s σ H Q I (i σ H Q q)
theorem zH {X:Cx}{es:List Expr}{t t':TA}(h:PA X es t)(i: ∀σ H Q,t' σ H Q->t σ H Q):PA X es t':=λpos pins s σ H Q I q=>h pos pins s σ H Q I (i σ H Q q)
theorem tZ {X:Cx}{e:Expr}{t t':TT}(h:PT X e t)(i: ∀σ H Q,t' σ H Q->t σ H Q):PT X e t':=λpins s σ H Q I q=>h pins s σ H Q I (i σ H Q q)
theorem PWimp {X:Cx}{e:Expr}{t t':TT}(h:PW X e t)(i: ∀σ H Q,t' σ H Q->t σ H Q):PW X e t':=λw pins s σ H Q I q=>h w pins s σ H Q I (i σ H Q q)
section
variable {X:Cx}{a b c e o:Expr}{es m4:List Expr}{pos:Pos}{ta tb tc:UE}
def uC (d:D):UE:=λρ Q=>Q (.pu d) ρ
theorem aF {i j pos}:PU X (.Constant (.int i) j pos) (uC (.int i)):=dB pe_int λσ H Q ⟨C,ρ,Q0,I,h,k⟩=>k _ ρ _ H h (.refl _) (.refl _) (show Rep _ _ _ _ _ by simp only[Rep])
theorem i7 {b j pos}:PU X (.Constant (.bool b) j pos) (uC (.bl b)):=dB pe_bl λσ H Q ⟨C,ρ,Q0,I,h,k⟩=>k _ ρ _ H h (.refl _) (.refl _) (show Rep _ _ _ _ _ by simp only[Rep])
theorem eA {x j pos}:PU X (.Constant (.str x) j pos) (uC (.str x)):=dB pe_str λσ H Q ⟨C,ρ,Q0,I,h,k⟩=>k _ ρ _ H h (.refl _) (.refl _) (show Rep _ _ _ _ _ by simp only[Rep])
def u0 (ρ:Ev)(i:Nat)(Q:B->Ev->Prop):Prop:=match ρ[i]? with
 | some (some (.pu d))=>Q (.pu d) ρ
 | some (some (.ow l))=>Q (.pu (.lst l)) (ρ.set i (some (.pu (.lst l))))
 | _=>False
def aG (i:Nat):UE:=λρ Q=>u0 ρ i Q
theorem aC (i:Nat){x:Str}{pos:Pos}(h:PE X (.Name x pos) (uQ i)):PU X (.Name x pos) (aG i):=dB h λσ H Q ⟨C,ρ,Q0,I,h,k⟩=>by
 unfold aG u0 at h;split at h
 ·rename_i d e
  obtain⟨v,h1,h2⟩:=I.pu i d e;exact⟨v,h1,k _ ρ v H h (.refl _) (.refl _) h2⟩
 ·rename_i l e
  obtain⟨_,_,v,h1,h2⟩:=I.freeze e;exact⟨v,h1,k _ _ v H h (.set e) (.refl _) h2⟩
 ·exact h.elim
def wA (ρ:Ev)(i:Nat)(Q:D->Ev->Prop):Prop:=match ρ[i]? with
 | some (some (.pu d))=>Q d ρ
 | some (some (.ow l))=>Q (.lst l) ρ
 | some (some (.bo l))=>Q (.lst l) ρ
 | _=>False
def aV (i:Nat):UV:=λρ Q=>wA ρ i Q
theorem aQ (i:Nat){x:Str}{pos:Pos}(h:PE X (.Name x pos) (uQ i)):PUV X (.Name x pos) (aV i):=dB h λσ H Q ⟨C,ρ,Q0,I,h,k⟩=>by
 unfold aV wA at h;split at h
 ·rename_i d e
  obtain⟨v,h1,h2⟩:=I.pu i d e;exact⟨v,h1,k _ ρ v H h (.refl _) (.refl _) h2.one⟩
 ·rename_i l e
  obtain⟨a,vs,h1,h2,h3,h4⟩:=I.ow i l e;exact⟨_,h1,k _ ρ _ H h (.refl _) (.refl _) ⟨a,vs,rfl,h2,h4⟩⟩
 ·rename_i l e
  obtain⟨a,vs,h1,h2,h3,h4⟩:=I.bo i l e;exact⟨_,h1,k _ ρ _ H h (.refl _) (.refl _) ⟨a,vs,rfl,I.ext _ _ h3,h4⟩⟩
 ·exact h.elim
def uV (t:UE):UV:=λρ Q=>t ρ λb ρ1=>Q b.d ρ1
theorem EOk.avF {K:Frag}{C:C0}{ρ ρ':Ev}{σ:L2.St}{H:Hp}(I:EOk K C ρ σ H)(f:Frz ρ ρ'){a:Addr}(h:Av C ρ' σ a):H a≠none:=I.avSome (f.av h)
theorem pv_of (h:PU X e ta):PUV X e (uV ta):=dB h λσ H Q ⟨C,ρ,Q0,I,h,k⟩=>
 ⟨C,ρ,_,I,h,λb ρ' v H' q f s r=>k b.d ρ' v H' q f s (r.rep λa z=>I.avF f z).one⟩
theorem qN {x:Str}{v:V}{d:D}{pos:Pos}(h:PE X (.Name x pos) (tC v))(r: ∀A H,Rep X.K A H d v):PU X (.Name x pos) (uC d):=dB h λσ H Q ⟨C,ρ,Q0,I,h,k⟩=>k _ ρ _ H h (.refl _) (.refl _) (r _ _)
def OpU (X:Cx)(f:Value->Value->Sem Value)(g:D->D->(B->Prop)->Prop):Prop:=
 ∀(A:AS) (H:Hp) (d e:D) (v w:V) (Q0:B->Prop) (Q:VK),(∀a,A a->H a≠none)->Rep X.K A H d v->Rep X.K A H e w->g d e Q0->
  (∀b v' H',Q0 b->dQ H H'->hJ X.K A H H' b v'->Q v' H')-> ∃r,OpR X f r/\r v w H Q
def uOp (g:D->D->(B->Prop)->Prop)(ta tb:UE):UE:=λρ Q=>ta ρ λx ρ1=>tb ρ1 λy ρ2=>g x.d y.d λb=>Q b ρ2
theorem wB {f:Value->Value->Sem Value}:OpR X f (λx y H Q=> ∃r,OpR X f r/\r x y H Q):=λpins s σ H x y v u Q I rx ry ⟨r,hr,q⟩=>hr pins s σ H x y v u Q I rx ry q
theorem hJ.from {K:Frag}{A:AS}{H0 H H':Hp}(s:dQ H0 H): ∀{b:B} {v:V},hJ K A H H' b v->hJ K A H0 H' b v
 | .pu _,_,h=>h
 | .ow _,_,⟨a,vs,e,n,h1,r⟩=>⟨a,vs,e,s.free n,h1,r⟩
 | .bo _,_,h=>h.elim
theorem lOp {f:Value->Value->Sem Value}{g:D->D->(B->Prop)->Prop}(ho:OpU X f g)(σ:L2.St)(H:Hp)(Q:VK)(h:lE X.K (uOp g ta tb) σ H Q) :
  tOp (λx y H Q=> ∃r,OpR X f r/\r x y H Q) (lE X.K ta) (lE X.K tb) σ H Q:=by
 obtain⟨C,ρ,Q0,I,h,k⟩:=h;refine⟨C,ρ,_,I,h,λx ρ1 v H1 q1 f1 s1 r1=> ?_⟩
 have I1:=(I.frz f1).same s1;refine⟨C,ρ1,_,I1,q1,λy ρ2 w H2 q2 f2 s2 r2=> ?_⟩
 have I2:=(I1.frz f2).same s2;have hA: ∀a,Av C ρ2 σ a->H2 a≠none:=λa z=>I2.avSome z
 refine ho (Av C ρ2 σ) H2 x.d y.d v w _ Q hA ((r1.rep λa z=>I.avF f1 z).mono (.sub s2 λa=>f2.av)) (r2.rep λa z=>I1.avF f2 z) q2 λb v' H' q s r=> ?_
 exact k b ρ2 v' H' q (f1.trans f2) (s1.trans (s2.trans s)) (r.from (s1.trans s2))
theorem aP {op:Operator}{g:D->D->(B->Prop)->Prop}(ho:OpU X (binaryOp op) g)(ha:PU X a ta)(hb:PU X b tb):PU X (.BinOp a op b pos) (uOp g ta tb):=
 dB (pe_op wB ha hb) (lOp ho)
theorem qO {op:CmpOp}{g:D->D->(B->Prop)->Prop}(ho:OpU X (compareOp op) g)(ha:PU X a ta)(hb:PU X b tb)(hm:behindInMarks op b=false):PU X (.Compare a [op] [b] pos) (uOp g ta tb):=
 dB (xX wB ha hb hm) (lOp ho)
def isB (Q:Bool->Ev->Prop):B->Ev->Prop:=λb ρ=>match b with
 | .pu (.bl k)=>Q k ρ
 | _=>False
def cB (t:UE):UT:=λρ Q=>t ρ (isB Q)
theorem lTst {t:UE}(σ:L2.St)(H:Hp)(Q:Bool->Hp->Prop)(h:lT X.K (cB t) σ H Q):lE X.K t σ H λx H'=> ∃k,x= .bl k/\Q k H':=by
 obtain⟨C,ρ,Q0,I,h,k⟩:=h;refine⟨C,ρ,_,I,h,λb ρ' v H' q f s r=> ?_⟩
 unfold isB at q;split at q
 ·rename_i k'
  refine⟨k',?_,k k' ρ' H' q f s⟩
  have r':Rep X.K (Av C ρ' σ) H' (.bl k') v:=r
  simpa only[Rep]using r'
 ·exact q.elim
theorem gC (h:PU X e ta)(he: ∀whole,isTrue e X.env whole=(do let v<-whole;standAt e.pos;holding [v] (truthy v)):=by intro _;rfl):PUT X e (cB ta):=
 tZ (pt_val h he) lTst
theorem aX {op:CmpOp}{g:D->D->(B->Prop)->Prop}(ho:OpU X (compareOp op) g)(ha:PU X a ta)(hb:PU X b tb)(hm:behindInMarks op b=false):PUT X (.Compare a [op] [b] pos) (cB (uOp g ta tb)):=
 tZ (xY wB ha hb hm) λσ H Q h=>lOp ho σ H _ (lTst σ H Q h)
def uAnd (t u:UT):UT:=λρ Q=>t ρ λc ρ1=>if c=true then u ρ1 Q else Q false ρ1
def uOr (t u:UT):UT:=λρ Q=>t ρ λc ρ1=>if c=true then Q true ρ1 else u ρ1 Q
def kE (t:UT):UT:=λρ Q=>t ρ λc ρ1=>Q (!c) ρ1
variable {tA tB:UT}
theorem eP (ha:PUT X a tA):PUW X (.BoolOp .Or [a] pos) tA:=pw_or1 ha
theorem eB (ha:PUT X a tA)(hb:PUW X (.BoolOp .Or (b::m4) pos) tB):PUW X (.BoolOp .Or (a::b::m4) pos) (uOr tA tB):=
 PWimp (pw_or ha hb) λσ H Q ⟨C,ρ,Q0,I,h,k⟩=>⟨C,ρ,_,I,h,λc ρ1 H1 q f s=>by
  cases c with
  | true=>
   rw[if_pos rfl]at q⊢;exact k _ _ _ q f s
  | false=>
   rw[if_neg Bool.false_ne_true]at q⊢;exact⟨C,ρ1,Q0,(I.frz f).same s,q,λb ρ2 H2 q2 f2 s2=>k b ρ2 H2 q2 (f.trans f2) (s.trans s2)⟩⟩
theorem PUW.pt (h:PUW X e tA):PUT X e tA:=PW.pt h
theorem e9 (ha:PUT X a tA):PUT X (.UnaryOp .Not a pos) (kE tA):=
 tZ (pt_not ha) λσ H Q ⟨C,ρ,Q0,I,h,k⟩=>⟨C,ρ,_,I,h,λc ρ1 H1 q f s=>k _ ρ1 H1 q f s⟩
def wC (t u:UE):UE:=λρ Q=>t ρ λx ρ1=>isB (λc ρ1=>if c=true then u ρ1 Q else Q (.pu (.bl false)) ρ1) x ρ1
def uOrV (t u:UE):UE:=λρ Q=>t ρ λx ρ1=>isB (λc ρ1=>if c=true then Q (.pu (.bl true)) ρ1 else u ρ1 Q) x ρ1
def wD (t:UE):UE:=λρ Q=>t ρ λx ρ1=>isB (λc ρ1=>Q (.pu (.bl (!c))) ρ1) x ρ1
theorem u1 {Q:Bool->Ev->Prop}{b:B}{ρ:Ev}{K:Frag}{A:AS}{H H':Hp}{v:V}(h:isB Q b ρ)(r:hJ K A H H' b v): ∃k,v= .bl k/\Q k ρ:=by
 unfold isB at h;split at h
 ·rename_i k'
  have r':Rep K A H' (.bl k') v:=r;exact⟨k',by simpa only[Rep]using r',h⟩
 ·exact h.elim
theorem eC {K:Frag}{A:AS}{H H':Hp}{k:Bool}:hJ K A H H' (.pu (.bl k)) (.bl k):=by
 show Rep K A H' (.bl k) (.bl k)
 simp only[Rep]
theorem pu_one {op}(h:PU X a ta):PU X (.BoolOp op [a] pos) ta:=pe_one h
theorem pu_and (ha:PU X a ta)(hb:PU X (.BoolOp .And (b::m4) pos) tb):PU X (.BoolOp .And (a::b::m4) pos) (wC ta tb):=
 dB (pe_and ha hb) λσ H Q ⟨C,ρ,Q0,I,h,k⟩=>⟨C,ρ,_,I,h,λx ρ1 v H1 q f s r=>by
  obtain⟨c,rfl,q⟩:=u1 q r;refine⟨c,rfl,?_⟩;cases c with
  | true=>
   rw[if_pos rfl]at q⊢;exact⟨C,ρ1,Q0,(I.frz f).same s,q,λb ρ2 v H2 q2 f2 s2 r2=>k b ρ2 v H2 q2 (f.trans f2) (s.trans s2) (r2.from s)⟩
  | false=>
   rw[if_neg Bool.false_ne_true]at q⊢;exact k _ _ _ _ q f s eC⟩
theorem pu_not (ha:PU X a ta):PU X (.UnaryOp .Not a pos) (wD ta):=
 dB (pe_not ha) λσ H Q ⟨C,ρ,Q0,I,h,k⟩=>⟨C,ρ,_,I,h,λx ρ1 v H1 q f s r=>by
  obtain⟨c,rfl,q⟩:=u1 q r;exact⟨c,rfl,k _ _ _ _ q f s eC⟩⟩
def uIf (t:UT)(ta tb:UE):UE:=λρ Q=>t ρ λc ρ1=>if c=true then ta ρ1 Q else tb ρ1 Q
theorem wE (hc:PUT X c tA)(ha:PU X a ta)(hb:PU X b tb):PU X (.IfExp c a b pos) (uIf tA ta tb):=
 dB (vN hc ha hb) λσ H Q ⟨C,ρ,Q0,I,h,k⟩=>⟨C,ρ,_,I,h,λc ρ1 H1 q f s=>by
  have I1:=(I.frz f).same s;cases c with
  | true=>
   dsimp only at q⊢;rw[if_pos rfl]at q⊢;exact⟨C,ρ1,Q0,I1,q,λb ρ2 v H2 q2 f2 s2 r2=>k b ρ2 v H2 q2 (f.trans f2) (s.trans s2) (r2.from s)⟩
  | false=>
   dsimp only at q⊢;rw[if_neg Bool.false_ne_true]at q⊢;exact⟨C,ρ1,Q0,I1,q,λb ρ2 v H2 q2 f2 s2 r2=>k b ρ2 v H2 q2 (f.trans f2) (s.trans s2) (r2.from s)⟩⟩
def aM:UA:=λρ Q=>Q [] ρ
def aE (t:UE)(u:UA):UA:=λρ Q=>t ρ λx ρ1=>u ρ1 λxs ρ2=>Q (x.d::xs) ρ2
theorem aD:PUA X [] aM:=zH sV λσ H Q ⟨C,ρ,Q0,I,h,k⟩=>k [] ρ [] H h (.refl _) (.refl _) .nil
theorem aA {t:UA}(ha:PU X e ta)(hr:PUA X es t)(hs:starEach (e::es) X.env=(false,eval e X.env)::starEach es X.env:=by rfl):PUA X (e::es) (aE ta t):=
 zH (qG ha hr hs) λσ H Q ⟨C,ρ,Q0,I,h,k⟩=>⟨C,ρ,_,I,h,λx ρ1 v H1 q1 f1 s1 r1=>by
  have I1:=(I.frz f1).same s1;refine⟨C,ρ1,_,I1,q1,λxs ρ2 vs H2 q2 f2 s2 r2=> ?_⟩
  exact k _ ρ2 _ H2 q2 (f1.trans f2) (s1.trans s2) (.cons ((r1.rep λa z=>I.avF f1 z).mono (.sub s2 λa=>f2.av)) r2)⟩
def v1 (t:UA):UE:=λρ Q=>t ρ λl ρ1=>l.length<=sizeLine/\Q (.pu (.tup l)) ρ1
def lC (t:UA):UE:=λρ Q=>t ρ λl ρ1=>l.length<=sizeLine/\Q (.ow l) ρ1
theorem bR {H:Hp}{p:Addr}(h:H p=none)(o:HO):dQ H (upd H p o):=λb u q=>by rw[dA (eZ q h)];exact q
theorem eL {K:Frag}{A:AS}{H:Hp}{p:Addr}{l:List D}{vs:List V}(hA: ∀a,A a->H a≠none)(n:H p=none)(r:aO K A H l vs):Rep K A (upd H p (.tup vs)) (.tup l) (.ref p):=by
 simp only[Rep];exact⟨p,vs,rfl,.inl ⟨λz=>hA p z n,.inl i5⟩,r.mono (.same (bR n _))⟩
theorem cX {K:Frag}{A:AS}{H H0:Hp}{p:Addr}{l:List D}{vs:List V}(s:dQ H0 H)(n:H p=none)(r:aO K A H l vs):hJ K A H0 (upd H p (.lst vs)) (.ow l) (.ref p):=
 ⟨p,vs,rfl,s.free n,i5,r.mono (.fresh (bR n _) n)⟩
theorem qP {t:UA}{x1}(h:PUA X es t):PU X (.Tuple es x1 pos) (v1 t):=
 dB (pe_tup h) λσ H Q ⟨C,ρ,Q0,I,h,k⟩=>⟨C,ρ,_,I,h,λl ρ1 vs H1 q f s r=>by
  obtain⟨hz,q⟩:=q;refine⟨by rw[<-r.length];exact hz,λp n=> ?_⟩
  have I1:=(I.frz f).same s;exact k _ ρ1 _ _ q f (s.trans (bR n _)) (eL (λa z=>I1.avSome z) n r)⟩
theorem gD {t:UA}(h:PUA X es t):PU X (.List es pos) (lC t):=
 dB (pe_lst h) λσ H Q ⟨C,ρ,Q0,I,h,k⟩=>⟨C,ρ,_,I,h,λl ρ1 vs H1 q f s r=>by
  obtain⟨hz,q⟩:=q;refine⟨by rw[<-r.length];exact hz,λp n=> ?_⟩
  exact k _ ρ1 _ _ q f (s.trans (bR n _)) (cX s n r)⟩
abbrev Φ:=List D->(B->Prop)->Prop
def spP (K:Frag)(φ:Φ):Sp:=λvs H Q _=> ∃A ds Q0,(∀a,A a->H a≠none)/\aO K A H ds vs/\φ ds Q0/\ ∀b v H',Q0 b->dQ H H'->hJ K A H H' b v->Q v H'
def aK (φ:Φ)(t:UA):UE:=λρ Q=>t ρ λds ρ1=>φ ds λb=>Q b ρ1
theorem lCall {φ:Φ}{t:UA}{E:XK}(σ:L2.St)(H:Hp)(Q:VK)(h:lE X.K (aK φ t) σ H Q):zE (spP X.K φ) [] E (lA X.K t) σ H Q:=by
 obtain⟨C,ρ,Q0,I,h,k⟩:=h;refine⟨C,ρ,_,I,h,λds ρ1 vs H1 q f s r=> ?_⟩
 have I1:=(I.frz f).same s;show spP X.K φ (vs++[]) H1 Q E;rw[append_nil];exact⟨Av C ρ1 σ,ds,_,λa z=>I1.avSome z,r,q,λb v H' q' s' r'=>k b ρ1 v H' q' f (s.trans s') (r'.from s)⟩
theorem yD {CX:CXT}{k:Nat}{f:Addr}{fd:FuncData}{ps:List Str}{φ:Φ}{E:XK}{x:Str}{p:Pos}{t:UA}(F:j5 X.prog X.w X.K X.mg X.base CX k f fd ps (spP X.K φ))(hr:cL k X.A)(hg:Gl X x)(hm:X.mg x=some (.ref f))
  (hk:keepIn X.K (.ref f)=true) (hb:Binds X.K fd ps []) (hx:sX CX X E) (ha:PUA X (e::es) t) (hdb:(x==("__debug__":Str))=false:=by decide) (he:starEach (e::es) X.env=(false,eval e X.env)::starEach es X.env:=by rfl)
  (hpl:(backTo pos (starEach es X.env)).any (·.1)=false:=by rfl):PU X (.Call (.Name x p) (e::es) [] pos) (aK φ t):=
 dB (xZ F hr hg hm hk hb .nil hx ha hdb he hpl) lCall
def i8 (X:Cx)(f:Value)(g:List D->(B->Prop)->Prop):Prop:=
 ∀(A:AS) (H:Hp) (ds:List D) (vs:List V) (Q0:B->Prop) (Q:VK),(∀a,A a->H a≠none)->aO X.K A H ds vs->g ds Q0->
  (∀b v' H',Q0 b->dQ H H'->hJ X.K A H H' b v'->Q v' H')-> ∃r,eD X f r/\r vs H Q
theorem callAny {f:Value}:eD X f (λxs H Q=> ∃r,eD X f r/\r xs H Q):=λpins s σ H xs us Q I rx ⟨r,hr,q⟩=>hr pins s σ H xs us Q I rx q
theorem lCB {f:Value}{g:List D->(B->Prop)->Prop}{t:UA}(hc:i8 X f g)(σ:L2.St)(H:Hp)(Q:VK)(h:lE X.K (aK g t) σ H Q):tCB (λxs H Q=> ∃r,eD X f r/\r xs H Q) (lA X.K t) σ H Q:=by
 obtain⟨C,ρ,Q0,I,h,k⟩:=h;refine⟨C,ρ,_,I,h,λds ρ1 vs H1 q f s r=> ?_⟩
 have I1:=(I.frz f).same s;exact hc (Av C ρ1 σ) H1 ds vs _ Q (λa z=>I1.avSome z) r q λb v H' q' s' r'=>k b ρ1 v H' q' f (s.trans s') (r'.from s)
theorem cP {id:String}{g:List D->(B->Prop)->Prop}{x:Str}{p:Pos}{t:UA}(hc:i8 X (.builtin id) g)(hg:Gl X x)(hm:X.mg x=none)(hv:bootBuiltins x=some (.builtin id))(ha:PUA X (e::es) t)(hn:x≠"__name__":=by decide)(hdb:(x==("__debug__":Str))=false:=by decide)
  (he:starEach (e::es) X.env=(false,eval e X.env)::starEach es X.env:=by rfl) (hpl:(backTo pos (starEach es X.env)).any (·.1)=false:=by rfl):PU X (.Call (.Name x p) (e::es) [] pos) (aK g t):=
 dB (rO callAny hg hm hv ha hn hdb he hpl) (lCB hc)
theorem cM {T:String}{g:List D->(B->Prop)->Prop}{x:Str}{p:Pos}{t:UA}(hc:i8 X (.type T) g)(hg:Gl X x)(hm:X.mg x=none)(hv:bootBuiltins x=some (.type T))(ha:PUA X (e::es) t)(hn:x≠"__name__":=by decide)(hdb:(x==("__debug__":Str))=false:=by decide)
  (he:starEach (e::es) X.env=(false,eval e X.env)::starEach es X.env:=by rfl) (hpl:(backTo pos (starEach es X.env)).any (·.1)=false:=by rfl):PU X (.Call (.Name x p) (e::es) [] pos) (aK g t):=
 dB (uY callAny hg hm hv ha hn hdb he hpl) (lCB hc)
end
structure UD where
 nx:Ev->Prop
 rt:B->Prop
 bk:Ev->Prop:=λ_=>False
 ct:Ev->Prop:=λ_=>False
abbrev US:=UD->Ev->Prop
structure DOk (K:Frag)(C:C0)(D0:UD)(D:uP):Prop where
 nx: ∀ρ σ H,D0.nx ρ->EOk K C ρ σ H->D.nx σ H
 rt: ∀b v H,D0.rt b->dQ C.H0 H->hJ K C.A0 C.H0 H b v->D.rt v H
 bk: ∀ρ σ H,D0.bk ρ->EOk K C ρ σ H->D.bk σ H
 ct: ∀ρ σ H,D0.ct ρ->EOk K C ρ σ H->D.ct σ H
def lS (K:Frag)(t:US):TS:=λD σ H=> ∃C ρ D0,EOk K C ρ σ H/\t D0 ρ/\DOk K C D0 D
def PUS (X:Cx)(st:Stmt)(t:US):Prop:=PS X st (lS X.K t)
def eE (X:Cx)(sts:List Stmt)(t:US):Prop:=PSs X sts (lS X.K t)
theorem pC {X:Cx}{st:Stmt}{t t':TS}(h:PS X st t)(i: ∀D σ H,t' D σ H->t D σ H):PS X st t':=λpins s σ H D I q=>h pins s σ H D I (i D σ H q)
theorem wF {X:Cx}{st:List Stmt}{t t':TS}(h:PSs X st t)(i: ∀D σ H,t' D σ H->t D σ H):PSs X st t':=λpins s σ H D I q=>h pins s σ H D I (i D σ H q)
section
variable {X:Cx}{st:Stmt}{sts:List Stmt}{e:Expr}{pos:Pos}{t u:US}{te:UE}{tc:UT}{K:Frag}
def cU:US:=λD ρ=>D.nx ρ
def aS (t u:US):US:=λD ρ=>t {D with nx:=u D} ρ
theorem bS:eE X [] cU:=wF xR λD σ H ⟨C,ρ,D0,I,h,k⟩=>k.nx ρ σ H h I
theorem aH (h1:PUS X st t)(h2:eE X sts u):eE X (st::sts) (aS t u):=
 wF (vO h1 h2) λD σ H ⟨C,ρ,D0,I,h,k⟩=>⟨C,ρ,{D0 with nx:=u D0},I,h,⟨λρ' σ' H' q I'=>⟨C,ρ',D0,I',q,k⟩,k.rt,k.bk,k.ct⟩⟩
theorem aN (h1:PUS X st t):eE X [st] t:=xS h1
def cY (t:UE):US:=λD ρ=>t ρ λb _=>D.rt b
theorem hJ.back {A A':AS}{H0 H H':Hp}(s:dQ H0 H)(h: ∀a,A' a->A a): ∀{b:B} {v:V},hJ K A H H' b v->hJ K A' H0 H' b v
 | .pu _,_,r=>Rep.mono (.sub (.refl _) h) r
 | .ow _,_,⟨a,vs,e,n,h1,r⟩=>⟨a,vs,e,s.free n,h1,r.mono (λb o nb q=>⟨λz=>nb (z.imp (h b) id),q⟩)⟩
 | .bo _,_,r=>r.elim
theorem aW (he:PU X e te):PUS X (.Return (some e) pos) (cY te):=
 pC (vP he) λD σ H ⟨C,ρ,D0,I,h,k⟩=>⟨C,ρ,_,I,h,λb ρ' v H' q f s r=>k.rt b v H' q (I.ext.trans s) (r.back I.ext λa z=> .inl z)⟩
def uRetN:US:=λD _=>D.rt (.pu .non)
def nW (i:Nat):US:=λD ρ=>match ρ[i]? with
 | some (some (.pu d))=>D.rt (.pu d)
 | some (some (.ow l))=>D.rt (.ow l)
 | _=>False
theorem qQ (i:Nat){x:Str}{p:Pos}(h:PE X (.Name x p) (uQ i)):PUS X (.Return (some (.Name x p)) pos) (nW i):=
 pC (vP h) λD σ H ⟨C,ρ,D0,I,h,k⟩=>by
  unfold nW at h;split at h
  ·rename_i d e
   obtain⟨v,h1,h2⟩:=I.pu i d e;exact⟨v,h1,k.rt _ v H h I.ext (Rep.mono (.sub (.refl _) λa z=> .inl z) h2)⟩
  ·rename_i l e
   obtain⟨a,vs,h1,h2,h3,h4⟩:=I.ow i l e;refine⟨_,h1,k.rt _ _ H h I.ext ⟨a,vs,rfl,h3,h2,h4.mono (λb o nb q=>⟨λz=>nb (z.elim .inl λz=> .inr ?_),q⟩)⟩⟩
   subst z;exact⟨i,l,e,h1⟩
  ·exact h.elim
def eF (c:UT)(t u:US):US:=λD ρ=>c ρ λb ρ1=>if b=true then t D ρ1 else u D ρ1
theorem d8 {c:Expr}{a b:List Stmt}(hc:PUT X c tc)(ha:eE X a t)(hb:eE X b u):PUS X (.If c a b pos) (eF tc t u):=
 pC (ps_if hc ha hb) λD σ H ⟨C,ρ,D0,I,h,k⟩=>⟨C,ρ,_,I,h,λc ρ1 H1 q f s=>by
  have I1:=(I.frz f).same s;cases c with
  | true=>
   dsimp only at q⊢;rw[if_pos rfl]at q⊢;exact⟨C,ρ1,D0,I1,q,k⟩
  | false=>
   dsimp only at q⊢;rw[if_neg Bool.false_ne_true]at q⊢;exact⟨C,ρ1,D0,I1,q,k⟩⟩
theorem nX:PUS X st (λ_ _=>False):=pC vQ λD σ H ⟨C,ρ,D0,I,h,k⟩=>h
abbrev UG:=B->Ev->(Ev->Prop)->Prop
def lG (K:Frag)(T:List Nat)(g:UG):TG:=λv σ H Q=> ∃C ρ b H00 Q0,EOk K C ρ σ H00/\dQ H00 H/\hJ K (Av C ρ σ) H00 H b v/\g b ρ Q0/\ ∀ρ' σ' H',Q0 ρ'->EOk K C ρ' σ' H'->(∀j:Nat,j ∉ T->σ'[j]? =σ[j]?)->Q σ' H'
def PUG (X:Cx)(e:Expr)(T:List Nat)(g:UG):Prop:=PG X e (lG X.K T g)
theorem zI {t t':TG}(h:PG X e t)(i: ∀v σ H Q,t' v σ H Q->t v σ H Q):PG X e t':=λpins s σ H v u Q I r q=>h pins s σ H v u Q I r (i v σ H Q q)
def dC (i:Nat):UG:=λb ρ Q=>i<ρ.length/\Q (ρ.set i (some b))
theorem bU (i:Nat)(h:PG X e (tU i)):PUG X e [i] (dC i):=zI h λv σ H Q ⟨C,ρ,b,H00,Q0,I,s,r,⟨hi,q⟩,k⟩=>
 k _ _ _ q (I.store s r (by rw[<-I.len];exact hi)) λj hj=>get_set_ne λz=>hj (by simp[z])
abbrev UGs:=List D->Ev->(Ev->Prop)->Prop
def lGs (K:Frag)(T:List Nat)(g:UGs):TGs:=λvs σ H Q=> ∃C ρ ds Q0,EOk K C ρ σ H/\aO K (Av C ρ σ) H ds vs/\g ds ρ Q0/\ ∀ρ' σ' H',Q0 ρ'->EOk K C ρ' σ' H'->(∀j:Nat,j ∉ T->σ'[j]? =σ[j]?)->Q σ' H'
def yE (X:Cx)(es:List Expr)(T:List Nat)(g:UGs):Prop:=PGs X es (lGs X.K T g)
def rQ:UGs:=λds ρ Q=>ds=[]/\Q ρ
theorem Av.store_pu {C:C0}{ρ:Ev}{σ:L2.St}{i:Nat}{d:D}{v:V}{a:Addr}(h:Av C (ρ.set i (some (.pu d))) (σ.set i (some v)) a):Av C ρ σ a:=by
 rcases h with z| ⟨j,l,h1,h2⟩
 ·exact .inl z
 ·rcases aJ h1 with⟨rfl,h3,_⟩| ⟨ne,h3⟩
  ·cases h3
  ·rw[get_set_ne ne]at h2;exact .inr ⟨j,l,h3,h2⟩
theorem wG {es:List Expr}{t t':TGs}(h:PGs X es t)(i: ∀v σ H Q,t' v σ H Q->t v σ H Q):PGs X es t':=λpins s σ H v u Q I r q=>h pins s σ H v u Q I r (i v σ H Q q)
theorem yF:yE X [] [] rQ:=wG xU λvs σ H Q ⟨C,ρ,ds,Q0,I,r,⟨e,q⟩,k⟩=>by
 subst e;exact⟨r.unnil,k ρ σ H q I λ_ _=>rfl⟩
def kR (i:Nat)(u:UGs):UGs:=λds ρ Q=>match ds with
 | d::r=>i<ρ.length/\u r (ρ.set i (some (.pu d))) Q
 | []=>False
theorem rR {es:List Expr}{u:UGs}{T:List Nat}(i:Nat)(h1:PG X e (tU i))(h2:yE X es T u)
  (hs:(assignEach (e::es) X.env).map (·.2)=assign e X.env::(assignEach es X.env).map (·.2):=by rfl):yE X (e::es) (i::T) (kR i u):=
 wG (vR h1 h2 hs) λvs σ H Q ⟨C,ρ,ds,Q0,I,r,g,k⟩=>by
  cases ds with
  | nil=>exact(show False from g).elim
  | cons d dr=>
   obtain⟨hi,g⟩:i<ρ.length/\u dr (ρ.set i (some (.pu d))) Q0:=g;obtain⟨v,vr,rfl,rv,rr⟩:=r.uncons;have I1:EOk X.K C (ρ.set i (some (.pu d))) (σ.set i (some v)) H:=I.store (b:= .pu d) (.refl _) rv (by rw[<-I.len];exact hi)
   exact⟨v,vr,rfl,C,_,dr,Q0,I1,rr.mono (.sub (.refl _) λa z=>Av.store_pu z),g,λρ' σ' H' q I' hT=>k ρ' σ' H' q I' λj hj=>(hT j λz=>hj (mem_cons_of_mem _ z)).trans (get_set_ne λz=>hj (by simp[z]))⟩
def rS (u:UGs):UG:=λb ρ Q=>match b.d with
 | .tup ds=>u ds ρ Q
 | _=>False
theorem ug_tup {es:List Expr}{u:UGs}{T:List Nat}{n k:Nat}(hc:X.calm=true)(h:yE X es T u)(hu: ∀ds ρ Q,u ds ρ Q->ds.length=n)
  (hn:(assignEach es X.env).length=n:=by rfl) (hst:(assignEach es X.env).findIdx? (·.1)=none:=by rfl):PUG X (.Tuple es k pos) T (rS u):=
 zI (pg_tup hc h hn hst) λv σ H Q ⟨C,ρ,b,H00,Q0,I,s,r,g,k⟩=>by
  have R:=r.rep λa z=>I.avSome z
  unfold rS at g;split at g
  ·rename_i ds e
   rw[e]at R;simp only[Rep]at R;obtain⟨a,vs,rfl,c,rs⟩:=R;exact⟨a,vs,rfl,c.imp And.right id,by rw[<-rs.length];exact hu _ _ _ g,C,ρ,ds,Q0,I.same s,rs,g,k⟩
  ·exact g.elim
def uAsg (t:UE)(g:UG):US:=λD ρ=>t ρ λb ρ1=>g b ρ1 D.nx
def cF (i:Nat)(t:UE):US:=λD ρ=>t ρ λb ρ1=>D.nx (ρ1.set i (some b))
theorem aU {x:Str}{pos':Pos}(i:Nat)(hN:X.N.Nodup)(hi:X.N[i]? =some x)(hx:Loc X.env.scope x)(he:PU X e te)(hs:swapsWith e (some (.Name x pos')) pos.line X.env=pure false:=by rfl)(hf:X.fn x=true\/X.env.scope.names.lookup x=some .local:=by first|exact .inl rfl|exact .inr rfl|assumption)
  (hl: ∀pins σ H s,Inv X pins σ H s->i<σ.length:=by intro pins σ H s I;rw[I.len];decide):PUS X (.Assign [.Name x pos'] e pos) (cF i te):=by
 intro pins s σ H D I q;refine ps_set hN hi hx he hs hf pins s σ H D I ?_;obtain⟨C,ρ,D0,J,h,k⟩:=q;exact⟨C,ρ,_,J,h,λb ρ1 v H1 q f s1 r=>k.nx _ _ _ q ((J.frz f).store s1 r (hl pins σ H s I))⟩
def uPar (i j:Nat)(ta:UA):US:=λD ρ=>ta ρ λds ρ1=>match ds with
 | [d,d']=>D.nx ((ρ1.set i (some (.pu d))).set j (some (.pu d')))
 | _=>False
def uAug (i:Nat)(g:D->D->(B->Prop)->Prop)(te:UE):US:=λD ρ=>u0 ρ i λx ρ0=>te ρ0 λy ρ1=>g x.d y.d λb=>D.nx (ρ1.set i (some b))
end
abbrev UI:=Ev->(Nat->(Nat->D)->Ev->Prop)->Prop
structure wH (K:Frag)(A:AS)(H:Hp)(J:It)(n:Nat)(it:Nat->D):Prop where
 go: ∀A' H' i,fM A H A' H'->i<n->J.go i H'
 yld: ∀A' H' i x H'',fM A H A' H'->(∀a,A' a->H' a≠none)->i<n->J.yld i H' x H''->dQ H' H''/\Rep K A' H'' (it i) x
 stop: ∀A' H',fM A H A' H'->J.stop n H'
def lI (K:Frag)(t:UI):TI:=λσ H R=> ∃C ρ Q0,EOk K C ρ σ H/\t ρ Q0/\
 ∀n it ρ' J H',Q0 n it ρ'->Frz ρ ρ'->dQ H H'->wH K (Av C ρ' σ) H' J n it->R J H'
def PUI (X:Cx)(tg iter:Expr)(t:UI):Prop:=PI X tg iter (lI X.K t)
def qR (ui:UI)(g:UG)(tb:US):US:=λD ρ=>ui ρ λn it ρ1=> ∃Pv:Nat->Ev->Prop,Pv 0 ρ1/\
 (∀i ρ,i<n->Pv i ρ->g (.pu (it i)) ρ λρ2=>tb {D with nx:=Pv (i+1),ct:=Pv (i+1),bk:=D.nx} ρ2)/\ ∀ρ,Pv n ρ->D.nx ρ
noncomputable def C0.rz (C:C0) (ρ:Ev) (σ:L2.St) (H:Hp):C0:=C.raise ρ σ H λ_=>Classical.propDecidable _
section
variable {X:Cx}{e:Expr}{pos:Pos}{te:UE}{K:Frag}{C:C0}{ρ ρ':Ev}{σ σ':L2.St}{H H':Hp}
theorem EOk.rz (I:EOk K C ρ σ H):EOk K (C.rz ρ σ H) ρ σ H/\dQ C.H0 (C.rz ρ σ H).H0:=I.raise
theorem yG (I':EOk K (C.rz ρ σ H) ρ' σ' H'):fM (Av C ρ σ) H (Av (C.rz ρ σ H) ρ' σ') H':=λb o nb e=>by
 have e0:(C.rz ρ σ H).H0 b=some o:=by
  show @ite _ (Own ρ σ b) (Classical.propDecidable _) none (H b)=some o
  rw[if_neg (λz=>nb (.inr z))]
  exact e
 refine⟨?_,I'.ext b o e0⟩
 rintro(z| ⟨i,l,h1,h2⟩)
 ·exact nb (.inl z)
 ·obtain⟨a,vs,h3,h4,h5,_⟩:=I'.ow i l h1;rw[h2]at h3;cases h3;rw[e0]at h5;cases h5
theorem m5 {tg iter:Expr}{body:List Stmt}{ui:UI}{g:UG}{T:List Nat}{tb:US}(hp:PassesOwn (model X.prog X.w) X.A X.env X.xe)(hc:X.calm=true)(hi:PUI X tg iter ui)(hg:PUG X tg T g)(hb:eE X body tb)
  (hs: ∀x,foldedSetIterable iter X.env x=pure x:=by intro _;rfl):PUS X (.For tg iter body [] pos) (qR ui g tb):=
 pC (ps_for hp hc hi hg hb hs) λD σ H ⟨C,ρ,D0,I,h,k⟩=>⟨C,ρ,_,I,h,λn it ρ1 J H1 q f s ok=>by
  obtain⟨Pv,p0,turn,fin⟩:=q;have I1:=(I.frz f).same s;obtain⟨Ir,sub⟩:=I1.rz;refine⟨λi m σ' H'=>m=n-i/\i<=n/\ ∃ρ',EOk X.K (C.rz ρ1 σ H1) ρ' σ' H'/\Pv i ρ',⟨n,rfl,zero_le _,ρ1,Ir,p0⟩,?_⟩
  rintro i m σ' H' ⟨rfl,hi,ρ',I',p'⟩;have P:=yG I';have lo: ∀ρ2 σ2 H2,EOk X.K (C.rz ρ1 σ H1) ρ2 σ2 H2->EOk X.K C ρ2 σ2 H2:=λρ2 σ2 H2 J2=>J2.lower sub rfl I.a0
  by_cases hlt:i<n
  ·refine .inr ⟨ok.go _ _ i P hlt,λσ2 H2=> ∃ρ2,EOk X.K (C.rz ρ1 σ H1) ρ2 σ2 H2/\Pv (i+1) ρ2,λσ2 H2 z=>⟨n-(i+1),by omega,rfl,hlt,z⟩,λx H2 y=> ?_⟩
   obtain⟨s2,r2⟩:=ok.yld _ _ i x H2 P (λa z=>I'.avSome z) hlt y
   refine⟨C.rz ρ1 σ H1,ρ',.pu (it i),H',_,I',s2,r2,turn i ρ' hlt p',λρ2 σ2 H3 q I3 _=>⟨C.rz ρ1 σ H1,ρ2,_,I3,q,⟨?_,?_,?_,?_⟩⟩⟩
   ·exact λρ3 σ3 H4 q I4=>⟨ρ3,I4,q⟩
   ·exact λb v H4 q s4 r4=>k.rt b v H4 q (sub.trans s4) (r4.from sub)
   ·exact λρ3 σ3 H4 q I4=>k.nx ρ3 σ3 H4 q (lo _ _ _ I4)
   ·exact λρ3 σ3 H4 q I4=>⟨ρ3,I4,q⟩
  ·have e:i=n:=by omega
   subst e;exact .inl ⟨ok.stop _ _ P,k.nx _ _ _ (fin ρ' p') (lo _ _ _ I')⟩⟩
def gE:D->Option (List D)
 | .tup l=>some l
 | .lst l=>some l
 | .rol l=>some l
 | _=>none
def fN (t:UE):UI:=λρ Q=>t ρ λb ρ1=>match gE b.d with
 | some l=>Q l.length (λi=>l.getD i .non) ρ1
 | none=>False
theorem pi_any {l:Expr}{tl:TE}{tg:Expr}(hl:PE X l tl):PI X tg l (λσ H R=>tl σ H λx H1=> ∃a,x= .ref a/\((∃xs,SqL X.K H1 a xs/\R (Itl X.K a) H1)\/ ∃xs,SqT X.K H1 a xs/\R (Itt X.K a) H1)):=by
 intro pins s σ H R I h;refine thn (hl pins s σ H _ I h) λv s1 ⟨x,H1,I1,r1,q1⟩=> ?_
 obtain⟨a,e,q⟩:=q1;subst e;cases r1;rcases q with⟨xs,hq,q⟩| ⟨xs,hq,q⟩
 ·obtain⟨its,rv,p,hz⟩:=I1.list hq;refine wpAny_pyIter_list p.isList ?_;refine⟨s1.heap.objs.size,[s1.heap.objs.size],_,_,H1,rfl,I1.kept (t':=s1.toks) λb o e=>get?_push_of_some _ e,uR a _,⟨_,get?_push_size _ rfl,rfl,rfl⟩,λb hb=> ?_,q⟩
  have e:b=s1.heap.objs.size:=by simpa using hb
  subst e;exact I1.fpOk (le_refl _) (I1.hok.fresh (le_refl _))
 ·obtain⟨its,rv,p,hz⟩:=I1.tuple hq;refine wpAny_pyIter_tuple (show s1.heap.IsTuple a its.toArray from p) ?_
  refine⟨s1.heap.objs.size,[s1.heap.objs.size],_,_,H1,rfl,I1.kept (t':=s1.toks) λb o e=>get?_push_of_some _ e,sR a _,⟨_,get?_push_size _ rfl,rfl,rfl⟩,λb hb=> ?_,q⟩
  have e:b=s1.heap.objs.size:=by simpa using hb
  subst e;exact I1.fpOk (le_refl _) (I1.hok.fresh (le_refl _))
theorem wI {tg iter:Expr}{t t':TI}(h:PI X tg iter t)(i: ∀σ H R,t' σ H R->t σ H R):PI X tg iter t':=λpins s σ H R I q=>h pins s σ H R I (i σ H R q)
theorem pD {A:AS}{a:Addr}{vs:List V}{l:List D}(c:(¬A a/\Rd H a (.lst vs))\/KL K a vs)(r:aO K A H l vs):wH K A H (Itl K a) l.length (λi=>l.getD i .non):=by
 have sq: ∀A' H',fM A H A' H'->SqL K H' a vs:=λA' H' P=>by
  rcases c with⟨n,c⟩|c
  ·exact .inl (Rd.pres P n c).2
  ·exact .inr c
 have get: ∀i,i<l.length-> ∃x,vs[i]? =some x/\Rep K A H (l.getD i .non) x:=λi hi=>r.get (by rw[getD_eq_getElem?_getD,getElem?_eq_getElem hi];rfl)
 refine⟨λA' H' i P hi=> ?_,λA' H' i x H'' P hA hi y=> ?_,λA' H' P=>⟨vs,sq _ _ P,by rw[r.length];exact le_refl _⟩⟩
 ·obtain⟨x,e,_⟩:=get i hi;exact⟨vs,x,sq _ _ P,e⟩
 ·obtain⟨x',e,r'⟩:=get i hi;obtain⟨rfl,y⟩:=y;have:=y vs (sq _ _ P);rw[e]at this;cases this;exact⟨.refl _,r'.mono P⟩
theorem wJ {A:AS}{a:Addr}{vs:List V}{l:List D}(c:(¬A a/\Rd H a (.tup vs))\/KT K a vs)(r:aO K A H l vs):wH K A H (Itt K a) l.length (λi=>l.getD i .non):=by
 have sq: ∀A' H',fM A H A' H'->SqT K H' a vs:=λA' H' P=>by
  rcases c with⟨n,c⟩|c
  ·exact .inl (Rd.pres P n c).2
  ·exact .inr c
 have get: ∀i,i<l.length-> ∃x,vs[i]? =some x/\Rep K A H (l.getD i .non) x:=λi hi=>r.get (by rw[getD_eq_getElem?_getD,getElem?_eq_getElem hi];rfl)
 refine⟨λA' H' i P hi=> ?_,λA' H' i x H'' P hA hi y=> ?_,λA' H' P=>⟨vs,sq _ _ P,by rw[r.length];exact le_refl _⟩⟩
 ·obtain⟨x,e,_⟩:=get i hi;exact⟨vs,x,sq _ _ P,e⟩
 ·obtain⟨x',e,r'⟩:=get i hi;obtain⟨rfl,y⟩:=y;have:=y vs (sq _ _ P);rw[e]at this;cases this;exact⟨.refl _,r'.mono P⟩
theorem eJ {tg:Expr}(h:PU X e te):PUI X tg e (fN te):=wI (pi_any h) λσ H R ⟨C,ρ,Q0,I,h,k⟩=>⟨C,ρ,_,I,h,λb ρ1 v H1 q f s r=>by
 have rr:=r.rep λa z=>I.avF f z
 generalize b.d=d at q rr;cases d with
 | tup l=>
  simp only[Rep]at rr;obtain⟨a,vs,rfl,c,rs⟩:=rr;exact⟨a,rfl,.inr ⟨vs,c.imp And.right id,k _ _ ρ1 _ H1 q f s (wJ c rs)⟩⟩
 | lst l=>
  simp only[Rep]at rr;obtain⟨a,vs,rfl,n,c,rs⟩:=rr;exact⟨a,rfl,.inl ⟨vs,.inl (.inl c),k _ _ ρ1 _ H1 q f s (pD (.inl ⟨n,.inl c⟩) rs)⟩⟩
 | rol l=>
  simp only[Rep]at rr;obtain⟨a,vs,rfl,c,rs⟩:=rr;exact⟨a,rfl,.inl ⟨vs,c.imp And.right id,k _ _ ρ1 _ H1 q f s (pD c rs)⟩⟩
 | _=>exact(show False from q).elim⟩
theorem t5 {A:AS}{lo:Int}{n:Nat}:wH K A H (Itr lo n) n (λi=> .int (lo+i)):=
 ⟨λ_ _ _ _ h=>h,λ_ _ i x H'' _ _ _ ⟨e,y⟩=>by subst e;subst y;exact⟨.refl _,by simp only[Rep]⟩,λ_ _ _=>le_refl n⟩
def kG (ta:UA):UI:=λρ Q=>ta ρ λds ρ1=>match ds with
 | [.int j]=>(-(2^62)<=j/\j<2^62)/\Q j.toNat (λi=> .int (0+i)) ρ1
 | _=>False
def uRng2 (ta:UA):UI:=λρ Q=>ta ρ λds ρ1=>match ds with
 | [.int i,.int j]=>(-(2^62)<=i/\i<2^62/\ -(2^62)<=j/\j<2^62)/\Q (j-i).toNat (λk=> .int (i+k)) ρ1
 | _=>False
theorem aY {A:AS}{i:Int}{v:V}(h:Rep K A H (.int i) v):v= .int i:=by simpa only[Rep]using h
theorem g8 {tg a:Expr}{ta:UA}{p:Pos}(hg:Gl X "range")(hm:X.mg "range"=none)(ha:PUA X [a] ta)(hs:starEach [a] X.env=[(false,eval a X.env)]:=by rfl):PUI X tg (.Call (.Name "range" p) [a] [] pos) (kG ta):=
 wI (uS hg hm ha hs) λσ H R ⟨C,ρ,Q0,I,h,k⟩=>⟨C,ρ,_,I,h,λds ρ1 vs H1 q f s r=>by
  split at q
  ·rename_i j
   obtain⟨v,vr,rfl,rv,rr⟩:=r.uncons;have:=rr.unnil;subst this;have:=aY rv;subst this;obtain⟨⟨h1,h2⟩,q⟩:=q;exact⟨j,rfl,h1,h2,k _ _ ρ1 _ H1 q f s t5⟩
  ·exact q.elim⟩
end
section
variable {X:Cx}{a b e o:Expr}{es:List Expr}{pos:Pos}{ta tb te ti:UE}{K:Frag}{C:C0}{ρ ρ':Ev}{σ σ':L2.St}{H H':Hp}{A:AS}
theorem Frz.ow {i:Nat}{l:List D}(f:Frz ρ ρ')(h:ρ'[i]? =some (some (.ow l))):ρ[i]? =some (some (.ow l)):=by
 rcases f.2 i with q| ⟨l',_,q⟩
 ·exact q▸h
 ·rw[q]at h;cases h
def j6 (ρ:Ev)(i:Nat)(Q:List D->Prop):Prop:=match ρ[i]? with
 | some (some (.ow l))=>Q l
 | _=>False
theorem jW {i:Nat}{Q:List D->Prop}(h:j6 ρ i Q): ∃l,ρ[i]? =some (some (.ow l))/\Q l:=by
 unfold j6 at h;split at h
 ·rename_i l e
  exact⟨l,e,h⟩
 ·exact h.elim
def qS (i:Nat)(t:UE):US:=λD ρ=>j6 ρ i λ_=>t ρ λb ρ1=>j6 ρ1 i λl=>l.length<sizeLine/\D.nx (ρ1.set i (some (.ow (l++[b.d]))))
theorem i9 {x:Str}{p apos cpos:Pos}(i:Nat)(hx:PE X (.Name x p) (uQ i))(he:PU X e te)
  (hbase:attributeBase (.Name x p) "append" X.env (eval (.Name x p) X.env)=eval (.Name x p) X.env:=by rfl)
  (hfew:((backTo cpos (starEach [e] X.env)).all (λx=> !x.1)&&(backToKw cpos (keywordEach [] X.env)).all (λx=>x.1.isSome)
   &&decide ([e].length+([]:List Keyword).length+(if([]:List Keyword).isEmpty then 0 else 1)<30))=true:=by rfl)
  (hline:(apos.endLine==cpos.line)=true:=by rfl) (hs:starEach [e] X.env=(false,eval e X.env)::starEach [] X.env:=by rfl) (hplain:(backTo cpos (starEach [] X.env)).any (·.1)=false:=by rfl)
  (hw:swapsWith (.Call (.Attribute (.Name x p) "append" apos) [e] [] cpos) none pos.line X.env=pure false:=by rfl) :
  PUS X (.Expr (.Call (.Attribute (.Name x p) "append" apos) [e] [] cpos) pos) (qS i te):=
 pC (xT (zG PySem.F.plainAttrs_list PySem.F.slot_list_append PySem.F.type_list_append pA hx (qG he sV hs) hbase hfew hline hs hplain) hw) λD σ H ⟨C,ρ,D0,I,h,k⟩=>by
  obtain⟨l,hl,h⟩:=jW h;obtain⟨a,vs,h1,h2,h3,h4⟩:=I.ow i l hl;refine⟨.ref a,h1,.inl ⟨rfl,vs,SqL.of h2⟩,C,ρ,_,I,h,λb ρ1 v H1 q f s r=> ?_⟩
  obtain⟨l',hl',hz,q⟩:=jW q;have e:=f.ow hl';rw[hl]at e;cases e;have I1:=(I.frz f).same s;obtain⟨a',vs',g1,g2,g3,g4⟩:=I1.ow i l hl';rw[h1]at g1;cases g1;refine⟨a,vs',v,rfl,rfl,g2,by rw[<-g4.length];exact hz,k.nx _ _ _ q ?_⟩
  exact I1.write hl' h1 (g4.append (.cons (r.rep λa z=>I.avF f z) .nil))
def uSetI (i:Nat)(t ti:UE):US:=λD ρ=>t ρ λb ρ1=>j6 ρ1 i λ_=>ti ρ1 λj ρ2=>j6 ρ2 i λl=>match j.d with
 | .int k=>(match ixN l.length k with
  | some n=>D.nx (ρ2.set i (some (.ow (l.set n b.d))))
  | none=>False)
 | _=>False
def gIx (d i:D)(Q:D->Prop):Prop:=match gE d,i with
 | some l,.int k=>(match atI l k with
  | some x=>Q x
  | none=>False)
 | _,_=>False
def uIx (t:UV)(ti:UE):UE:=λρ Q=>t ρ λd ρ1=>ti ρ1 λi ρ2=>gIx d i.d λx=>Q (.pu x) ρ2
theorem aO.atI {l:List D}{vs:List V}{k:Int}{x:D}(r:aO K A H l vs)(h:atI l k=some x): ∃v,L2.atI vs k=some v/\Rep K A H x v:=by
 unfold L2.atI at h⊢;cases e:ixN l.length k with
 | none=>rw[e]at h;cases h
 | some j=>
  rw[e]at h;rw[<-r.length,e];exact r.get h
theorem t4.mono {A':AS}(s:dQ H H')(h: ∀a,A' a->A a): ∀{d:D} {v:V},t4 K A H d v->t4 K A' H' d v
 | .non,_,r=>Rep.mono (.sub s h) r
 | .bl _,_,r=>Rep.mono (.sub s h) r
 | .int _,_,r=>Rep.mono (.sub s h) r
 | .str _,_,r=>Rep.mono (.sub s h) r
 | .ty _,_,r=>Rep.mono (.sub s h) r
 | .tup _,_,⟨a,vs,e,c,r⟩=>⟨a,vs,e,c.imp (λc=>c.imp (s _ _) λ⟨o,z⟩=>⟨o,s _ _ z⟩) id,r.mono (.sub s h)⟩
 | .lst _,_,⟨a,vs,e,c,r⟩=>⟨a,vs,e,s _ _ c,r.mono (.sub s h)⟩
 | .rol _,_,⟨a,vs,e,c,r⟩=>⟨a,vs,e,s.seq c,r.mono (.sub s h)⟩
 | .obj _ _ _,_,r=>Rep.mono (.sub s h) r
 | .adr _,_,r=>Rep.mono (.sub s h) r
 | .xob _ _ _ _,_,r=>Rep.mono (.sub s h) r
theorem t4.seq {d:D}{v:V}{l:List D}(r:t4 K A H d v)(h:gE d=some l): ∃a vs,v= .ref a/\(SqL K H a vs\/SqT K H a vs)/\aO K A H l vs:=by
 cases d with
 | tup l'=>cases h;obtain⟨a,vs,e,c,r⟩:=r;exact⟨a,vs,e,.inr c,r⟩
 | lst l'=>cases h;obtain⟨a,vs,e,c,r⟩:=r;exact⟨a,vs,e,.inl (SqL.of c),r⟩
 | rol l'=>cases h;obtain⟨a,vs,e,c,r⟩:=r;exact⟨a,vs,e,.inl c,r⟩
 | _=>cases h
theorem yH {d i:D}{Q:D->Prop}(h:gIx d i Q): ∃l k x,gE d=some l/\i= .int k/\atI l k=some x/\Q x:=by
 unfold gIx at h;split at h
 ·rename_i l k e
  split at h
  ·rename_i x ex
   exact⟨l,k,x,e,rfl,ex,h⟩
  ·exact h.elim
 ·exact h.elim
theorem bY {t:UV}(ha:PUV X a t)(hb:PU X b ti)(hs:qI b):PU X (.Subscript a b pos) (uIx t ti):=
 dB (zF ix_seq ha hb hs) λσ H Q ⟨C,ρ,Q0,I,h,k⟩=>⟨C,ρ,_,I,h,λd ρ1 v H1 q f s r=>by
  have I1:=(I.frz f).same s;refine⟨C,ρ1,_,I1,q,λi ρ2 w H2 q2 f2 s2 r2=> ?_⟩
  obtain⟨l,kk,x,e1,e2,e3,q2⟩:=yH q2;have ri:=r2.rep λa z=>I1.avF f2 z
  rw[e2]at ri;have:=aY ri;subst this;obtain⟨a,vs,rfl,c,rs⟩:=(r.mono (A':=Av C ρ2 σ) s2 λa=>f2.av).seq e1
  obtain⟨u,e4,r4⟩:=rs.atI e3;have fin:=k (.pu x) ρ2 u H2 q2 (f.trans f2) (s.trans s2) r4;rcases c with c|c
  ·exact .inl ⟨a,vs,kk,u,rfl,rfl,c,e4,fin⟩
  ·exact .inr (.inl ⟨a,vs,kk,u,rfl,rfl,c,e4,fin⟩)⟩
abbrev UO:=Ev->(Option Int->Ev->Prop)->Prop
def lO (K:Frag)(t:UO):TO:=λσ H Q=> ∃C ρ Q0,EOk K C ρ σ H/\t ρ Q0/\ ∀i ρ' H',Q0 i ρ'->Frz ρ ρ'->dQ H H'->Q i H'
def PUO (X:Cx)(e:Option Expr)(t:UO):Prop:=PO X e (lO X.K t)
theorem zJ {e:Option Expr}{t t':TO}(h:PO X e t)(i: ∀σ H Q,t' σ H Q->t σ H Q):PO X e t':=λpins s σ H Q I q=>h pins s σ H Q I (i σ H Q q)
def nM:UO:=λρ Q=>Q none ρ
def iT (t:UE):UO:=λρ Q=>t ρ λb ρ1=>match b.d with
 | .int i=>Q (some i) ρ1
 | _=>False
theorem rT:PUO X none nM:=zJ y1 λσ H Q ⟨C,ρ,Q0,I,h,k⟩=>k _ _ _ h (.refl _) (.refl _)
theorem fO (h:PU X e te):PUO X (some e) (iT te):=zJ (y2 h) λσ H Q ⟨C,ρ,Q0,I,h,k⟩=>⟨C,ρ,_,I,h,λb ρ1 v H1 q f s r=>by
 have r':=r.rep λa z=>I.avF f z
 generalize b.d=d at q r';split at q
 ·exact⟨_,aY r',k _ _ _ q f s⟩
 ·exact q.elim⟩
def cutD (l:List D)(lo hi:Option Int):List D:=(l.drop (HT.sIx l.length 0 lo)).take (HT.sIx l.length l.length hi-HT.sIx l.length 0 lo)
theorem aO.cut {l:List D}{vs:List V}(r:aO K A H l vs)(lo hi:Option Int):aO K A H (cutD l lo hi) (rP vs lo hi):=by
 unfold cutD rP;rw[r.length];exact(r.drop _).take _
def gSl (d:D)(lo hi:Option Int)(Q:B->Prop):Prop:=match d with
 | .tup l=> ¬(HT.sIx l.length 0 lo=0/\HT.sIx l.length l.length hi=l.length)/\Q (.pu (.tup (cutD l lo hi)))
 | .lst l=>Q (.ow (cutD l lo hi))
 | .rol l=>Q (.ow (cutD l lo hi))
 | _=>False
def uSl (t:UV)(tl th:UO):UE:=λρ Q=>t ρ λd ρ1=>tl ρ1 λlo ρ2=>th ρ2 λhi ρ3=>gSl d lo hi λb=>Q b ρ3
theorem rV {t:UV}{tl th:UO}{lo hi:Option Expr}{p2:Pos}(he:PUV X e t)(hl:PUO X lo tl)(hu:PUO X hi th):PU X (.Subscript e (.Slice lo hi none p2) pos) (uSl t tl th):=
 dB (nV (tY.or vY) he hl hu) λσ H Q ⟨C,ρ,Q0,I,h,k⟩=>⟨C,ρ,_,I,h,λd ρ1 v H1 q f s r=>by
  have I1:=(I.frz f).same s;refine⟨C,ρ1,_,I1,q,λl2 ρ2 H2 q2 f2 s2=> ?_⟩
  have I2:=(I1.frz f2).same s2;refine⟨C,ρ2,_,I2,q2,λh3 ρ3 H3 q3 f3 s3=> ?_⟩
  have I3:=(I2.frz f3).same s3;have s13:=s2.trans s3;have sAll:=s.trans s13;have fAll:=f.trans (f2.trans f3);have r':=r.mono (A':=Av C ρ3 σ) s13 λa z=>f2.av (f3.av z)
  cases d with
  | tup l=>
   obtain⟨hw,q3⟩:=q3;obtain⟨a,vs,rfl,c,rs⟩:=r';exact .inr ⟨a,vs,rfl,c,by rw[<-rs.length];exact hw,λp n=>k _ ρ3 _ _ q3 fAll (sAll.trans (bR n _)) (eL (λa z=>I3.avSome z) n (rs.cut l2 h3))⟩
  | lst l=>
   obtain⟨a,vs,rfl,c,rs⟩:=r';exact .inl ⟨a,vs,rfl,SqL.of c,λp n=>k _ ρ3 _ _ q3 fAll (sAll.trans (bR n _)) (cX sAll n (rs.cut l2 h3))⟩
  | rol l=>
   obtain⟨a,vs,rfl,c,rs⟩:=r';exact .inl ⟨a,vs,rfl,c,λp n=>k _ ρ3 _ _ q3 fAll (sAll.trans (bR n _)) (cX sAll n (rs.cut l2 h3))⟩
  | _=>exact(show False from q3).elim⟩
def Sm (i:Int):Prop:=i.natAbs<2^9000
theorem Sm.log {i:Int}(h:Sm i):i.natAbs.log2<9000:=by
 by_cases z:i.natAbs=0
 ·rw[z];decide
 ·exact(Nat.log2_lt z).mpr h
def eN (d e:D)(Q:B->Prop):Prop:=match d,e with
 | .int i,.int j=>Q (.pu (.int (i+j)))
 | .lst l,.lst m=>l.length+m.length<=sizeLine/\Q (.ow (l++m))
 | .tup l,.tup m=>l.length+m.length<=sizeLine/\Q (.pu (.tup (l++m)))
 | _,_=>False
theorem wK:OpR X (binaryOp .Add) (λx y H Q=> ∃a b ys,x= .ref a/\y= .ref b/\SqT X.K H a []/\SqT X.K H b ys/\Q (.ref b) H):=by
 intro pins s σ H x y v u Q I rx ry h;obtain⟨a,b,ys,rfl,rfl,ha,hb,q⟩:=h;cases rx;cases ry;obtain⟨its,r1,p1,_⟩:=I.tuple ha;obtain⟨its2,r2,p2,_⟩:=I.tuple hb;have e:its=[]:=by
  have:=r1.length;exact List.length_eq_zero_iff.mp this.symm
 subst e;obtain⟨⟨cls,dd,data,sl⟩,ho,hc,n,hd⟩:=id p1;obtain⟨⟨cls2,dd2,data2,sl2⟩,ho2,hc2,n2,hd2⟩:=id p2;simp only at hc hd hc2 hd2;subst hc hd hc2 hd2;exact concat_meets ⟨_,ho,rfl⟩ ⟨_,ho2,rfl⟩ noFill_tuple_add seq_tuple_add PySem.F.slot_tuple_add PySem.F.entry_tuple_add (PySem.F.args_tuple_add_2 _ _) (tuple_addW0 a b _ its2.toArray n n2 dd dd2 sl sl2 rfl) ⟨ho,ho2,⟨.ref b,H,I,rfl,q⟩⟩
theorem n3 {i:Int}:hJ K A H H' (.pu (.int i)) (.int i):=by
 show Rep K A H' (.int i) (.int i)
 simp only[Rep]
theorem bZ:OpU X (binaryOp .Add) eN:=by
 intro A H d e v w Q0 Q hA r1 r2 g k;unfold eN at g;split at g
 ·rename_i i j
  exact⟨_,op_add,i,j,aY r1,aY r2,k _ _ H g (.refl _) n3⟩
 ·rename_i l m
  simp only[Rep]at r1 r2;obtain⟨a,vs,rfl,n1,c1,rs1⟩:=r1;obtain⟨b,ws,rfl,n2,c2,rs2⟩:=r2;exact⟨_,op_cat,a,b,vs,ws,rfl,rfl,c1,c2,by rw[<-rs1.length,<-rs2.length];exact g.1,λp n=>k _ _ _ g.2 (bR n _) (cX (.refl _) n (rs1.append rs2))⟩
 ·rename_i l m
  simp only[Rep]at r1 r2;obtain⟨a,vs,rfl,c1,rs1⟩:=r1;obtain⟨b,ws,rfl,c2,rs2⟩:=r2;obtain⟨hz,g⟩:=g
  by_cases hn:l=[]
  ·subst hn;have e1:vs=[]:=rs1.unnil;subst e1;refine⟨_,wK,a,b,ws,rfl,rfl,c1.imp And.right id,c2.imp And.right id,k _ _ H g (.refl _) ?_⟩;show Rep X.K A H (.tup m) (.ref b);simp only[Rep];exact⟨b,ws,rfl,c2,rs2⟩
  refine⟨_,y3,a,b,vs,ws,rfl,rfl,c1.imp And.right id,c2.imp And.right id,λz=>hn ?_,by rw[<-rs1.length,<-rs2.length];exact hz,λz=> ?_,λz p n=> ?_⟩
  ·have:=rs1.length;rw[z]at this;exact List.length_eq_zero_iff.mp this
  ·have e2:=rs2.length;rw[z]at e2;have e3:m=[]:=List.length_eq_zero_iff.mp e2;subst e3;rw[append_nil]at g;refine k _ _ H g (.refl _) ?_;show Rep X.K A H (.tup l) (.ref a);simp only[Rep];exact⟨a,vs,rfl,c1,rs1⟩
  ·exact k _ _ _ g (bR n _) (eL hA n (rs1.append rs2))
 ·exact g.elim
def gI2 (f:Int->Int->(B->Prop)->Prop)(d e:D)(Q:B->Prop):Prop:=match d,e with
 | .int i,.int j=>f i j Q
 | _,_=>False
theorem jX {f:Int->Int->(B->Prop)->Prop}{d e:D}{Q:B->Prop}(h:gI2 f d e Q): ∃i j,d= .int i/\e= .int j/\f i j Q:=by
 unfold gI2 at h;split at h
 ·exact⟨_,_,rfl,rfl,h⟩
 ·exact h.elim
def gSub:D->D->(B->Prop)->Prop:=gI2 λi j Q=>Q (.pu (.int (i-j)))
theorem m7:OpU X (binaryOp .Sub) gSub:=by
 intro A H d e v w Q0 Q hA r1 r2 g k;obtain⟨i,j,rfl,rfl,g⟩:=jX g;exact⟨_,op_sub,i,j,aY r1,aY r2,k _ _ H g (.refl _) n3⟩
theorem u3 {i:Int}(h:Sm i):Builtin.Int.intBits i<=2^20:=le_trans (PyProof.Rows.intBits_le h) (by decide)
def fP (d e:D)(Q:B->Prop):Prop:=match d,e with
 | .int i,.int j=>(sT i j\/(Sm i/\Sm j))/\Q (.pu (.int (i*j)))
 | .lst l,.int k=>(-(2^63)<=k/\k<2^63/\l.length*k.toNat<=sizeLine)/\Q (.ow (replicate k.toNat l).flatten)
 | _,_=>False
theorem yI:OpR X (binaryOp .Mult) (rI (λi j=>sT i j\/(Sm i/\Sm j)) λi j=> .int (i*j)):=opI λ_ _ _ _ _ _ _ hc q=>mul_int q (hc.elim sT.ok λh=> .of_bits (u3 h.1) (u3 h.2))
theorem d4:OpU X (binaryOp .Mult) fP:=by
 intro A H d e v w Q0 Q hA r1 r2 g k;unfold fP at g;split at g
 ·rename_i i j
  exact⟨_,yI,i,j,aY r1,aY r2,g.1,k _ _ H g.2 (.refl _) n3⟩
 ·rename_i l kk
  have:=aY r2;subst this;simp only[Rep]at r1;obtain⟨a,vs,rfl,n1,c1,rs1⟩:=r1;obtain⟨⟨h1,h2,h3⟩,g⟩:=g;exact⟨_,op_rep,a,kk,vs,rfl,rfl,c1,h1,h2,by rw[<-rs1.length];exact h3,λp n=>k _ _ _ g (bR n _) (cX (.refl _) n (rs1.rep _))⟩
 ·exact g.elim
def yJ:D->D->(B->Prop)->Prop:=gI2 λi j Q=>(j≠0/\Sm j)/\Q (.pu (.int (i.fdiv j)))
def nY:D->D->(B->Prop)->Prop:=gI2 λi j Q=>j≠0/\Q (.pu (.int (i.fmod j)))
theorem yK:OpR X (binaryOp .FloorDiv) (rI (λ_ j=>j≠0/\Sm j) λi j=> .int (i.fdiv j)):=opI λ_ _ _ _ _ _ _ hc q=>floordiv_int hc.1 q (.inl (PyProof.noPylong_of_log2 hc.2.log))
theorem ou_div:OpU X (binaryOp .FloorDiv) yJ:=by
 intro A H d e v w Q0 Q hA r1 r2 g k;obtain⟨i,j,rfl,rfl,g⟩:=jX g;exact⟨_,yK,i,j,aY r1,aY r2,g.1,k _ _ H g.2 (.refl _) n3⟩
theorem kS:OpU X (binaryOp .Mod) nY:=by
 intro A H d e v w Q0 Q hA r1 r2 g k;obtain⟨i,j,rfl,rfl,g⟩:=jX g;exact⟨_,xW,i,j,aY r1,aY r2,g.1,k _ _ H g.2 (.refl _) n3⟩
def qT:D->D->(B->Prop)->Prop:=gI2 λi j Q=>xV i j/\Q (.pu (.int (i^j.toNat)))
theorem kT:OpU X (binaryOp .Pow) qT:=by
 intro A H d e v w Q0 Q hA r1 r2 g k;obtain⟨i,j,rfl,rfl,g⟩:=jX g;exact⟨_,op_pow,i,j,aY r1,aY r2,g.1,k _ _ H g.2 (.refl _) n3⟩
def m8 (p:Int->Int->Bool):D->D->(B->Prop)->Prop:=gI2 λi j Q=>Q (.pu (.bl (p i j)))
theorem t6 {op:CmpOp}{p:Int->Int->Bool}(ho:OpR X (compareOp op) (rI0 λi j=> .bl (p i j))):OpU X (compareOp op) (m8 p):=by
 intro A H d e v w Q0 Q hA r1 r2 g k;obtain⟨i,j,rfl,rfl,g⟩:=jX g;exact⟨_,ho,i,j,aY r1,aY r2,k _ _ H g (.refl _) eC⟩
theorem wL:OpU X (compareOp .Lt) (m8 λi j=>decide (i<j)):=t6 op_lt
theorem wM:OpU X (compareOp .Gt) (m8 λi j=>decide (j<i)):=t6 op_gt
theorem ou_ge:OpU X (compareOp .GtE) (m8 λi j=>decide (j<=i)):=t6 op_ge
def fA (neg:Bool)(d e:D)(Q:B->Prop):Prop:=match d,e with
 | .int i,.int j=>Q (.pu (.bl (neg ^^ decide (i=j))))
 | .bl i,.bl j=>Q (.pu (.bl (neg ^^ decide (i=j))))
 | .str i,.str j=>Q (.pu (.bl (neg ^^ decide (i=j))))
 | _,_=>False
theorem iL {b:Bool}{v:V}(h:Rep K A H (.bl b) v):v= .bl b:=by simpa only[Rep]using h
theorem bD {b:Str}{v:V}(h:Rep K A H (.str b) v):v= .str b:=by simpa only[Rep]using h
theorem j7:OpU X (compareOp .Eq) (fA false):=by
 intro A H d e v w Q0 Q hA r1 r2 g k;unfold fA at g;split at g
 ·rw[aY r1,aY r2];exact⟨_,vU,rfl,k _ _ H g (.refl _) (by rw[nK,false_xor,beq_eq_decide_eq];exact eC)⟩
 ·rw[iL r1,iL r2];exact⟨_,vU,rfl,k _ _ H g (.refl _) (by rw[qE,false_xor,beq_eq_decide_eq];exact eC)⟩
 ·rw[bD r1,bD r2];exact⟨_,vU,rfl,k _ _ H g (.refl _) (by rw[nL,false_xor,beq_eq_decide_eq];exact eC)⟩
 ·exact g.elim
theorem j8:OpU X (compareOp .NotEq) (fA true):=by
 intro A H d e v w Q0 Q hA r1 r2 g k;unfold fA at g;split at g
 ·rw[aY r1,aY r2];exact⟨_,vV,rfl,k _ _ H g (.refl _) (by rw[nK,true_xor,beq_eq_decide_eq];exact eC)⟩
 ·rw[iL r1,iL r2];exact⟨_,vV,rfl,k _ _ H g (.refl _) (by rw[qE,true_xor,beq_eq_decide_eq];exact eC)⟩
 ·rw[bD r1,bD r2];exact⟨_,vV,rfl,k _ _ H g (.refl _) (by rw[nL,true_xor,beq_eq_decide_eq];exact eC)⟩
 ·exact g.elim
end
section
variable {X:Cx}{a b e o:Expr}{es:List Expr}{pos:Pos}{ta tb te ti:UE}{K:Frag}{C:C0}{ρ ρ':Ev}{σ σ':L2.St}{H H':Hp}{A:AS}
def uNeg (t:UE):UE:=λρ Q=>t ρ λb ρ1=>match b.d with
 | .int i=>Q (.pu (.int (-i))) ρ1
 | _=>False
theorem pu_neg (h:PU X a ta):PU X (.UnaryOp .USub a pos) (uNeg ta):=
 dB (pe_un un_neg h) λσ H Q ⟨C,ρ,Q0,I,h,k⟩=>⟨C,ρ,_,I,h,λb ρ1 v H1 q f s r=>by
  have r':=r.rep λa z=>I.avF f z
  generalize b.d=d at q r';split at q
  ·exact⟨_,aY r',k _ _ _ _ q f s n3⟩
  ·exact q.elim⟩
def g1 (f:D->(B->Prop)->Prop)(ds:List D)(Q:B->Prop):Prop:=match ds with
 | [d]=>f d Q
 | _=>False
def g2 (f:D->D->(B->Prop)->Prop)(ds:List D)(Q:B->Prop):Prop:=match ds with
 | [d,e]=>f d e Q
 | _=>False
theorem j9 {f:D->(B->Prop)->Prop}{ds:List D}{Q:B->Prop}{vs:List V}(h:g1 f ds Q)(r:aO K A H ds vs): ∃d v,ds=[d]/\vs=[v]/\Rep K A H d v/\f d Q:=by
 unfold g1 at h;split at h
 ·obtain⟨v,vr,rfl,rv,rr⟩:=r.uncons;have:=rr.unnil;subst this;exact⟨_,v,rfl,rfl,rv,h⟩
 ·exact h.elim
theorem wN {f:D->D->(B->Prop)->Prop}{ds:List D}{Q:B->Prop}{vs:List V}(h:g2 f ds Q)(r:aO K A H ds vs): ∃d e v w,ds=[d,e]/\vs=[v,w]/\Rep K A H d v/\Rep K A H e w/\f d e Q:=by
 unfold g2 at h;split at h
 ·obtain⟨v,vr,rfl,rv,rr⟩:=r.uncons;obtain⟨w,wr,rfl,rw',rr'⟩:=rr.uncons;have:=rr'.unnil;subst this;exact⟨_,_,v,w,rfl,rfl,rv,rw',h⟩
 ·exact h.elim
def v2 (f:Int->(B->Prop)->Prop)(d:D)(Q:B->Prop):Prop:=match d with
 | .int i=>f i Q
 | _=>False
theorem rW {f:Int->(B->Prop)->Prop}{d:D}{Q:B->Prop}(h:v2 f d Q): ∃i,d= .int i/\f i Q:=by
 unfold v2 at h;split at h
 ·exact⟨_,rfl,h⟩
 ·exact h.elim
def gAbs:List D->(B->Prop)->Prop:=g1 (v2 λi Q=>Q (.pu (.int (if i<0 then -i else i))))
theorem cu_abs:i8 X (.builtin "abs") gAbs:=by
 intro A H ds vs Q0 Q hA r g k;obtain⟨d,v,rfl,rfl,rv,g⟩:=j9 g r;obtain⟨i,rfl,g⟩:=rW g;exact⟨_,vW,i,by rw[aY rv],k _ _ H g (.refl _) n3⟩
def gMax:List D->(B->Prop)->Prop:=g2 (gI2 λi j Q=>Q (.pu (.int (if j>i then j else i))))
theorem cu_max (hc:X.calm=true):i8 X (.builtin "max") gMax:=by
 intro A H ds vs Q0 Q hA r g k;obtain⟨d,e,v,w,rfl,rfl,rv,rw',g⟩:=wN g r;obtain⟨i,j,rfl,rfl,g⟩:=jX g;exact⟨_,uW hc,i,j,by rw[aY rv,aY rw'],k _ _ H g (.refl _) n3⟩
def gMin:List D->(B->Prop)->Prop:=g2 (gI2 λi j Q=>Q (.pu (.int (if j<i then j else i))))
def gToInt:List D->(B->Prop)->Prop:=g1 λd Q=>match d with
 | .int i=>Q (.pu (.int i))
 | .bl k=>Q (.pu (.int (if k then 1 else 0)))
 | _=>False
def gF:List D->(B->Prop)->Prop:=g1 λd Q=>match gE d with
 | some l=>Q (.pu (.tup l))
 | none=>False
theorem jA:i8 X (.type "tuple") gF:=by
 intro A H ds vs Q0 Q hA r g k;obtain⟨d,v,rfl,rfl,rv,g⟩:=j9 g r;cases d with
 | tup l=>
  have rv':=rv;simp only[Rep]at rv;obtain⟨a,vs,rfl,c,rs⟩:=rv;exact⟨_,hE,a,vs,rfl,.inr ⟨c.imp And.right id,k _ _ H g (.refl _) rv'⟩⟩
 | lst l=>
  simp only[Rep]at rv;obtain⟨a,vs,rfl,n,c,rs⟩:=rv;exact⟨_,hE,a,vs,rfl,.inl ⟨SqL.of c,λp n=>k _ _ _ g (bR n _) (eL hA n rs)⟩⟩
 | rol l=>
  simp only[Rep]at rv;obtain⟨a,vs,rfl,c,rs⟩:=rv;exact⟨_,hE,a,vs,rfl,.inl ⟨c.imp And.right id,λp n=>k _ _ _ g (bR n _) (eL hA n rs)⟩⟩
 | _=>exact(show False from g).elim
def nN:List D->(B->Prop)->Prop:=g1 λd Q=>match gE d with
 | some l=>Q (.ow l)
 | none=>False
theorem u4:i8 X (.type "list") nN:=by
 intro A H ds vs Q0 Q hA r g k;obtain⟨d,v,rfl,rfl,rv,g⟩:=j9 g r;cases e:gE d with
 | none=>simp only[e]at g
 | some l=>
  simp only[e]at g;obtain⟨a,vs,rfl,c,rs⟩:=rv.one.seq e;exact⟨_,qM,a,vs,rfl,c,λp n=>k _ _ _ g (bR n _) (cX (.refl _) n rs)⟩
def j3 (t:UV):UE:=λρ Q=>t ρ λd ρ1=>match gE d with
 | some l=>Q (.pu (.int l.length)) ρ1
 | none=>False
theorem eK {t:UV}{p:Pos}(ha:PUV X e t)(hg:Gl X "len")(hm:X.mg "len"=none)(hs:starEach [e] X.env=(false,eval e X.env)::starEach [] X.env:=by rfl)
  (hpl:(backTo pos (starEach [] X.env)).any (·.1)=false:=by rfl):PU X (.Call (.Name "len" p) [e] [] pos) (j3 t):=
 dB (rO qK hg hm PySem.boot_len (qG ha sV hs) (by decide) (by decide) hs hpl) λσ H Q ⟨C,ρ,Q0,I,h,k⟩=>⟨C,ρ,_,I,h,λd ρ1 v H1 q f s r=>by
  cases e:gE d with
  | none=>simp only[e]at q
  | some l=>
   simp only[e]at q;obtain⟨a,vs,rfl,c,rs⟩:=r.seq e;exact⟨a,vs,rfl,c,k _ _ _ _ q f s (by rw[rs.length];exact n3)⟩⟩
def isI:D->String->Option Bool
 | .int _,"int"=>some true
 | .int _,"bool"=>some false
 | .int _,"tuple"=>some false
 | .int _,"list"=>some false
 | .bl _,"bool"=>some true
 | .bl _,"int"=>some true
 | .tup _,"tuple"=>some true
 | .tup _,"int"=>some false
 | .tup _,"list"=>some false
 | .lst _,"list"=>some true
 | .lst _,"tuple"=>some false
 | .lst _,"int"=>some false
 | _,_=>none
theorem kU {x:Value}{T:String}{prog:Program}{w:World}{A:Around}{E:Value->Shared->Prop}{s:Shared}{Q:Value->Shared->Prop}
  {P:(Result->Shared->Prop)->Shared->Prop} (hm:Meets (Builtin.«isinstance» ⟨[x,.type T],[]⟩) (λ_ R s=>P R s)) (h:P (λr s'=>match r with| .ok (.ret v)=>Q v s'| .ok _=>False| .error e=>E e s') s) :
  wpAny (model prog w) A (call (.builtin "isinstance") [x,.type T]) Q E s:=
 call_function_any kind_isinstance plain_isinstance entry_isinstance (args_isinstance _ _) (hm _ _ _ _ _ h)
theorem rep_ty {T:String}{v:V}(h:Rep K A H (.ty T) v):v= .ty T:=by simpa only[Rep]using h
def rIsi (K:Frag):List V->Hp->VK->Prop:=λxs H Q=> ∃x T k,xs=[x,.ty T]/\Q (.bl k) H/\
 ((∃i,x= .int i/\((T="int"/\k=true)\/((T="bool"\/T="tuple"\/T="list")/\k=false)))\/(∃c,x= .bl c/\(T="int"\/T="bool")/\k=true)\/
  (∃a ys,x= .ref a/\SqT K H a ys/\((T="tuple"/\k=true)\/((T="int"\/T="list")/\k=false)))\/(∃a ys,x= .ref a/\SqL K H a ys/\((T="list"/\k=true)\/((T="int"\/T="tuple")/\k=false))))
theorem tyT (T:String)(h:T="int"\/T="bool"\/T="tuple"\/T="list"):typeOf (.type T)=pure (.type "type"):=by
 rcases h with rfl|rfl|rfl|rfl<;>first|rfl|decide
theorem gG:eD X (.builtin "isinstance") (rIsi X.K):=by
 intro pins s σ H xs us Q I r h;obtain⟨x,T,k,rfl,q,h⟩:=h;obtain⟨u,w',rfl,rx,ry⟩:=vals2 r;have e:w'=Value.type T:=ry;subst e;rcases h with⟨i,rfl,h⟩| ⟨c,rfl,h,rfl⟩| ⟨a,ys,rfl,hs,h⟩| ⟨a,ys,rfl,hs,h⟩
 ·obtain⟨t,rfl⟩:=rx;rcases h with⟨rfl,rfl⟩| ⟨h,rfl⟩
  ·exact call_isinstance_yes (typeIs_int s i t) (tyT _ (by simp)) PyProof.Rows.sub_int_int ⟨.bl true,H,I,rfl,q⟩
  ·rcases h with rfl|rfl|rfl
   ·exact kU (isinstance_false_int (by decide) (tyT _ (by simp)) PyProof.Rows.sub_int_bool) ⟨.bl false,H,I.tok _,rfl,q⟩
   ·exact kU (isinstance_false_int (by decide) (tyT _ (by simp)) PyProof.Rows.sub_int_tuple) ⟨.bl false,H,I.tok _,rfl,q⟩
   ·exact kU (isinstance_false_int (by decide) (tyT _ (by simp)) PyProof.Rows.sub_int_list) ⟨.bl false,H,I.tok _,rfl,q⟩
 ·cases rx;rcases h with rfl|rfl
  ·exact call_isinstance_yes (PySem.typeIs_bool s c) (tyT _ (by simp)) PyProof.Rows.sub_bool_int ⟨.bl true,H,I,rfl,q⟩
  ·exact call_isinstance_yes (PySem.typeIs_bool s c) (tyT _ (by simp)) PyProof.Rows.sub_bool_bool ⟨.bl true,H,I,rfl,q⟩
 ·cases rx;obtain⟨its,rv,p,hz⟩:=I.tuple hs;obtain⟨o,ho,hc,_⟩:=id p;rcases h with⟨rfl,rfl⟩| ⟨h,rfl⟩
  ·exact call_isinstance_yes p.typeIs (tyT _ (by simp)) PyProof.Rows.sub_tuple_tuple ⟨.bl true,H,I,rfl,q⟩
  ·rcases h with rfl|rfl
   ·exact kU (isinstance_false_tuple (by decide) (tyT _ (by simp)) PyProof.Rows.sub_tuple_int) ⟨⟨o,ho,hc⟩,.bl false,H,I.tok _,rfl,q⟩
   ·exact kU (isinstance_false_tuple (by decide) (tyT _ (by simp)) PyProof.Rows.sub_tuple_list) ⟨⟨o,ho,hc⟩,.bl false,H,I.tok _,rfl,q⟩
 ·cases rx;obtain⟨its,rv,p,hz⟩:=I.list hs;obtain⟨o,n,ho,hc,_⟩:=id p;rcases h with⟨rfl,rfl⟩| ⟨h,rfl⟩
  ·exact call_isinstance_yes p.isList.typeIs (tyT _ (by simp)) PyProof.Rows.sub_list_list ⟨.bl true,H,I,rfl,q⟩
  ·rcases h with rfl|rfl
   ·exact kU (isinstance_false_list (by decide) (tyT _ (by simp)) PyProof.Rows.sub_list_int) ⟨⟨o,ho,hc⟩,.bl false,H,I.tok _,rfl,q⟩
   ·exact kU (isinstance_false_list (by decide) (tyT _ (by simp)) PyProof.Rows.sub_list_tuple) ⟨⟨o,ho,hc⟩,.bl false,H,I.tok _,rfl,q⟩
def qU:List D->(B->Prop)->Prop:=g2 λd e Q=>match e with
 | .ty T=>(match d with
  | .int _=>if T="int" then Q (.pu (.bl true))else if T="bool"\/T="tuple"\/T="list" then Q (.pu (.bl false))else False
  | .bl _=>if T="int"\/T="bool" then Q (.pu (.bl true))else False
  | .tup _=>if T="tuple" then Q (.pu (.bl true))else if T="int"\/T="list" then Q (.pu (.bl false))else False
  | .lst _=>if T="list" then Q (.pu (.bl true))else if T="int"\/T="tuple" then Q (.pu (.bl false))else False
  | _=>False)
 | _=>False
theorem kW:i8 X (.builtin "isinstance") qU:=by
 intro A H ds vs Q0 Q hA r g k;obtain⟨d,e,v,w,rfl,rfl,rv,rw',g⟩:=wN g r;have no: ∀{c:Bool},Q0 (.pu (.bl c))->Q (.bl c) H:=λz=>k _ _ H z (.refl _) eC
 cases e with
 | ty T=>
  rw[rep_ty rw'];cases d with
  | int i=>
   rw[aY rv]
   by_cases h1:T="int"
   ·simp only[h1,if_true]at g;exact⟨_,gG,_,T,true,rfl,no g,.inl ⟨i,rfl,.inl ⟨h1,rfl⟩⟩⟩
   ·by_cases h2:T="bool"\/T="tuple"\/T="list"
    ·simp only[h1,h2,if_true,if_false]at g;exact⟨_,gG,_,T,false,rfl,no g,.inl ⟨i,rfl,.inr ⟨h2,rfl⟩⟩⟩
    ·simp only[h1,h2,if_false]at g
  | bl c=>
   rw[iL rv]
   by_cases h1:T="int"\/T="bool"
   ·simp only[h1,if_true]at g;exact⟨_,gG,_,T,true,rfl,no g,.inr (.inl ⟨c,rfl,h1,rfl⟩)⟩
   ·simp only[h1,if_false]at g
  | tup l=>
   obtain⟨a,vs,rfl,c,rs⟩:=rv.one
   by_cases h1:T="tuple"
   ·simp only[h1,if_true]at g;exact⟨_,gG,_,T,true,rfl,no g,.inr (.inr (.inl ⟨a,vs,rfl,c,.inl ⟨h1,rfl⟩⟩))⟩
   ·by_cases h2:T="int"\/T="list"
    ·simp only[h1,h2,if_true,if_false]at g;exact⟨_,gG,_,T,false,rfl,no g,.inr (.inr (.inl ⟨a,vs,rfl,c,.inr ⟨h2,rfl⟩⟩))⟩
    ·simp only[h1,h2,if_false]at g
  | lst l=>
   obtain⟨a,vs,rfl,c,rs⟩:=rv.one
   by_cases h1:T="list"
   ·simp only[h1,if_true]at g;exact⟨_,gG,_,T,true,rfl,no g,.inr (.inr (.inr ⟨a,vs,rfl,SqL.of c,.inl ⟨h1,rfl⟩⟩))⟩
   ·by_cases h2:T="int"\/T="tuple"
    ·simp only[h1,h2,if_true,if_false]at g;exact⟨_,gG,_,T,false,rfl,no g,.inr (.inr (.inr ⟨a,vs,rfl,SqL.of c,.inr ⟨h2,rfl⟩⟩))⟩
    ·simp only[h1,h2,if_false]at g
  | _=>exact(show False from g).elim
 | _=>exact(show False from g).elim
theorem nZ {x:Str}{T:String}{p:Pos}(hg:Gl X x)(hm:X.mg x=none)(hv:bootBuiltins x=some (.type T))(hn:x≠"__name__":=by decide)(hd:(x==("__debug__":Str))=false:=by decide):PU X (.Name x p) (uC (.ty T)):=
 qN (xQ (v:= .ty T) hg hm hv rfl hn hd) λA H=>by simp only[Rep]
def init (N:List Str)(ds:List D):Ev:=ds.map (λd=>some (.pu d))++replicate (N.length-ds.length) none
theorem jB {N:List Str}{ds:List D}{i:Nat}{z:B}(h:(init N ds)[i]? =some (some z)): ∃d,z= .pu d/\ds[i]? =some d:=by
 unfold init at h
 by_cases hi:i<ds.length
 ·rw[getElem?_append_left (by simpa using hi),getElem?_map]at h
  cases e:ds[i]? with
  | none=>rw[e]at h;cases h
  | some d=>rw[e]at h;cases h;exact⟨d,rfl,rfl⟩
 ·rw[getElem?_append_right (by simpa using hi),List.getElem?_replicate]at h
  split at h<;>cases h
theorem yL {N:List Str}{ds:List D}{vs:List V}(hA: ∀a,A a->H a≠none)(r:aO K A H ds vs):EOk K ⟨H,A⟩ (init N ds) (L2.start N vs) H:=by
 have own: ∀a,¬Own (init N ds) (L2.start N vs) a:=λa ⟨i,l,h1,_⟩=>by
  obtain⟨d,e,_⟩:=jB h1;cases e
 refine⟨?_,λi d h=> ?_,λi l h=> ?_,λi j l l' a h=> ?_,λi l h=> ?_,.refl _,hA⟩
 ·unfold init L2.start;simp[r.length]
 ·obtain⟨d',e,e2⟩:=jB h;cases e;obtain⟨v,h1,h2⟩:=r.get e2;refine⟨v,?_,h2.mono (.sub (.refl _) λa z=>z.elim id λz=>absurd z (own a))⟩
  unfold L2.start;have hv:i<vs.length:=(List.getElem?_eq_some_iff.mp h1).1;rw[getElem?_append_left (by simpa using hv),getElem?_map,h1]
  rfl
 ·obtain⟨d',e,_⟩:=jB h;cases e
 ·obtain⟨d',e,_⟩:=jB h;cases e
 ·obtain⟨d',e,_⟩:=jB h;cases e
theorem u5 {P:Program}{w:World}{K:Frag}{mg:Str->Option Value}{base:Heap}{x qual:Str}{st:Stmt}{f:Addr}{fd:FuncData}{N ps:List Str}{k:Nat}{φ:Φ}(F:Fun K x qual st f fd)(S:b9 N ps (aB st))
  (len: ∀ds Q,φ ds Q->ds.length=ps.length)
  (body: ∀(cdv:Value) (A:Around) (outer:List Env) (s:Shared) (H:Hp) (E:XK),cL k (A.deeper (envOfC qual (aB st) s.heap.objs.size f cdv))->
   ∃t,eE (eI CX0 P w K mg base N qual (aB st) f cdv A outer s H E).nox (aL st) t/\ ∀ds Q,φ ds Q->t {nx:=λ_=>Q (.pu .non),rt:=Q} (init N ds)) :
  j5 P w K mg base CX0 (k+1) f fd ps (spP K φ):=by
 refine F.ok S (λvs H Q E h=> ?_) (λcdv A outer s H vs Q E hr h=> ?_)
 ·obtain⟨A,ds,Q0,_,r,h,_⟩:=h;rw[<-r.length];exact len ds Q0 h
 ·obtain⟨A',ds,Q0,hA,r,h,q⟩:=h;obtain⟨t,ht,hq⟩:=body cdv A outer s H E hr;refine⟨_,ht,⟨H,A'⟩,init N ds,_,yL hA r,hq ds Q0 h,⟨λρ σ H' z I=> ?_,λb v H' z s r=>q b v H' z s r,λ_ _ _ z=>z.elim,λ_ _ _ z=>z.elim⟩⟩
  exact q _ _ H' z I.ext (show Rep _ _ _ _ _ by simp only[Rep])
end
structure Fn (P:Program)(w:World)(K:Frag)(mg:Str->Option Value)(base:Heap)(x:Str)(ps:List Str)(k:Nat)(φ:Φ):Prop where
 ex: ∃f fd,j5 P w K mg base CX0 k f fd ps (spP K φ)/\Binds K fd ps []/\keepIn K (.ref f)=true/\mg x=some (.ref f)
section
variable {X:Cx}{e:Expr}{es:List Expr}{pos:Pos}
theorem aT {k k':Nat}{ps:List Str}{φ:Φ}{x:Str}{p:Pos}{t:UA}(F:Fn X.prog X.w X.K X.mg X.base x ps k φ)(hr:cL k' X.A)(hk:k<=k')(hg:Gl X x)(ha:PUA X (e::es) t)(hdb:(x==("__debug__":Str))=false:=by decide)
  (he:starEach (e::es) X.env=(false,eval e X.env)::starEach es X.env:=by rfl) (hpl:(backTo pos (starEach es X.env)).any (·.1)=false:=by rfl):PU X (.Call (.Name x p) (e::es) [] pos) (aK φ t):=by
 obtain⟨f,fd,G,b,kp,m⟩:=F.ex;exact yD (E:=E0) G (hr.mono hk) hg m kp b (λ_ _ _ _ _ _ _ h=>h.elim) ha hdb he hpl
theorem il {n i:Nat}(hn:X.N.length=n)(h:i<n): ∀pins σ H s,Inv X pins σ H s->i<σ.length:=λ_ _ _ _ I=>by rw[I.len,hn];exact h
end
theorem Fn.mk' {P:Program}{w:World}{K:Frag}{mg:Str->Option Value}{base:Heap}{x qual:Str}{st:Stmt}{f:Addr}{fd:FuncData}{N ps:List Str}{k:Nat}{φ:Φ}(F:Fun K x qual st f fd)(m:mg x=some (.ref f))(b:Binds K fd ps [])(S:b9 N ps (aB st))
  (len: ∀ds Q,φ ds Q->ds.length=ps.length) {t:US}
  (der: ∀(cdv:Value) (A:Around) (outer:List Env) (s:Shared) (H:Hp) (E:XK),cL k (A.deeper (envOfC qual (aB st) s.heap.objs.size f cdv))->eE (eI CX0 P w K mg base N qual (aB st) f cdv A outer s H E).nox (aL st) t)
  (rd: ∀ds Q,φ ds Q->t {nx:=λ_=>Q (.pu .non),rt:=Q} (init N ds)):Fn P w K mg base x ps (k+1) φ:=
 ⟨f,fd,u5 F S len λcdv A outer s H E hr=>⟨t,der cdv A outer s H E hr,rd⟩,b,F.kp,m⟩
def pE:Φ:=λds Q=> ∃ns:List Int,ds=[.rol (ns.map .int)]/\ns.length<=63/\Q (.pu (.bl true))
theorem pF {K:Frag}{A:AS}{H:Hp}: ∀ns:List Int,aO K A H (ns.map .int) (ns.map V.int)
 | []=> .nil
 | n::ns=> .cons (by simp only[Rep]) (pF ns)
theorem law_sp {K:Frag}{H:Hp}{a:Addr}{ns:List Int}(hl:ns.length<=63)(hS:SqL K H a (ns.map V.int)):spP K pE [.ref a] H (λv _=>v= .bl true) (λ_ _ _=>False):=by
 refine⟨λ_=>False,[.rol (ns.map .int)],λb=>b= .pu (.bl true),λ_ z=>z.elim,.cons ?_ .nil,⟨ns,rfl,hl,rfl⟩,λb v H' q s r=> ?_⟩
 ·simp only[Rep];exact⟨a,_,rfl,hS.imp (λz=>⟨λz=>z,z⟩) id,pF ns⟩
 ·subst q;have r':Rep K (λ_=>False) H' (.bl true) v:=r
  exact iL r'
theorem walkM {l:PySem.W.OpenLaw}{k:Nat}{x:Str}{q:Program}{loose:List Str}{XP:(Str->Option Value)->Heap->Prop}{YP:World->Heap->Prop}{d:DefRec}{K:Params->Frag}(hn:l.most=some 63)(hdf:d.params.defaults=[])(hr:cL k callerA)
  (hY: ∀(w:World) (h:Heap),YP w h->(K w.params).In h)
  (F: ∀(w:World) (mg:Str->Option Value) (fa:Addr) (h:Heap),(K w.params).In h->h.Ns mainGlobals mg->mg d.name=some (.ref fa)->
   ∃fd:FuncData,(∀(s:Shared) (u:Value),BindsTo s fd ⟨[u],[]⟩ [(x,u)])/\ ∀base:Heap,(K w.params).In base->base.Ns mainGlobals mg->j5 l.prog w (K w.params) mg base CX0 k fa fd [x] (spP (K w.params) pE)) :
  PySem.W.WalkO q loose XP YP l.row.toRowW d [] (λf vs=>PySem.call f vs):=
 L2.walk_of (n:=63) (k:=k) (x:=x) (CX:=λ_=>CX0) (sp:=λw=>spP (K w.params) pE) hn (by decide) hdf hr hY F (λ_ _ a ns hl _ hS=>law_sp hl hS) λ_ _ _ _ _ z=>z
end M
end
section
namespace L2
open PySem PySem.Spec PyProof.Rows
def bG (X:Cx)(N:List Str)(scope:Scope)(cl:List (Str×Addr))(C:Addr)(s:Shared)(H:Hp)(fp:List Addr)(pins:List (Addr×Obj)):Cx where
 prog:=X.prog
 w:=X.w
 K:=X.K
 mg:=X.mg
 base:=X.base
 A:=X.A
 N:=N
 s₀:=s
 H₀:=H
 env:=compEnvC scope cl C X.env
 outer:=X.stack
 stack:=X.stack
 ex:=fp
 fn:=λx=>scope.names.lookup x==some .cell
 calm:=X.calm
 pn:=X.pn++pins
 xe:=λ_ _=>False
theorem iM {env:Env}: ∀(names:List (Str×NameKind)),(∀y∈names,y.2= .free-> ∃c,env.cells.lookup y.1=some c)-> ∀cs:List (Str×Addr),(∀x c,cs.lookup x=some c->env.cells.lookup x=some c)->
  ∃cl,(forIn names cs fun(x:Str×NameKind) r=>(do if(x.2==NameKind.free)=true then do let c<-cellOf env x.1;pure (ForInStep.yield ((x.1,c)::r))else pure (ForInStep.yield r)):Sem (List (Str×Addr)))=pure cl/\
   (∀x c,cl.lookup x=some c->env.cells.lookup x=some c)/\(∀x c,cs.lookup x=some c-> ∃c',cl.lookup x=some c')/\ ∀y∈names,y.2= .free-> ∃c,cl.lookup y.1=some c
 | [],_,cs,hcs=>⟨cs,rfl,hcs,λx c h=>⟨c,h⟩,λy hy=>by simp at hy⟩
 | (n,k)::r,h,cs,hcs=>by
  have hr: ∀y∈r,y.2= .free-> ∃c,env.cells.lookup y.1=some c:=λy hy=>h y (mem_cons_of_mem _ hy)
  by_cases hk:k= .free
  ·subst hk;obtain⟨c,hc⟩:=h (n,.free) mem_cons_self rfl;have e1:cellOf env n=pure c:=by unfold cellOf;rw[hc]
   have hcs': ∀x c',List.lookup x ((n,c)::cs)=some c'->env.cells.lookup x=some c':=λx c' q=>by
    rw[lookup_cons]at q;split at q
    ·rename_i e
     have:x=n:=by simpa using e
     subst this;cases q;exact hc
    ·exact hcs x c' q
   obtain⟨cl,h1,h2,h3,h4⟩:=iM r hr ((n,c)::cs) hcs';have hn: ∃c',cl.lookup n=some c':=h3 n c (by rw[lookup_cons];simp)
   refine⟨cl,?_,h2,λx c' q=> ?_,λy hy hf=> ?_⟩
   ·rw[List.forIn_cons];show(do let c<-cellOf env n;pure (ForInStep.yield ((n,c)::cs))) >>= _=_;rw[e1];exact h1
   ·by_cases z:x=n
    ·subst z;exact hn
    ·refine h3 x c' ?_
     rw[lookup_cons];have:(x==n)=false:=by simpa using z
     rw[this];exact q
   ·rcases List.mem_cons.mp hy with rfl|hy
    ·exact hn
    ·exact h4 y hy hf
  ·obtain⟨cl,h1,h2,h3,h4⟩:=iM r hr cs hcs;refine⟨cl,?_,h2,h3,λy hy hf=> ?_⟩
   ·rw[List.forIn_cons];have:(k==NameKind.free)=false:=by simpa using hk
    show(if(k==NameKind.free)=true then _ else _) >>= _=_
    rw[this];exact h1
   ·rcases List.mem_cons.mp hy with rfl|hy
    ·exact absurd hf hk
    ·exact h4 y hy hf
structure dJ (env:Env)(XN N:List Str)(cap:List (Option Nat))(scope:Scope):Prop where
 kind:scope.kind= .function
 owns: ∀y∈scope.names,y.2= .cell->scope.names.lookup y.1=some .cell
 freeK: ∀y∈scope.names,y.2= .free->scope.names.lookup y.1=some .free
 names: ∀y∈scope.names,y.2= .local->scope.names.lookup y.1=some .local
 frees: ∀y∈scope.names,y.2= .free->env.kindOf y.1=some .cell\/env.kindOf y.1=some .free
 caps: ∀(i j:Nat) (x:Str),N[i]? =some x->cap[i]? =some (some j)->XN[j]? =some x/\(x,NameKind.free)∈scope.names/\scope.names.lookup x=some .free
 len:cap.length=N.length
def gS (σ:L2.St)(cap:List (Option Nat))(last:Nat)(D:Addr):L2.St:=(cap.map λc=>c.bind λj=>(σ[j]?).join).set last (some (.ref D))
theorem jC {env:Env}{x:Str}{k:NameKind}: ∀{names:List (Str×NameKind)},names.lookup x=some k->
  (names.map fun(n,k)=>if(k==NameKind.free&&env.scope.kind== .function&&env.kindOf n==some .cell)then(n,NameKind.cell)else(n,k)).lookup x=
   some (if(k==NameKind.free&&env.scope.kind== .function&&env.kindOf x==some .cell)then NameKind.cell else k)
 | [],h=>by simp at h
 | (n,k')::r,h=>by
  rw[map_cons];rw[lookup_cons]at h;dsimp only
  by_cases e:(x==n)=true
  ·have e':x=n:=by simpa using e
   subst e';rw[e]at h;cases h;split<;>simp
  ·have e2:(x==n)=false:=by simpa using e
   rw[e2]at h;have ih:=jC (env:=env) h;split
   ·rw[lookup_cons,e2];exact ih
   ·rw[lookup_cons,e2];exact ih
theorem eQ {env:Env}{x:Str}{k:NameKind}: ∀{names:List (Str×NameKind)},(names.map fun(n,k)=>if(k==NameKind.free&&env.scope.kind== .function&&env.kindOf n==some .cell)then(n,NameKind.cell)else(n,k)).lookup x=some k->
  ∃k',names.lookup x=some k'/\(x,k')∈names/\(k=k'\/k'= .free)
 | [],h=>by simp at h
 | (n,k')::r,h=>by
  rw[map_cons]at h;dsimp only at h
  by_cases e:(x==n)=true
  ·have e':x=n:=by simpa using e
   subst e';refine⟨k',by rw[lookup_cons,e],mem_cons_self,?_⟩
   split at h
   ·rename_i c
    right
    simp only[and_eq_true,beq_iff_eq]at c;exact c.1.1
   ·rw[lookup_cons,e]at h;cases h;exact .inl rfl
  ·have e2:(x==n)=false:=by simpa using e
   have h':(r.map fun(n,k)=>if(k==NameKind.free&&env.scope.kind== .function&&env.kindOf n==some .cell)then(n,NameKind.cell)else(n,k)).lookup x=some k:=by
    split at h
    ·rw[lookup_cons,e2]at h;exact h
    ·rw[lookup_cons,e2]at h;exact h
   obtain⟨k2,h1,h2,h3⟩:=eQ h';exact⟨k2,by rw[lookup_cons,e2];exact h1,mem_cons_of_mem _ h2,h3⟩
theorem m9 {x:Str}{c:Addr}: ∀(names:List (Str×NameKind)) (h:Heap) (acc:List (Str×Addr)),(cellsFrom h.objs.size names acc).lookup x=some c->
  acc.lookup x=some c\/(h.objs.size<=c/\(x,NameKind.cell)∈names/\(pushCells h names).IsCell c none)
 | [],_,_,e=> .inl e
 | (y,k)::r,h,acc,e=>by
  unfold cellsFrom at e;unfold pushCells
  by_cases hk:(k==NameKind.cell)=true
  ·rw[if_pos hk]at e⊢;have hk':k= .cell:=by simpa using hk
   have sz:(h.push {cls:= .type "cell",data:= .cell none}).objs.size=h.objs.size+1:=size_push ..;rw[<-sz]at e;rcases m9 r _ _ e with q| ⟨q1,q2,q3⟩
   ·rw[lookup_cons]at q;split at q
    ·rename_i e1
     have:x=y:=by simpa using e1
     subst this;cases q;exact .inr ⟨le_refl _,by rw[hk'];exact mem_cons_self,⟨_,pushCells_keeps _ _ _ _ (get?_push_size _ rfl),rfl⟩⟩
    ·exact .inl q
   ·exact .inr ⟨by lia,mem_cons_of_mem _ q2,q3⟩
  ·rw[if_neg hk]at e⊢;rcases m9 r h acc e with q| ⟨q1,q2,q3⟩
   ·exact .inl q
   ·exact .inr ⟨q1,mem_cons_of_mem _ q2,q3⟩
theorem mB: ∀(names:List (Str×NameKind)) (n:Nat) (acc:List (Str×Addr)),(∀x c,acc.lookup x=some c->c<n)->(∀x y c,acc.lookup x=some c->acc.lookup y=some c->x=y)->
  ∀x y c,(cellsFrom n names acc).lookup x=some c->(cellsFrom n names acc).lookup y=some c->x=y
 | [],_,_,_,hi=>hi
 | (z,k)::r,n,acc,hl,hi=>by
  unfold cellsFrom
  by_cases hk:(k==NameKind.cell)=true
  ·rw[if_pos hk];refine mB r (n+1) _ (λx c e=> ?_) (λx y c e1 e2=> ?_)
   ·rw[lookup_cons]at e;split at e
    ·cases e;exact Nat.lt_succ_self n
    ·exact Nat.lt_succ_of_lt (hl x c e)
   ·rw[lookup_cons]at e1 e2;split at e1
    ·rename_i q1
     cases e1;split at e2
     ·rename_i q2
      exact(by simpa using q1:x=z).trans (by simpa using q2:y=z).symm
     ·exact absurd (hl y _ e2) (lt_irrefl _)
    ·split at e2
     ·cases e2;exact absurd (hl x _ e1) (lt_irrefl _)
     ·exact hi x y c e1 e2
  ·rw[if_neg hk];exact mB r n acc hl hi
theorem g9 {x:Str}{c:Addr}: ∀(names:List (Str×NameKind)) (n:Nat) (acc:List (Str×Addr)),((x,NameKind.cell)∈names\/ ∀c,acc.lookup x=some c->n<=c)->(cellsFrom n names acc).lookup x=some c->n<=c
 | [],_,_,h,e=>by
  rcases h with h|h
  ·simp at h
  ·exact h c e
 | (z,k)::r,n,acc,h,e=>by
  unfold cellsFrom at e
  by_cases hk:(k==NameKind.cell)=true
  ·rw[if_pos hk]at e;have hk':k= .cell:=by simpa using hk
   rcases h with h|h
   ·rcases List.mem_cons.mp h with h|h
    ·cases h;have:n<=c:=by
      by_cases q: ∃c',(cellsFrom (n+1) r ((x,n)::acc)).lookup x=some c'/\(x,NameKind.cell)∈r
      ·obtain⟨c',e',m⟩:=q;have:=g9 (c:=c) r (n+1) _ (.inl m) e
       lia
      ·have nm:(x,NameKind.cell) ∉ r:=λm=>q ⟨c,e,m⟩
       have:=cells_keep r (n+1) ((x,n)::acc) nm;rw[this,lookup_cons]at e;simp at e;exact Nat.le_of_eq e
     exact this
    ·have:=g9 (c:=c) r (n+1) _ (.inl h) e
     lia
   ·by_cases q:(x,NameKind.cell)∈r
    ·have:=g9 (c:=c) r (n+1) _ (.inl q) e
     lia
    ·have:=cells_keep r (n+1) ((z,n)::acc) q;rw[this,lookup_cons]at e;split at e
     ·cases e;exact le_refl _
     ·exact h c e
  ·rw[if_neg hk]at e;refine g9 (c:=c) r n acc (h.imp (λm=> ?_) id) e
   rcases List.mem_cons.mp m with m|m
   ·cases m;exact absurd (by decide) hk
   ·exact m
where
 cells_keep {x:Str}: ∀(names:List (Str×NameKind)) (n:Nat) (acc:List (Str×Addr)),(x,NameKind.cell) ∉ names->(cellsFrom n names acc).lookup x=acc.lookup x
 | [],_,_,_=>rfl
 | (z,k)::r,n,acc,h=>by
  unfold cellsFrom
  by_cases hk:(k==NameKind.cell)=true
  ·rw[if_pos hk];have hk':k= .cell:=by simpa using hk
   rw[cells_keep r (n+1) _ λm=>h (mem_cons_of_mem _ m),lookup_cons]
   split
   ·rename_i e
    have:x=z:=by simpa using e
    subst this;exact absurd (by rw[hk'];exact mem_cons_self) h
   ·rfl
  ·rw[if_neg hk];exact cells_keep r n acc λm=>h (mem_cons_of_mem _ m)
theorem cells_keep {x:Str}(names:List (Str×NameKind))(n:Nat)(acc:List (Str×Addr))(h:(x,NameKind.cell) ∉ names):(cellsFrom n names acc).lookup x=acc.lookup x:=g9.cells_keep names n acc h
theorem qV {M:Model}{A:Around}{E:Value->Shared->Prop}{s:Shared}{scope:Scope}{globals:Addr}{cl:List (Str×Addr)}{qual:Str}{env0:Env}{Q:Env->Shared->Prop}
  (hQ:Q {scope:=scope,locals:=s.heap.objs.size,globals:=globals,cells:=cellsFrom (s.heap.objs.size+1) scope.names cl,qual:=qual,func:=none,code:=env0.code,frame:=env0.frame,builtins:=env0.builtins} {s with heap:=pushCells (s.heap.push {cls:= .type "dict",data:= .dict #[]}) scope.names}) :
  wpAny M A (newFunctionEnv scope globals cl [] qual none .none (some env0)) Q E s:=by
 simp only[newFunctionEnv,Option.isSome_some,if_true];refine wpAny_bind (wpAny_alloc ?_);refine wpAny_bind (wpAny_layCells _ (λname kind cells=>by cases hkc:kind==NameKind.cell<;>simp[hkc]) _ _ _ _ ?_)
 rw[show({s with heap:=s.heap.push {cls:= .type "dict",data:= .dict #[]}}:Shared).heap.objs.size=s.heap.objs.size+1 from size_push ..]
 rw[List.forIn_nil];exact wpAny_bind (wpAny_pure (wpAny_pure hQ))
section
variable {X:Cx}{pins:List (Addr×Obj)}{σ:L2.St}{H:Hp}{s:Shared}{N:List Str}{cap:List (Option Nat)}{scope:Scope}
theorem rX {fp:List Addr}{last:Nat}{D:Addr}{cl0 cl:List (Str×Addr)}{h1:Heap}{m0:Str->Option Value}{tk:Nat}(S:dJ X.env X.N N cap scope)(I:Inv X pins σ H s)(hf: ∀b∈fp,nR X pins H b)(hfs: ∀b∈fp,b<s.heap.objs.size)
  (hcl: ∀x c,cl0.lookup x=some c->X.env.cells.lookup x=some c) (hcl2: ∀y∈scope.names,y.2= .free-> ∃c,cl0.lookup y.1=some c) (hN: ∀x,N[last]? =some x->scope.names.lookup x=none)
  (hns:h1.Ns s.heap.objs.size m0) (hk: ∀b o,s.heap.get? b=some o->h1.get? b=some o)
  (c1: ∀x c,cl.lookup x=some c->cl0.lookup x=some c\/(s.heap.objs.size<c/\h1.IsCell c none)) (c2: ∀x y c,cl.lookup x=some c->cl.lookup y=some c->x=y)
  (c3: ∀x,(x,NameKind.free)∈scope.names->cl.lookup x=cl0.lookup x) (c4: ∀x,scope.names.lookup x=some .cell-> ∃c,cl.lookup x=some c) (c5: ∀x c,scope.names.lookup x=some .cell->cl.lookup x=some c->s.heap.objs.size<=c) :
  Inv (bG X N scope cl s.heap.objs.size s H fp pins) [] (gS σ cap last D) H {s with heap:=h1,toks:=tk}:=by
 have sz:X.base.objs.size<=s.heap.objs.size:=le_trans I.ok.bsz I.sz;have kindF: ∀x,(bG X N scope cl s.heap.objs.size s H fp pins).env.kindOf x=some .cell\/(bG X N scope cl s.heap.objs.size s H fp pins).env.kindOf x=some .free->(x,NameKind.free)∈scope.names\/scope.names.lookup x=some .cell:=λx h=>by
  have: ∃k,(k= .cell\/k= .free)/\(relabel scope X.env).names.lookup x=some k:=by
   rcases h with h|h
   ·exact⟨_,.inl rfl,h⟩
   ·exact⟨_,.inr rfl,h⟩
  obtain⟨k,hk,h⟩:=this;obtain⟨k',h1,h2,h3⟩:=eQ h;rcases h3 with rfl|rfl
  ·rcases hk with rfl|rfl
   ·exact .inr (S.owns _ h2 rfl)
   ·exact .inl h2
  ·exact .inl h2
 have cne: ∀x c,cl.lookup x=some c-> ∀b∈fp,c≠b:=λx c h b hb=>by
  rcases c1 x c h with q| ⟨q,_⟩
  ·exact(hf b hb).2.2.2.2.1 x c (hcl x c q)
  ·exact λz=>by subst z;exact absurd (Nat.lt_trans q (hfs c hb)) (lt_irrefl _)
 refine⟨⟨I.ok.mod,S.kind,I.ok.glob,I.ok.blt,le_refl _,c2,λx h=> ?_,λx c h e=> ?_,I.ok.hd,I.ok.frames,.inl rfl,λb hb=> ?_,I.bs,sz,λb o e hb=> ?_,λb hb=> ?_,I.stack,I.stkFree⟩,
  rfl,I.bare,Un.kept hk,⟨m0,hns,λi x v e1 e2 e3=> ?_⟩,λx c h=> ?_,I.hok.fresh (le_refl _),λx c h=> ?_,λp hp=> ?_,I.hok.kept hk,?_⟩
 ·rcases kindF x h with q|q
  ·obtain⟨c,e⟩:=hcl2 _ q rfl;exact⟨c,(c3 x q).trans e⟩
  ·exact c4 x q
 ·exact c5 x c (by simpa using(show(scope.names.lookup x==some NameKind.cell)=true from h)) e
 ·exact⟨ne_of_lt (hfs b hb),λx c h=>cne x c h b hb⟩
 ·rcases(hf b hb).2.2.2.1 with z|z
  ·exact I.ok.noex b o e z
  ·have:=lt_size e;exact absurd (lt_of_lt_of_le this (le_trans I.ok.bsz z)) (lt_irrefl _)
 ·intro z;rcases List.mem_cons.mp (I.stkSub b z)with z|z
  ·exact(hf b hb).2.1 z
  ·exact(hf b hb).2.2.1 z
 ·have e1':N[i]? =some x:=e1;unfold gS at e2
  by_cases hl:last=i
  ·subst hl;have z:=hN x e1';rcases e3 with e3|e3|e3
   ·obtain⟨k',h1,_⟩:=eQ (show(relabel scope X.env).names.lookup x=_ from e3)
    rw[z]at h1;cases h1
   ·obtain⟨k',h1,_⟩:=eQ (show(relabel scope X.env).names.lookup x=_ from e3)
    rw[z]at h1;cases h1
   ·obtain⟨k',h1,_⟩:=eQ (show(relabel scope X.env).names.lookup x=_ from e3)
    rw[z]at h1;cases h1
  ·rw[M.get_set_ne hl,getElem?_map]at e2;cases e4:cap[i]? with
   | none=>rw[e4]at e2;cases e2
   | some c=>
    rw[e4]at e2;cases c with
    | none=>cases e2
    | some j=>
     have e2':(σ[j]?).join=some v:=by simpa using e2
     have e5:σ[j]? =some (some v):=by
      cases q:σ[j]? with
      | none=>rw[q]at e2';cases e2'
      | some w=>rw[q]at e2';cases w with
       | none=>cases e2'
       | some w'=>cases e2';rfl
     obtain⟨a1,a2,a3⟩:=S.caps i j x e1' e4;have kx:=S.frees _ a2 rfl;obtain⟨m,hn,hl'⟩:=I.loc;have vis:Vis X.env.scope x:=by
      rcases kx with kx|kx
      ·exact .inr (.inl kx)
      ·exact .inr (.inr kx)
     obtain⟨u,r,l⟩:=hl' j x v a1 e5 vis;refine⟨u,r,.inr ⟨?_,?_⟩⟩
     ·have q:=jC (env:=X.env) a3;show(relabel scope X.env).names.lookup x=_\/(relabel scope X.env).names.lookup x=_;unfold relabel;dsimp only;rw[q];split
      ·exact .inl rfl
      ·exact .inr rfl
     ·rcases l with⟨l,_⟩| ⟨_,c,hc,hcell⟩
      ·rcases kx with kx|kx<;>·rw[kx]at l;cases l
      ·obtain⟨c',hc'⟩:=hcl2 _ a2 rfl;have:=hcl x c' hc';rw[hc]at this;cases this;obtain⟨o,ho,hd⟩:=hcell;exact⟨c,(c3 x a2).trans hc',o,hk _ _ ho,hd⟩
 ·rcases c1 x c h with q| ⟨_,q⟩
  ·obtain⟨v,o,ho,hd⟩:=I.cell x c (hcl x c q);exact⟨v,o,hk _ _ ho,hd⟩
  ·exact⟨_,q⟩
 ·rcases c1 x c h with q| ⟨q,_⟩
  ·exact I.freeC x c (hcl x c q)
  ·exact I.hok.fresh (le_of_lt q)
 ·have hp':p∈X.pn++pins:=by
   have:p∈(X.pn++pins)++[]:=hp
   simpa using this
  obtain⟨a1,a2,a3,a4,a5⟩:=I.pin p hp';refine⟨hk _ _ a1,a2,ne_of_lt (lt_size a1),λz=> ?_,a5⟩
  rcases List.mem_cons.mp (I.stkSub p.1 z)with z|z
  ·exact a3 z
  ·exact a4 z
 ·unfold gS;rw[length_set,length_map];exact S.len
theorem v3 {fp:List Addr}{cl:List (Str×Addr)}{C:Addr}{σ':L2.St}{H':Hp}{s':Shared}{h2:Heap}{pins':List (Addr×Obj)}(I:Inv X pins σ H s)(hf: ∀b∈fp,nR X pins H b)(hC:s.heap.objs.size<=C)
  (I':Inv (bG X N scope cl C s H fp pins) pins' σ' H' s') (hs:SameBut C s'.heap h2):Inv X pins σ H' {s' with heap:=h2}:=by
 have nC: ∀b o,s.heap.get? b=some o->b≠C:=λb o e z=>by
  subst z;exact absurd (lt_of_lt_of_le (lt_size e) hC) (lt_irrefl _)
 have get: ∀b,b≠C->h2.get? b=s'.heap.get? b:=λb hb=>hs.2 b hb
 have U:=I'.base;have u:Un (frs X.stack) fp H H' s.heap h2:=by
  refine⟨λb o e n h1 hx=> ?_,λb o e n h1 hx=> ?_,U.free,λb o e hx=> ?_,U.tups,U.frzs,U.tbls⟩
  ·rw[get b (nC b o e)];exact U.keep b o e n h1 hx
  ·rw[get b (nC b o e)];exact U.slot b o e n h1 hx
  ·rw[get b (nC b o e)];exact U.there b o e hx
 have fC:H' C=none:=I'.free;have hok:HOk X.prog X.w H' h2:=λa o e=>by
  have na:a≠C:=λz=>by subst z;rw[fC]at e;cases e
  refine(I'.hok a o e).stay (λb u hb q=> ?_) (λ_ q=>q) λ_ _ q=>q
  have nb:b≠C:=by
   rcases hb with rfl|hb
   ·exact na
   ·exact λz=>by subst z;rw[fC]at hb;cases hb
  rw[get b nb];exact q
 obtain⟨hh,gg,dd,tt,oo⟩:=s';have eo:oo=s.os:=I'.os;subst eo;have fin:=I.call (h':=h2) (g':=gg) (d':=dd) (t':=tt) (ch:=fp) u hok I'.bare λb hb=>⟨(hf b hb).2.2.2.1,(hf b hb).2.1,(hf b hb).2.2.2.2.1,(hf b hb).2.2.2.2.2⟩
 exact fin
end
theorem jD {prog:Program}{w:World}{A:Around}{R:Result->Shared->Prop}{s:Shared}{elt target iter:Expr}{ifs:List Expr}{scope:Scope}{pos:Pos}{it acc:Value}{env:Env}(I:Nat->Shared->Prop)
  (turn: ∀n s,I n s->wpAny (model prog w) A (pyNext it) (λr s₁=>match r with
   | none=>R (.ok .next) s₁
   | some v=>wpAny (model prog w) A (letOwnedTupleGo target it v) (λ_ s₂=>wpAny (model prog w) A (assign target env v) (λ_ s₂=>
     wpAny (model prog w) A (forIn ifs true λc r=>if r=true then do let ok<-isTrue c env (eval c env);pure (ForInStep.yield ok)else pure (ForInStep.yield r)) (λok s₃=>
      if ok=true then wpAny (model prog w) A (eval elt env) (λx s₄=>
       wpAny (model prog w) A (call (.builtin "list.append") [acc,x]) (λ_ s₅=> ∃m,m<n/\I m s₅) (notedBy (model prog w) A env λe s'=>R (.error e) s') s₄) (notedBy (model prog w) A env λe s'=>R (.error e) s') s₃
      else ∃m,m<n/\I m s₃) (notedBy (model prog w) A env λe s'=>R (.error e) s') s₂) (notedBy (model prog w) A env λe s'=>R (.error e) s') s₂) (notedBy (model prog w) A env λe s'=>R (.error e) s') s₁) (notedBy (model prog w) A env λe s'=>R (.error e) s') s)
  (n:Nat) (h:I n s):codeAny (model prog w) A (.compLoop (.ListComp elt [⟨target,iter,ifs,0⟩] scope pos) 0 it acc env) R s:=by
 refine codeAny_loop rfl I (λn s hI=> ?_) n h
 show wpAny _ A ((compTurn (.ListComp elt [⟨target,iter,ifs,0⟩] scope pos) 0 it acc env).onRaise (λx=>do noteFrame x env;theTreesLotGoes x)) _ _ s
 refine wpAny_noted ?_
 rw[compTurn_list];refine wpAny_bind (wpAny_standAt (wpAny_bind (wpAny_mono (turn n s hI) (λr s₁ h₁=> ?_) λ_ _ h'=>h')))
 cases r with
 | none=>exact wpAny_pure h₁
 | some v=>
  refine wpAny_bind (wpAny_mono h₁ (λ_ s₂ h₂=>wpAny_bind (wpAny_mono h₂ (λ_ s₂ h₂=>wpAny_bind (wpAny_mono h₂ (λok s₃ h₃=> ?_) λ_ _ h'=>h')) λ_ _ h'=>h')) λ_ _ h'=>h')
  cases ok with
  | false=>exact wpAny_pure ⟨rfl,h₃⟩
  | true=>
   exact wpAny_bind (wpAny_bind (wpAny_mono h₃ (λx s₄ h₄=>wpAny_bind (wpAny_mono h₄ (λ_ s₅ h₅=>wpAny_pure (wpAny_pure ⟨rfl,h₅⟩)) λ_ _ h'=>h')) λ_ _ h'=>h'))
def PTs (X:Cx)(ifs:List Expr)(t:TT):Prop:=
 ∀(pins:List (Addr×Obj)) (s:Shared) (σ:L2.St) (H:Hp) (Q:Bool->Hp->Prop),Inv X pins σ H s->t σ H Q->
  wpAny (model X.prog X.w) X.A (forIn ifs true λc r=>if r=true then do let ok<-isTrue c X.env (eval c X.env);pure (ForInStep.yield ok)else pure (ForInStep.yield r)) (TP X pins σ Q) X.xe s
theorem yM {X:Cx}:PTs X [] (λ_ H Q=>Q true H):=λpins s σ H Q I h=>wpAny_tests_nil ⟨H,I,h⟩
def wO (cap:List (Option Nat))(last:Nat)(wi:TI)(g:TG)(tt:TT)(te:TE):TE:=λσ H Q=>wi σ H λJ H1=> ∀D,H1 D=none-> ∃W:Nat->Nat->L2.St->Hp->Prop,(∃m,W 0 m (gS σ cap last D) (upd H1 D (.lst [])))/\ ∀i m σ' H',W i m σ' H'->
 (J.stop i H'/\Q (.ref D) H')\/(J.go i H'/\ ∃Nx:L2.St->Hp->Prop,(∀σ2 H2,Nx σ2 H2-> ∃m',m'<m/\W (i+1) m' σ2 H2)/\ ∀x H2,J.yld i H' x H2->g x σ' H2 λσ3 H3=>tt σ3 H3 λc H4=>
  if c=true then te σ3 H4 λy H5=> ∃ys,H5 D=some (.lst ys)/\ys.length<sizeLine/\Nx σ3 (upd H5 D (.lst (ys++[y])))else Nx σ3 H4)
theorem v4 {X:Cx}{RR:Value->Addr->Result->Shared->Prop}{elt iter tg:Expr}{ifs:List Expr}{scope:Scope}{pos:Pos}{N:List Str}{cap:List (Option Nat)}{last:Nat}{wi:TI}{g:TG}{tt:TT}{te:TE}(hc:X.calm=true)(hi:PI X tg iter wi)(S:dJ X.env X.N N cap scope)
  (hN: ∀x,N[last]? =some x->scope.names.lookup x=none)
  (hg: ∀cl C s H fp pins,PG (bG X N scope cl C s H fp pins) tg g) (ht: ∀cl C s H fp pins,PTs (bG X N scope cl C s H fp pins) ifs tt) (he: ∀cl C s H fp pins,PE (bG X N scope cl C s H fp pins) elt te)
  {pins:List (Addr×Obj)} {s:Shared} {σ:L2.St} {H:Hp} {Q:VK} {cl:List (Str×Addr)} (I:Inv X pins σ H s) (h:wO cap last wi g tt te σ H Q) (hcl: ∀x c,cl.lookup x=some c->X.env.cells.lookup x=some c) (hcl2: ∀y∈scope.names,y.2= .free-> ∃c,cl.lookup y.1=some c)
  (fin: ∀(D:Addr) (fp:List Addr) (H3:Hp) (s3:Shared) (σ':L2.St) (H':Hp) (s':Shared),Inv X pins σ H3 s3->(∀b∈fp,nR X pins H3 b)->Inv (bG X N scope (cellsFrom (s3.heap.objs.size+1) scope.names cl) s3.heap.objs.size s3 H3 fp pins) [] σ' H' s'->Q (.ref D) H'->RR (.ref D) s3.heap.objs.size (.ok .next) s') :
  wpAny (model X.prog X.w) X.A (eval iter X.env) (λx s₁=>wpAny (model X.prog X.w) X.A (pyIter x) (λit s₂=>wpAny (model X.prog X.w) X.A (newList []) (λacc s₃=>
   wpAny (model X.prog X.w) X.A (newFunctionEnv scope X.env.globals cl [] X.env.qual none .none (some X.env)) (λcenv s₄=>
    codeAny (model X.prog X.w) X.A (.compStart (.ListComp elt [⟨tg,iter,ifs,0⟩] scope pos) 0 it acc {cenv with scope:=relabel scope X.env}) (RR acc cenv.locals) s₄) X.xe s₃) X.xe s₂) X.xe s₁) X.xe s:=by
 refine thn (hi pins s σ H _ I h) λxv s1 h1=>thn h1 λit s2 h2=> ?_
 obtain⟨ita,fp,tn,J,H2,rfl,I2,T,st2,f2,q⟩:=h2;refine wpAny_newObj_type ?_ (by show 0<=sizeLine;decide)
 have fD:H2 s2.heap.objs.size=none:=I2.hok.fresh (le_refl _);obtain⟨W,⟨m0,w0⟩,turn⟩:=q s2.heap.objs.size fD;have I3:Inv X pins σ (upd H2 s2.heap.objs.size (.lst [])) {s2 with heap:=s2.heap.push {cls:= .type "list",data:= .seq ([]:List Value).toArray}}:=I2.lnew (t':=s2.toks) .nil (zero_le _);have fpne: ∀b∈fp,b≠s2.heap.objs.size:=λb hb=>by
  obtain⟨o,ho,_⟩:=T.obj 0 _ st2 b hb;exact ne_of_lt (lt_size ho)
 have f3: ∀b∈fp,nR X pins (upd H2 s2.heap.objs.size (.lst [])) b:=λb hb=>⟨by rw[dA (fpne b hb)];exact(f2 b hb).1,(f2 b hb).2⟩
 have k23: ∀b o,s2.heap.get? b=some o->(s2.heap.push {cls:= .type "list",data:= .seq ([]:List Value).toArray}).get? b=some o:=λb o e=>get?_push_of_some _ e
 have st3:tn 0 (s2.heap.push {cls:= .type "list",data:= .seq ([]:List Value).toArray}):=T.keep 0 _ _ st2 λb hb o e=>k23 b o e
 have fps: ∀b∈fp,b< (s2.heap.push {cls:= .type "list",data:= .seq ([]:List Value).toArray}).objs.size:=λb hb=>by
  obtain⟨o,ho,_⟩:=T.obj 0 _ st3 b hb;exact lt_size ho
 generalize hS3:({s2 with heap:=s2.heap.push {cls:= .type "list",data:= .seq ([]:List Value).toArray}}:Shared)=s3 at I3;have hh3:s3.heap=s2.heap.push {cls:= .type "list",data:= .seq ([]:List Value).toArray}:=by rw[<-hS3]
 rw[<-hh3]at st3 fps;refine qV ?_;have sz3:(s3.heap.push {cls:= .type "dict",data:= .dict #[]}).objs.size=s3.heap.objs.size+1:=size_push ..;have hns₁:(pushCells (s3.heap.push {cls:= .type "dict",data:= .dict #[]}) scope.names).Ns s3.heap.objs.size (λ_=>none):=(Heap.Ns.new s3.heap (.type "dict")).keeps (pushCells_keeps _ _)
 have k34: ∀b o,s3.heap.get? b=some o->(pushCells (s3.heap.push {cls:= .type "dict",data:= .dict #[]}) scope.names).get? b=some o:=λb o e=>pushCells_keeps _ _ _ _ (get?_push_of_some _ e)
 have I4:=rX (tk:=s3.toks) (last:=last) (D:=s2.heap.objs.size) (cl:=cellsFrom (s3.heap.objs.size+1) scope.names cl) S I3 f3 fps hcl hcl2 hN hns₁ k34
  (λx c e=>by
   rw[<-sz3]at e;rcases m9 _ _ _ e with q| ⟨q1,_,q3⟩
   ·exact .inl q
   ·exact .inr ⟨by lia,q3⟩)
  (mB _ _ _ (λx c e=>by
   obtain⟨v,q⟩:=I3.cell x c (hcl x c e);exact Nat.lt_succ_of_lt q.lt) λx y c e1 e2=>I3.ok.inj x y c (hcl x c e1) (hcl y c e2))
  (λx m=>cells_keep _ _ _ λm'=>by
   have h1:=S.owns _ m' rfl;have h2:=S.freeK _ m rfl;rw[h1]at h2;cases h2)
  (λx e=>Option.isSome_iff_exists.mp (cellsFrom_some _ _ _ (.inl e)))
  (λx c e1 e2=>by
   have:=g9 scope.names (s3.heap.objs.size+1) cl (.inl (PySem.mem_of_lookup e1)) e2
   lia)
 have st4:tn 0 (pushCells (s3.heap.push {cls:= .type "dict",data:= .dict #[]}) scope.names):=T.keep 0 _ _ st3 λb hb o e=>k34 b o e
 generalize hcl':cellsFrom (s3.heap.objs.size+1) scope.names cl=cl' at I4;have loop:codeAny (model X.prog X.w) X.A (.compLoop (.ListComp elt [⟨tg,iter,ifs,0⟩] scope pos) 0 (.ref ita) (.ref s2.heap.objs.size) (compEnvC scope cl' s3.heap.objs.size X.env))
   (RR (.ref s2.heap.objs.size) s3.heap.objs.size) {s3 with heap:=pushCells (s3.heap.push {cls:= .type "dict",data:= .dict #[]}) scope.names,toks:=s3.toks}:=by
  have stat: ∀{H':Hp},(∀b∈fp,H' b=none)-> ∀b∈fp,nR (bG X N scope cl' s3.heap.objs.size s3 (upd H2 s2.heap.objs.size (.lst [])) fp pins) [] H' b:=λ{H'} hn b hb=>by
   refine⟨hn b hb,ne_of_lt (fps b hb),λz=> ?_,.inl hb,λx c e=>(I4.ok.exf b hb).2 x c e,λp hp=> ?_⟩
   ·rcases List.mem_cons.mp (I3.stkSub b z)with z|z
    ·exact(f3 b hb).2.1 z
    ·exact(f3 b hb).2.2.1 z
   ·have:p∈(X.pn++pins)++[]:=hp;exact(f3 b hb).2.2.2.2.2 p (by simpa using this)
  have hcb:(bG X N scope cl' s3.heap.objs.size s3 (upd H2 s2.heap.objs.size (.lst [])) fp pins).calm=true:=hc;refine jD (λn s'=> ∃i σ' H',Inv (bG X N scope cl' s3.heap.objs.size s3 (upd H2 s2.heap.objs.size (.lst [])) fp pins) [] σ' H' s'/\tn i s'.heap/\(∀b∈fp,H' b=none)/\W i n σ' H') ?_ m0 ⟨0,_,_,I4,st4,λb hb=>(f3 b hb).1,w0⟩
  rintro n s5 ⟨i,σ5,H5,I5,st5,fr5,w5⟩;rcases turn i n σ5 H5 w5 with⟨stop,qn⟩| ⟨go,Nx,hNx,step⟩
  ·refine wpAny_mono (T.done (bG X N scope cl' s3.heap.objs.size s3 (upd H2 s2.heap.objs.size (.lst [])) fp pins) rfl rfl rfl hcb i [] s5 σ5 H5 (λ_ _=>False) I5 (stat fr5) st5 stop) (λr s6 hr=> ?_) (λ_ _ z=>z.elim)
   obtain⟨rfl,I6⟩:=hr;exact fin _ fp _ s3 σ5 H5 s6 I3 f3 (hcl'▸I6) qn
  ·refine wpAny_mono (T.item (bG X N scope cl' s3.heap.objs.size s3 (upd H2 s2.heap.objs.size (.lst [])) fp pins) rfl rfl rfl hcb i [] s5 σ5 H5 (λ_ _=>False) I5 (stat fr5) st5 go) (λr s6 hr=> ?_) (λ_ _ z=>z.elim)
   obtain⟨u,rfl,h6⟩:=hr;refine wpAny_mono h6 (λ_ s7 h7=> ?_) (λ_ _ z=>z.elim)
   obtain⟨x,H7,I7,r7,y7,st7,fr7⟩:=h7;have I7':=I7.pinned (stat fr7) (T.obj _ _ st7);refine wpAny_mono (hg _ _ _ _ _ _ _ s7 σ5 H7 x u _ I7' r7 (step x H7 y7)) (λ_ s8 h8=> ?_) (λ_ _ z=>False.elim z)
   obtain⟨σ8,H8,I8,q8⟩:=h8;have again: ∀{σ9:L2.St} {H9:Hp} {s9:Shared},Inv (bG X N scope cl' s3.heap.objs.size s3 (upd H2 s2.heap.objs.size (.lst [])) fp pins) ([]++nS fp s7.heap) σ9 H9 s9->Nx σ9 H9-> ∃m,m<n/\ ∃i σ' H',Inv (bG X N scope cl' s3.heap.objs.size s3 (upd H2 s2.heap.objs.size (.lst [])) fp pins) [] σ' H' s9/\tn i s9.heap/\(∀b∈fp,H' b=none)/\W i m σ' H':=λ{σ9 H9 s9} I9 n9=>by
    obtain⟨m',hm,w9⟩:=hNx σ9 H9 n9;refine⟨m',hm,i+1,σ9,H9,I9.unpinned,T.keep _ _ _ st7 λb hb o e=>(I9.pin (b,o) (mem_append_right _ (mem_append_right _ (iK hb e)))).1,λb hb=> ?_,w9⟩
    obtain⟨o,e,d⟩:=T.obj _ _ st7 b hb;exact(I9.pin (b,o) (mem_append_right _ (mem_append_right _ (iK hb e)))).2.1
   refine wpAny_mono (ht _ _ _ _ _ _ _ s8 σ8 H8 _ I8 q8) (λc s9 h9=> ?_) (λ_ _ z=>False.elim z)
   obtain⟨H9,I9,q9⟩:=h9;cases c with
   | false=>exact again I9 q9
   | true=>
    rw[if_pos rfl]at q9⊢;refine wpAny_mono (he _ _ _ _ _ _ _ s9 σ8 H9 _ I9 q9) (λv s10 h10=> ?_) (λ_ _ z=>False.elim z)
    obtain⟨y,H10,I10,r10,ys,e10,z10,q10⟩:=h10;refine wpAny_mono (pA (X:=(bG X N scope cl' s3.heap.objs.size s3 (upd H2 s2.heap.objs.size (.lst [])) fp pins)) _ s10 σ8 H10 (.ref s2.heap.objs.size) [y] (.ref s2.heap.objs.size) [v] (λv H=>v= .non/\Nx σ8 H) I10 rfl (.cons r10 .nil) ⟨_,ys,y,rfl,rfl,e10,z10,rfl,q10⟩) (λ_ s11 h11=> ?_) (λ_ _ z=>False.elim z)
    obtain⟨_,H11,I11,_,_,q11⟩:=h11;exact again I11 q11
 exact codeAny_compStart_list loop (T.self _ 0 _ _ _ st4 loop)
theorem oS {X:Cx}{N:List Str}{cap:List (Option Nat)}{scope:Scope}{pins:List (Addr×Obj)}{s:Shared}{σ:L2.St}{H:Hp}(S:dJ X.env X.N N cap scope)(I:Inv X pins σ H s) :
  ∃cl,closureFor scope X.env=pure cl/\(∀x c,cl.lookup x=some c->X.env.cells.lookup x=some c)/\ ∀y∈scope.names,y.2= .free-> ∃c,cl.lookup y.1=some c:=by
 obtain⟨cl,h1,h2,_,h4⟩:=iM (env:=X.env) scope.names (λy hy hf=>I.ok.has y.1 (S.frees y hy hf)) [] (λx c q=>by simp at q)
 refine⟨cl,?_,h2,h4⟩
 have e:closureFor scope X.env=(forIn scope.names [] fun(x:Str×NameKind) r=>(do if(x.2==NameKind.free)=true then do let c<-cellOf X.env x.1;pure (ForInStep.yield ((x.1,c)::r))else pure (ForInStep.yield r)):Sem (List (Str×Addr))) >>= λr=>pure r:=by
  rfl
 rw[e,h1];rfl
theorem yN {X:Cx}{elt iter tg:Expr}{ifs:List Expr}{scope:Scope}{pos:Pos}{N:List Str}{cap:List (Option Nat)}{last:Nat}{wi:TI}{g:TG}{tt:TT}{te:TE}(hc:X.calm=true)(hi:PI X tg iter wi)(S:dJ X.env X.N N cap scope)
  (hN: ∀x,N[last]? =some x->scope.names.lookup x=none)
  (hg: ∀cl C s H fp pins,PG (bG X N scope cl C s H fp pins) tg g) (ht: ∀cl C s H fp pins,PTs (bG X N scope cl C s H fp pins) ifs tt) (he: ∀cl C s H fp pins,PE (bG X N scope cl C s H fp pins) elt te)
  (hs: ∀x,foldedSetIterable iter X.env x=pure x:=by intro _;rfl):PE X (.ListComp elt [⟨tg,iter,ifs,0⟩] scope pos) (wO cap last wi g tt te):=by
 intro pins s σ H Q I h;rw[eval_ListComp];obtain⟨cl,hcl0,hcl,hcl2⟩:=oS S I;refine wpAny_comprehension_free (use:=none) rfl hs hcl0 S.kind S.names ?_;refine v4 (RR:=λacc C=>compPost (model X.prog X.w) X.A X.xe none (EP X pins σ Q) acc C) hc hi S hN hg ht he I h hcl hcl2 λD fp H3 s3 σ' H' s' I3 f3 I' q=> ?_
 obtain⟨m6,hn6,_⟩:=I'.loc;exact⟨m6,hn6,λh' hs'=>⟨.ref D,H',v3 I3 f3 (le_refl _) I' hs',rfl,q⟩⟩
end L2
namespace M
open PySem PySem.Spec PyProof.Rows L2
def yO:B->B
 | .pu d=> .pu d
 | .ow l=> .bo l
 | .bo l=> .bo l
def iA (ρ:Ev)(cap:List (Option Nat))(last:Nat):Ev:=(cap.map λc=>c.bind λj=>((ρ[j]?).join).map yO).set last (some (.ow []))
def yP (ρ:Ev)(j:Nat):Ev:=match ρ[j]? with
 | some (some (.ow l))=>ρ.set j (some (.pu (.lst l)))
 | _=>ρ
def mC:Ev->List Nat->Ev
 | ρ,[]=>ρ
 | ρ,j::js=>mC (yP ρ j) js
theorem wP (ρ:Ev)(j:Nat):Frz ρ (yP ρ j):=by
 unfold yP;split
 ·rename_i l e
  exact .set e
 ·exact .refl _
theorem rY: ∀(js:List Nat) (ρ:Ev),Frz ρ (mC ρ js)
 | [],ρ=> .refl _
 | j::js,ρ=>(wP ρ j).trans (rY js _)
def dX (js:List Nat)(cap:List (Option Nat))(last:Nat)(ui:UI)(g:UG)(tt:UT)(te:UE):UE:=λρ Q=>ui ρ λn it ρ1=> ∃Pv:Nat->Ev->Prop,Pv 0 (iA (mC ρ1 js) cap last)/\
 (∀i ρ',i<n->Pv i ρ'->g (.pu (it i)) ρ' λρ2=>tt ρ2 λc ρ3=>if c=true then te ρ3 λb ρ4=>j6 ρ4 last λl=>l.length<sizeLine/\Pv (i+1) (ρ4.set last (some (.ow (l++[b.d]))))else Pv (i+1) ρ3)/\
 ∀ρ',Pv n ρ'->j6 ρ' last λl=>Q (.ow l) (mC ρ1 js)
section
variable {X:Cx}{K:Frag}{C:C0}{ρ ρ':Ev}{σ σ':L2.St}{H H':Hp}
theorem cap_ok {cap:List (Option Nat)}{last:Nat}{Dn:Addr}(I:EOk K C ρ σ H)(hl:last<cap.length)(n:H Dn=none) :
  EOk K ⟨H,Av C ρ σ⟩ (iA ρ cap last) (gS σ cap last Dn) (upd H Dn (.lst [])):=by
 have pu: ∀(i:Nat) (z:B),last≠i->(iA ρ cap last)[i]? =some (some z)-> ∃(j:Nat) (z':B),cap[i]? =some (some j)/\z=yO z'/\ρ[j]? =some (some z'):=λi z ne h=>by
  unfold iA at h;rw[get_set_ne ne,getElem?_map]at h;cases e4:cap[i]? with
  | none=>rw[e4]at h;cases h
  | some c=>
   rw[e4]at h;cases c with
   | none=>cases h
   | some j=>
    have h':((ρ[j]?).join).map yO=some z:=by simpa using h
    cases q:ρ[j]? with
    | none=>rw[q]at h';cases h'
    | some w=>
     rw[q]at h';cases w with
     | none=>cases h'
     | some w'=>cases h';exact⟨j,w',rfl,rfl,q⟩
 have sgm: ∀(i j:Nat) (v:V),last≠i->cap[i]? =some (some j)->σ[j]? =some (some v)->(gS σ cap last Dn)[i]? =some (some v):=λi j v e e1 h1=>by
  unfold gS;rw[get_set_ne e,getElem?_map,e1];show some ((σ[j]?).join)=_;rw[h1];rfl
 have atl:(iA ρ cap last)[last]? =some (some (.ow [])):=by
  unfold iA;exact dI (by rw[length_map];exact hl)
 have sal:(gS σ cap last Dn)[last]? =some (some (.ref Dn)):=by
  unfold gS;exact dI (by rw[length_map];exact hl)
 have noOw: ∀(i:Nat) (l:List D),last≠i->(iA ρ cap last)[i]? ≠some (some (.ow l)):=λi l e h=>by
  obtain⟨j,z',_,z,_⟩:=pu i _ e h;cases z'<;>cases z
 have own: ∀a,Own (iA ρ cap last) (gS σ cap last Dn) a->a=Dn:=λa ⟨i,l,h1,h2⟩=>by
  by_cases e:last=i
  ·subst e;rw[sal]at h2;cases h2;rfl
  ·exact absurd h1 (noOw i l e)
 have P:fM (Av C ρ σ) H (Av ⟨H,Av C ρ σ⟩ (iA ρ cap last) (gS σ cap last Dn)) (upd H Dn (.lst [])):=λb o nb e=>by
  have ne:b≠Dn:=λz=>by subst z;rw[n]at e;cases e
  refine⟨?_,by rw[dA ne];exact e⟩
  rintro(z|z)
  ·exact nb z
  ·exact ne (own b z)
 refine⟨by unfold iA gS;rw[length_set,length_set,length_map,length_map],λi d h=> ?_,λi l h=> ?_,λi j l l' a h1 h2 h3 h4=> ?_,λi l h=> ?_,bR n _,λa z=>I.avSome z⟩
 ·by_cases e:last=i
  ·subst e;rw[atl]at h;cases h
  ·obtain⟨j,z',e1,z,e2⟩:=pu i _ e h;cases z' with
   | pu d'=>
    cases z;obtain⟨v,h1,h2⟩:=I.pu j d e2;exact⟨v,sgm i j v e e1 h1,h2.mono P⟩
   | ow l=>cases z
   | bo l=>cases z
 ·by_cases e:last=i
  ·subst e;rw[atl]at h;cases h;exact⟨Dn,[],sal,i5,n,.nil⟩
  ·exact absurd h (noOw i l e)
 ·have e1:last=i:=Decidable.byContradiction λe=>absurd h1 (noOw i l e)
  have e2:last=j:=Decidable.byContradiction λe=>absurd h2 (noOw j l' e)
  exact e1.symm.trans e2
 ·by_cases e:last=i
  ·subst e;rw[atl]at h;cases h
  ·obtain⟨j,z',e1,z,e2⟩:=pu i _ e h;cases z' with
   | pu d'=>cases z
   | ow l'=>
    cases z;obtain⟨a,vs,h1,h2,h3,h4⟩:=I.ow j l e2;exact⟨a,vs,sgm i j _ e e1 h1,.inr ⟨j,l,e2,h1⟩,h2,h4.mono P⟩
   | bo l'=>
    cases z;obtain⟨a,vs,h1,h2,h3,h4⟩:=I.bo j l e2;exact⟨a,vs,sgm i j _ e e1 h1,.inl h2,I.ext _ _ h3,h4.mono P⟩
theorem lComp {js:List Nat}{cap:List (Option Nat)}{last:Nat}{ui:UI}{g:UG}{T:List Nat}{tt:UT}{te:UE}(hl:last<cap.length)(hT:last ∉ T)(σ:L2.St)(H:Hp)(Q:VK)(h:lE K (dX js cap last ui g tt te) σ H Q) :
  wO cap last (lI K ui) (lG K T g) (lT K tt) (lE K te) σ H Q:=by
 obtain⟨C,ρ,Q0,I,h,k⟩:=h;refine⟨C,ρ,_,I,h,λn it ρ1 J H1 q f s ok Dn nD=> ?_⟩
 obtain⟨Pv,p0,turn,fin⟩:=q;have fz:=rY js ρ1;have I1:EOk K C (mC ρ1 js) σ H1:=((I.frz f).same s).frz fz;generalize mC ρ1 js=ρ2 at fz I1 p0 fin;have P12: ∀{A':AS} {H':Hp},fM (Av C ρ2 σ) H1 A' H'->fM (Av C ρ1 σ) H1 A' H':=λp b o nb e=>p b o (λz=>nb (fz.av z)) e
 have I2:=cap_ok I1 hl nD;have own0: ∀{ρ':Ev} {σ':L2.St} {H':Hp},EOk K ⟨H1,Av C ρ2 σ⟩ ρ' σ' H'->fM (Av C ρ2 σ) H1 (Av ⟨H1,Av C ρ2 σ⟩ ρ' σ') H':=λ{ρ' σ' H'} J' b o nb e=>by
  refine⟨?_,J'.ext b o e⟩
  rintro(z| ⟨i,l,h1,h2⟩)
  ·exact nb z
  ·obtain⟨a,vs,h3,h4,h5,_⟩:=J'.ow i l h1;rw[h2]at h3;cases h3;have e':(⟨H1,Av C ρ2 σ⟩:C0).H0 b=some o:=e;rw[h5]at e';cases e'
 have sal:(gS σ cap last Dn)[last]? =some (some (.ref Dn)):=by
  unfold gS;exact dI (by rw[length_map];exact hl)
 refine⟨λi m σ' H'=>m=n-i/\i<=n/\σ'[last]? =some (some (.ref Dn))/\ ∃ρ',EOk K ⟨H1,Av C ρ2 σ⟩ ρ' σ' H'/\Pv i ρ',⟨n,rfl,zero_le _,sal,_,I2,p0⟩,?_⟩
 rintro i m σ' H' ⟨rfl,hi,hlast,ρ',J',p'⟩;have P:=P12 (own0 J')
 by_cases hlt:i<n
 ·refine .inr ⟨ok.go _ _ i P hlt,λσ2 H2=>σ2[last]? =some (some (.ref Dn))/\ ∃ρ3,EOk K ⟨H1,Av C ρ2 σ⟩ ρ3 σ2 H2/\Pv (i+1) ρ3,λσ2 H2 z=>⟨n-(i+1),by omega,rfl,hlt,z⟩,λx H2 y=> ?_⟩
  obtain⟨s2,r2⟩:=ok.yld _ _ i x H2 P (λa z=>J'.avSome z) hlt y
  refine⟨_,ρ',.pu (it i),H',_,J',s2,r2,turn i ρ' hlt p',λρ3 σ3 H3 q3 J3 same3=> ?_⟩
  have l3:σ3[last]? =some (some (.ref Dn)):=(same3 last hT).trans hlast;refine⟨_,ρ3,_,J3,q3,λc ρ4 H4 q4 f4 s4=> ?_⟩
  have J4:=(J3.frz f4).same s4;cases c with
  | false=>
   dsimp only at q4⊢;rw[if_neg Bool.false_ne_true]at q4⊢;exact⟨l3,ρ4,J4,q4⟩
  | true=>
   dsimp only at q4⊢;rw[if_pos rfl]at q4⊢;refine⟨_,ρ4,_,J4,q4,λb ρ5 v H5 q5 f5 s5 r5=> ?_⟩
   have J5:=(J4.frz f5).same s5;obtain⟨l,hl5,hz,q5⟩:=jW q5;obtain⟨a,vs,g1,g2,g3,g4⟩:=J5.ow last l hl5;rw[l3]at g1;cases g1;refine⟨vs,g2,by rw[<-g4.length];exact hz,l3,_,J5.write hl5 l3 (g4.append (.cons (r5.rep λa z=>J4.avF f5 z) .nil)),q5⟩
 ·have e:i=n:=by omega
  subst e;obtain⟨l,hl5,q5⟩:=jW (fin ρ' p');obtain⟨a,vs,g1,g2,g3,g4⟩:=J'.ow last l hl5;rw[hlast]at g1;cases g1;refine .inl ⟨ok.stop _ _ P,k _ _ _ _ q5 (f.trans fz) (s.trans J'.ext) ⟨Dn,vs,rfl,s.free nD,g2,?_⟩⟩;refine g4.mono λb o nb e=>⟨?_,e⟩
  rintro(z|z)
  ·exact nb (.inl z)
  ·subst z;exact nb (.inr ⟨last,l,hl5,hlast⟩)
theorem d9: ∀{X:Cx},PTs X [] (lT X.K λρ Q=>Q true ρ):=λ{X} pins s σ H Q I ⟨C,ρ,Q0,J,h,k⟩=>yM pins s σ H Q I (k _ ρ H h (.refl _) (.refl _))
theorem yQ {elt iter tg:Expr}{ifs:List Expr}{scope:Scope}{pos:Pos}{N:List Str}{js:List Nat}{cap:List (Option Nat)}{last:Nat}{ui:UI}{g:UG}{T:List Nat}{tt:UT}{te:UE}(hc:X.calm=true)(hi:PUI X tg iter ui)(S:dJ X.env X.N N cap scope)
  (hN: ∀x,N[last]? =some x->scope.names.lookup x=none) (hl:last<cap.length) (hT:last ∉ T)
  (hg: ∀cl C s H fp pins,PUG (bG X N scope cl C s H fp pins) tg T g) (ht: ∀cl C s H fp pins,PTs (bG X N scope cl C s H fp pins) ifs (lT X.K tt)) (he: ∀cl C s H fp pins,PU (bG X N scope cl C s H fp pins) elt te)
  (hs: ∀x,foldedSetIterable iter X.env x=pure x:=by intro _;rfl):PU X (.ListComp elt [⟨tg,iter,ifs,0⟩] scope pos) (dX js cap last ui g tt te):=
 dB (yN (g:=lG X.K T g) (tt:=lT X.K tt) (te:=lE X.K te) hc hi S hN hg ht he hs) (lComp hl hT)
end
end M
end
section
namespace L2
open PySem PySem.Spec PyProof.Rows
section
variable {X:Cx}
theorem u6 {bs:List Bool}: ∀{its:List Value},aZ (bs.map V.bl) its->LSm.BoolsAre its bs:=by
 induction bs with
 | nil=>intro its r;cases r;exact .nil
 | cons b bs ih=>
  intro its r;cases r with
  | cons r1 r2=>
   cases r1;exact .cons b (ih r2)
theorem t7 (hc:X.calm=true):eD X (.builtin "all") (λxs H Q=> ∃(p:Addr) (bs:List Bool),xs=[.ref p]/\SqL X.K H p (bs.map V.bl)/\Q (.bl (bs.all id)) H):=by
 intro pins s σ H xs us Q I r h;obtain⟨p,bs,rfl,hq,q⟩:=h;obtain⟨u,rfl,rx⟩:=vals1 r;cases rx;obtain⟨its,rv,pl,hz⟩:=I.list hq;have ba:=u6 rv;refine call_all_walk (wpAny_pyIter_list pl.isList ?_);have hne:p≠s.heap.objs.size:=by
  obtain⟨o,n,e,_⟩:=pl;exact ne_of_lt (lt_size e)
 refine⟨s.heap.objs.size,_,_,_,_,_,λi=>(bs[i]?).getD true,rfl,Walks.list (A:=X.A.in1) (I.ok.hd hc) s.heap.objs.size p (λz=>hne z) its.toArray,⟨⟨_,get?_push_size _ rfl,rfl,rfl⟩,pl.isList.push _⟩,?_,λh' tk hk=> ?_⟩
 ·intro i v s' Q' E' hP hQ;obtain⟨b,hb,rfl⟩:=ba.get i v (by simpa using hP)
  refine wpAny_truthy_bool ?_
  have e:(λi=>(bs[i]?).getD true) i=b:=by simp[hb]
  dsimp only at hQ;rw[hb]at hQ;exact hQ
 ·have e:=LSm.range_all bs;have hl:=ba.length;have e2:its.toArray.size=bs.length:=by rw[size_toArray,hl]
  rw[e2,e];exact⟨.bl (bs.all id),H,I.kept λb o e=>hk b o (by simpa using ne_of_lt (lt_size e)) (get?_push_of_some _ e),rfl,q⟩
def mD (esc:List (Str×NameKind))(XN N:List Str)(cap:List (Option Nat))(scope:Scope)(last:Nat):Bool:=
 (scope.kind== .function)&&scope.names.all (λy=>y.2 != .cell||scope.names.lookup y.1==some .cell)&&scope.names.all (λy=>y.2 != .free||scope.names.lookup y.1==some .free)&&scope.names.all (λy=>y.2 != .local||scope.names.lookup y.1==some .local)&&
 scope.names.all (λy=>y.2 != .free||esc.lookup y.1==some .cell||esc.lookup y.1==some .free)&&
 (N.zip cap).all (λz=>match z.2 with|none=>true|some j=>XN[j]? ==some z.1&&scope.names.contains (z.1,.free)&&scope.names.lookup z.1==some .free)&&
 (cap.length==N.length)&&(match N[last]? with|some x=>(scope.names.lookup x).isNone|none=>true)
theorem dJ.of {env:Env}{esc:List (Str×NameKind)}{XN N:List Str}{cap:List (Option Nat)}{scope:Scope}{last:Nat}(he:env.scope.names=esc)(h:mD esc XN N cap scope last=true) :
  dJ env XN N cap scope/\ ∀x,N[last]? =some x->scope.names.lookup x=none:=by
 unfold mD at h;simp only[and_eq_true,List.all_eq_true,beq_iff_eq]at h;obtain⟨⟨⟨⟨⟨⟨⟨h1,h2⟩,h2'⟩,h3⟩,h4⟩,h5⟩,h6⟩,h7⟩:=h;have hk: ∀x,env.kindOf x=esc.lookup x:=λx=>by unfold Env.kindOf;rw[he]
 refine⟨⟨h1,λy hy hl=>by have:=h2 y hy;rw[hl]at this;simpa using this,λy hy hl=>by have:=h2' y hy;rw[hl]at this;simpa using this,λy hy hl=> ?_,λy hy hf=> ?_,λi j x e1 e2=> ?_,h6⟩,λx e=> ?_⟩
 ·have:=h3 y hy;rw[hl]at this
  simpa using this
 ·have:=h4 y hy;rw[hf]at this;rw[hk]
  simpa using this
 ·have hm:(x,some j)∈N.zip cap:=by
   refine List.mem_of_getElem? (i:=i) ?_
   rw[List.getElem?_zip_eq_some];exact⟨e1,e2⟩
  have:=h5 _ hm;simp only[and_eq_true,beq_iff_eq]at this;obtain⟨⟨a,b⟩,c⟩:=this;exact⟨a,by simpa using b,c⟩
 ·rw[e]at h7
  simpa using h7
end
end L2
namespace M
open PySem PySem.Spec PyProof.Rows L2
section
variable {X:Cx}{K:Frag}{A:AS}{H:Hp}
def fR:List D->Option (List Bool)
 | []=>some []
 | .bl b::r=>(fR r).map (b::·)
 | _=>none
def wQ:List D->Option (List Int)
 | []=>some []
 | .int b::r=>(wQ r).map (b::·)
 | _=>none
theorem kX: ∀{l:List D} {bs:List Bool} {vs:List V},fR l=some bs->aO K A H l vs->vs=bs.map V.bl
 | [],bs,vs,h,r=>by cases h;exact r.unnil
 | d::r,bs,vs,h,q=>by
  obtain⟨v,vr,rfl,rv,rr⟩:=q.uncons;cases d with
  | bl b=>
   have h':(fR r).map (b::·)=some bs:=h;cases e:fR r with
   | none=>rw[e]at h';cases h'
   | some bs'=>
    rw[e]at h';cases h';rw[iL rv,kX e rr];rfl
  | _=>cases h
def t8:List D->(B->Prop)->Prop:=g1 λd Q=>match d with
 | .lst l=>(match fR l with
  | some bs=>Q (.pu (.bl (bs.all id)))
  | none=>False)
 | _=>False
theorem qW (hc:X.calm=true):i8 X (.builtin "all") t8:=by
 intro A H ds vs Q0 Q hA r g k;obtain⟨d,v,rfl,rfl,rv,g⟩:=j9 g r;cases d with
 | lst l=>
  dsimp only at g;cases e:fR l with
  | none=>rw[e]at g;exact g.elim
  | some bs=>
   rw[e]at g;simp only[Rep]at rv;obtain⟨a,vs,rfl,n,c,rs⟩:=rv;rw[kX e rs]at c;exact⟨_,t7 hc,a,bs,rfl,SqL.of c,k _ _ H g (.refl _) eC⟩
 | _=>exact(show False from g).elim
def gSum:List D->(B->Prop)->Prop:=g1 λd Q=>match d with
 | .lst l=>(match wQ l with
  | some ns=>Q (.pu (.int ns.sum))
  | none=>False)
 | _=>False
theorem yR {x:Str}{i:Int}{t:Tok}{p:Pos}(hg:Gl X x)(hm:X.mg x=some (.int i t))(hd:(x==("__debug__":Str))=false:=by decide):PU X (.Name x p) (uC (.int i)):=
 qN (tT (v:= .int i) hg hm ⟨t,rfl⟩ hd) λA H=>by simp only[Rep]
theorem qX:bootBuiltins "all"=some (.builtin "all"):=by decide +kernel
theorem cE {elt iter tg:Expr}{ifs:List Expr}{scope:Scope}{pos:Pos}{esc:List (Str×NameKind)}{N:List Str}{js:List Nat}{cap:List (Option Nat)}{last:Nat}{ui:UI}{g:UG}{T:List Nat}{tt:UT}{te:UE}{XN:List Str}(he0:X.env.scope.names=esc)(hx0:X.N=XN)(lk:mD esc XN N cap scope last=true)(hl:last<cap.length)(hT:last ∉ T)(hc:X.calm=true)(hi:PUI X tg iter ui)
  (hg: ∀cl C s H fp pins,PUG (bG X N scope cl C s H fp pins) tg T g) (ht: ∀cl C s H fp pins,PTs (bG X N scope cl C s H fp pins) ifs (lT X.K tt)) (he: ∀cl C s H fp pins,PU (bG X N scope cl C s H fp pins) elt te)
  (hs: ∀x,foldedSetIterable iter X.env x=pure x:=by intro _;rfl):PU X (.ListComp elt [⟨tg,iter,ifs,0⟩] scope pos) (dX js cap last ui g tt te):=
 yQ hc hi (dJ.of he0 (hx0▸lk)).1 (dJ.of he0 (hx0▸lk)).2 hl hT hg ht he hs
def uDrop (te:UE):US:=λD ρ=>te ρ λ_ ρ1=>D.nx ρ1
theorem wR: ∀ds ρ Q,rQ ds ρ Q->ds.length=0:=λds ρ Q h=>by rw[h.1];rfl
theorem pG {i n:Nat}{u:UGs}(h: ∀ds ρ Q,u ds ρ Q->ds.length=n): ∀ds ρ Q,kR i u ds ρ Q->ds.length=n+1:=λds ρ Q q=>by
 cases ds with
 | nil=>exact(show False from q).elim
 | cons d r=>rw[length_cons,h r _ Q q.2]
end
end M
end
section
namespace HT
open PySem PyProof.Rows
end HT
namespace L2
open PySem PySem.Spec PyProof.Rows
end L2
namespace M
open PySem PySem.Spec PyProof.Rows L2
section
variable {X:Cx}{K:Frag}{A:AS}{H:Hp}{e e3:Expr}{t3:UE}{pos p2:Pos}
def gRev (d:D)(Q:B->Prop):Prop:=match d with
 | .tup l=>Q (.pu (.tup l.reverse))
 | _=>False
def uRev (t:UV)(t3:UE):UE:=λρ Q=>t ρ λd ρ1=>t3 ρ1 λb ρ2=>b.d= .int (-1)/\gRev d λb=>Q b ρ2
end
end M
end
section
namespace L2
open PySem PySem.Spec PyProof.Rows
end L2
namespace M
open PySem PySem.Spec PyProof.Rows L2
section
variable {X:Cx}{K:Frag}{H:Hp}{pos:Pos}
def uRngD (ta:UA):UI:=λρ Q=>ta ρ λds ρ1=>match ds with
 | [.int i,.int j,.int m]=>m= -1/\(-(2^31)<=i/\i<2^31/\ -(2^31)<=j/\j<2^31)/\Q (i-j).toNat (λk=> .int (i-k)) ρ1
 | _=>False
end
end M
end
section
namespace L2
open PySem PySem.Spec PyProof.Rows
def v5 (T:Bool)(h:Heap)(a:Addr)(xs:Array Value):Prop:=match T with
 | false=>h.IsList a xs
 | true=>h.IsTuple a xs
def n5 (T:Bool)(h:Heap)(it a:Addr)(i:Nat):Prop:=match T with
 | false=>h.IsListIter it a i
 | true=>h.IsTupleIter it a i
def sqObj (T:Bool)(a:Addr):Obj:=match T with
 | false=>{cls:= .type "list_iterator",data:= .fields #[.ref a,.int 0 0]}
 | true=>{cls:= .type "tuple_iterator",data:= .fields #[.ref a,.int 0 0]}
def SqV (K:Frag)(T:Bool)(H:Hp)(a:Addr)(xs:List V):Prop:=match T with
 | false=>SqL K H a xs
 | true=>SqT K H a xs
theorem v5.at {T:Bool}{h h':Heap}{a:Addr}{xs:Array Value}(x:v5 T h a xs)(e: ∀o,h.get? a=some o->h'.get? a=some o):v5 T h' a xs:=by
 cases T<;>(obtain⟨o,ho,r⟩:=x;exact⟨o,e o ho,r⟩)
theorem n5.at {T:Bool}{h h':Heap}{it a:Addr}{i:Nat}(x:n5 T h it a i)(e: ∀o,h.get? it=some o->h'.get? it=some o):n5 T h' it a i:=by
 cases T<;>(obtain⟨o,ho,r⟩:=x;exact⟨o,e o ho,r⟩)
theorem v5.lt {T:Bool}{h:Heap}{a:Addr}{xs:Array Value}(x:v5 T h a xs):a<h.objs.size:=by
 cases T<;>(obtain⟨o,ho,r⟩:=x;exact lt_size ho)
theorem n5.lt {T:Bool}{h:Heap}{it a:Addr}{i:Nat}(x:n5 T h it a i):it<h.objs.size:=by
 cases T<;>(obtain⟨o,ho,r⟩:=x;exact lt_size ho)
theorem n5.rec' {T:Bool}{h:Heap}{it a:Addr}{i:Nat}(x:n5 T h it a i): ∃o,h.get? it=some o/\ ∀v,o.data≠ .cell v:=by
 cases T<;>(obtain⟨o,ho,hc,hd⟩:=x;exact⟨o,ho,λv z=>by rw[hd]at z;cases z⟩)
theorem n5.new {T:Bool}(h:Heap)(a:Addr):n5 T (h.push (sqObj T a)) h.objs.size a 0:=by
 cases T<;>exact⟨_,get?_push_size _ rfl,rfl,rfl⟩
section
variable {X:Cx}{pins:List (Addr×Obj)}{σ:St}{H:Hp}{s:Shared}
theorem Inv.sq {T:Bool}{a:Addr}{xs:List V}(I:Inv X pins σ H s)(h:SqV X.K T H a xs): ∃its:List Value,aZ xs its/\v5 T s.heap a its.toArray/\xs.length<=sizeLine:=by
 cases T with
 | false=>obtain⟨its,rv,p,hz⟩:=I.list h;exact⟨its,rv,p.isList,hz⟩
 | true=>obtain⟨its,rv,p,hz⟩:=I.tuple h;exact⟨its,rv,p,hz⟩
end
structure ZSt (T1 T2:Bool)(z TI TO i1 i2 l1 l2:Addr)(f0:Value)(i:Nat)(h:Heap):Prop where
 hz:IsZip h z TI TO f0
 hI:IsPair h TI (.ref i1) (.ref i2)
 hO: ∃a b,IsPair h TO a b
 h1:n5 T1 h i1 l1 i
 h2:n5 T2 h i2 l2 i
theorem ZSt.objs {T1 T2:Bool}{z TI TO i1 i2 l1 l2:Addr}{f0:Value}{i:Nat}{h:Heap}(st:ZSt T1 T2 z TI TO i1 i2 l1 l2 f0 i h): ∀b∈[z,TI,TO,i1,i2],∃o,h.get? b=some o/\ ∀v,o.data≠ .cell v:=λb hb=>by
 obtain⟨hz,hI,⟨a,c,hO⟩,h1,h2⟩:=st;simp only[mem_cons,not_mem_nil,or_false]at hb;rcases hb with rfl|rfl|rfl|rfl|rfl
 ·exact⟨_,hz,λv q=>by cases q⟩
 ·exact⟨_,hI,λv q=>by cases q⟩
 ·exact⟨_,hO,λv q=>by cases q⟩
 ·exact h1.rec'
 ·exact h2.rec'
def ESt (T:Bool)(e it l:Addr)(i:Nat)(h:Heap):Prop:=(∃old,IsEnum h e it i old)/\n5 T h it l i
theorem ESt.objs {T:Bool}{e it l:Addr}{i:Nat}{h:Heap}(st:ESt T e it l i h): ∀b∈[e,it],∃o,h.get? b=some o/\ ∀v,o.data≠ .cell v:=λb hb=>by
 obtain⟨⟨old,he⟩,h1⟩:=st;simp only[mem_cons,not_mem_nil,or_false]at hb;rcases hb with rfl|rfl
 ·exact⟨_,he,λv q=>by cases q⟩
 ·exact h1.rec'
end L2
end
section
namespace L2
open PySem PySem.Spec PyProof.Rows
end L2
namespace HT
open PySem PyProof.Rows
section
variable {prog:Program}{w:World}{A:Around}{E:Value->Shared->Prop}{s:Shared}
theorem getItem_tuple_whole {t sl:Addr}{items:Array Value}{vl vu:Value}{lo hi:Option Int}{Q:Value->Shared->Prop}(ht:IsTup s.heap t items)(hs:s.heap.IsSliceOf sl vl vu .none)(pl:IsPart vl lo)(pu:IsPart vu hi)
  (hw:sIx items.size 0 lo=0/\sIx items.size items.size hi=items.size) (h:Q (.ref t) s):wpAny (model prog w) A (getItem (.ref t) (.ref sl)) Q E s:=by
 obtain⟨os,hos,hcs,hds⟩:=id hs;have hTs:s.TypeIs (.ref sl) "slice":=⟨os,hos,hcs⟩;unfold getItem;try with_reducible refine wpAny_holding ?_
 first|refine wpAny_bind (wpAny_pure ?_)|skip
 refine wpAny_bind (wpAny_sequenceKey ht.typeIs (by decide) ?_)
 refine wpAny_bind (wpAny_callSpecial?_slot (name:=Str.ofString "__getitem__") ht.typeIs PyProof.Rows.slot_tuple_getitem (wpAny_call_entry PyProof.Rows.slot_tuple_getitem ht.typeIs entry_tuple_getitem ?_ (args_tuple_getitem _ _)))
 show wpAny _ _ (Builtin.Tuple.tupleItemsOf (.ref t) >>= _) _ _ s
 refine wpAny_bind (tupleItemsOf_ ht ?_)
 refine wpAny_bind (wpAny_typeOf hTs ?_)
 rw[if_pos (by decide)]
 refine wpAny_bind (i6 hs pl pu ?_)
 have hyes:(((sIx items.size 0 lo:Nat):Int)==0&&(1:Int)==1&&(sIx items.size items.size hi-sIx items.size 0 lo)==items.size)=true:=by
  rw[hw.1,hw.2];simp
 show wpAny _ _ (if(((sIx items.size 0 lo:Nat):Int)==0&&(1:Int)==1&&(sIx items.size items.size hi-sIx items.size 0 lo)==items.size)=true then _ else _) _ _ s
 rw[if_pos hyes];show wpAny _ _ (Builtin.Tuple.tupleIsExact (.ref t) >>= _) _ _ s;unfold Builtin.Tuple.tupleIsExact;refine wpAny_bind (wpAny_bind (wpAny_typeOf ht.typeIs (wpAny_pure ?_)));show wpAny _ _ (if(Value.type "tuple"==Value.type "tuple")=true then _ else _) _ _ s;rw[if_pos (by decide)]
 refine wpAny_bind (wpAny_rule ?_)
 first
  | exact wpAny_pure ⟨_,rfl,wpAny_pure h⟩
  | exact wpAny_bind (wpAny_pure (wpAny_pure ⟨_,rfl,wpAny_pure h⟩))
  | exact wpAny_bind (wpAny_pure ⟨_,rfl,wpAny_pure h⟩)
end
end HT
namespace L2
open PySem PySem.Spec PyProof.Rows
section
variable {X:Cx}
def rSlW (K:Frag):V->Option Int->Option Int->Hp->VK->Prop:=λx lo hi H Q=> ∃a xs,x= .ref a/\SqT K H a xs/\(HT.sIx xs.length 0 lo=0/\HT.sIx xs.length xs.length hi=xs.length)/\Q (.ref a) H
theorem wS:SlR X (rSlW X.K):=by
 intro pins s σ H x v vl vu lo hi sl Q I rx hs pl pu h;obtain⟨a,xs,rfl,hx,hw,q⟩:=h;cases rx;obtain⟨its,r,ht,hz⟩:=I.tuple hx;have cC:its.toArray.size=xs.length:=by rw[size_toArray];exact r.length.symm
 exact⟨"tuple",_,PyProof.Rows.slot_tuple_getitem.lookup,ht.typeIs,HT.getItem_tuple_whole ht hs pl pu (by rw[cC];exact hw) ⟨.ref a,H,I,rfl,q⟩⟩
end
end L2
namespace M
open PySem PySem.Spec PyProof.Rows L2
section
variable {X:Cx}{K:Frag}{A:AS}{H:Hp}{e a b:Expr}{te ti:UE}{pos p2:Pos}{C:C0}{ρ ρ':Ev}{σ:L2.St}
def gSlT (d:D)(lo hi:Option Int)(Q:B->Prop):Prop:=match d with
 | .tup l=>Q (.pu (.tup (cutD l lo hi)))
 | .lst l=>Q (.ow (cutD l lo hi))
 | .rol l=>Q (.ow (cutD l lo hi))
 | _=>False
def wT (t:UE)(tl th:UO):UE:=λρ Q=>t ρ λb0 ρ1=>tl ρ1 λlo ρ2=>th ρ2 λhi ρ3=>gSlT b0.d lo hi λb=>Q b ρ3
theorem v6 (l:List D)(lo hi:Option Int)(h:HT.sIx l.length 0 lo=0/\HT.sIx l.length l.length hi=l.length):cutD l lo hi=l:=by
 unfold cutD;rw[h.1,h.2];simp
theorem pH {tl th:UO}{lo hi:Option Expr}(he:PU X e te)(hl:PUO X lo tl)(hu:PUO X hi th):PU X (.Subscript e (.Slice lo hi none p2) pos) (wT te tl th):=
 dB (nV ((tY.or vY).or wS) he hl hu) λσ H Q ⟨C,ρ,Q0,I,h,k⟩=>⟨C,ρ,_,I,h,λb0 ρ1 v H1 q f s r=>by
  have I1:=(I.frz f).same s;have rr:=r.rep λa z=>I.avF f z
  refine⟨C,ρ1,_,I1,q,λl2 ρ2 H2 q2 f2 s2=> ?_⟩
  have I2:=(I1.frz f2).same s2;refine⟨C,ρ2,_,I2,q2,λh3 ρ3 H3 q3 f3 s3=> ?_⟩
  have I3:=(I2.frz f3).same s3;have s13:=s2.trans s3;have sAll:=s.trans s13;have fAll:=f.trans (f2.trans f3);have r':Rep X.K (Av C ρ3 σ) H3 b0.d v:=rr.mono (.sub s13 λa z=>f2.av (f3.av z))
  generalize b0.d=d at r' q3;cases d with
  | tup l=>
   have r2:=r';simp only[Rep]at r';obtain⟨a,vs,rfl,c,rs⟩:=r';have cC:=rs.length
   by_cases hw:HT.sIx l.length 0 l2=0/\HT.sIx l.length l.length h3=l.length
   ·refine .inr ⟨a,vs,rfl,c.imp And.right id,by rw[<-cC];exact hw,k _ ρ3 _ _ q3 fAll sAll ?_⟩
    show Rep _ _ _ (.tup (cutD l l2 h3)) _
    rw[v6 l l2 h3 hw];exact r2
   ·exact .inl (.inr ⟨a,vs,rfl,c.imp And.right id,by rw[<-cC];exact hw,λp n=>k _ ρ3 _ _ q3 fAll (sAll.trans (bR n _)) (eL (λa z=>I3.avSome z) n (rs.cut l2 h3))⟩)
  | lst l=>
   simp only[Rep]at r';obtain⟨a,vs,rfl,n0,c,rs⟩:=r';exact .inl (.inl ⟨a,vs,rfl,SqL.of c,λp n=>k _ ρ3 _ _ q3 fAll (sAll.trans (bR n _)) (cX sAll n (rs.cut l2 h3))⟩)
  | rol l=>
   simp only[Rep]at r';obtain⟨a,vs,rfl,c,rs⟩:=r';exact .inl (.inl ⟨a,vs,rfl,c.imp And.right id,λp n=>k _ ρ3 _ _ q3 fAll (sAll.trans (bR n _)) (cX sAll n (rs.cut l2 h3))⟩)
  | _=>exact(show False from q3).elim⟩
mutual
def pd:D->Option PyData
 | .non=>some .none
 | .bl b=>some (.bool b)
 | .int i=>some (.int i)
 | .tup l=>(pdL l).map .tuple
 | .lst l=>(pdL l).map .list
 | .rol l=>(pdL l).map .list
 | .str _=>none
 | .ty _=>none
 | .obj _ _ _=>none
 | .adr _=>none
 | .xob _ _ _ _=>none
def pdL:List D->Option (List PyData)
 | []=>some []
 | d::r=>(pd d).bind λx=>(pdL r).map (x::·)
end
theorem rZ {d:D}{r:List D}{xs:List PyData}(h:pdL (d::r)=some xs): ∃x ys,xs=x::ys/\pd d=some x/\pdL r=some ys:=by
 simp only[pdL]at h;cases e:pd d with
 | none=>rw[e]at h;cases h
 | some x=>
  rw[e]at h;cases e2:pdL r with
  | none=>rw[e2]at h;cases h
  | some ys=>rw[e2]at h;cases h;exact⟨x,ys,rfl,rfl,rfl⟩
theorem gA {α β:Type}{o:Option α}{f:α->β}{y:β}(h:o.map f=some y): ∃x,o=some x/\y=f x:=by
 cases o with
 | none=>cases h
 | some x=>cases h;exact⟨x,rfl,rfl⟩
mutual
theorem mE: ∀(d:D) {x:PyData},pd d=some x->x.canLay0=true
 | .non,x,h=>by simp only[pd]at h;cases h;rfl
 | .bl b,x,h=>by simp only[pd]at h;cases h;rfl
 | .int i,x,h=>by simp only[pd]at h;cases h;rfl
 | .tup l,x,h=>by simp only[pd]at h;obtain⟨xs,e,rfl⟩:=gA h;simp only[PyData.canLay0];exact nO l e
 | .lst l,x,h=>by simp only[pd]at h;obtain⟨xs,e,rfl⟩:=gA h;simp only[PyData.canLay0];exact nO l e
 | .rol l,x,h=>by simp only[pd]at h;obtain⟨xs,e,rfl⟩:=gA h;simp only[PyData.canLay0];exact nO l e
 | .str _,x,h=>by simp only[pd]at h;cases h
 | .ty _,x,h=>by simp only[pd]at h;cases h
 | .obj _ _ _,x,h=>by simp only[pd]at h;cases h
 | .adr _,x,h=>by simp only[pd]at h;cases h
 | .xob _ _ _ _,x,h=>by simp only[pd]at h;cases h
theorem nO: ∀(l:List D) {xs:List PyData},pdL l=some xs->PyData.canLayAll0 xs=true
 | [],xs,h=>by simp only[pdL]at h;cases h;rfl
 | d::r,xs,h=>by
  obtain⟨x,ys,rfl,e1,e2⟩:=rZ h;simp only[PyData.canLayAll0,and_eq_true];exact⟨mE d e1,nO r e2⟩
end
section
variable {pins:List (Addr×Obj)}{s:Shared}
mutual
theorem iB (I:Inv X pins σ H s): ∀(d:D) {x:PyData} {v:V} {u:Value},pd d=some x->Rep X.K A H d v->RelV v u-> ∃as,Reads s.heap u x as
 | .non,x,v,u,h,r,q=>by simp only[pd]at h;cases h;simp only[Rep]at r;subst r;cases q;exact⟨_,.none⟩
 | .bl b,x,v,u,h,r,q=>by simp only[pd]at h;cases h;simp only[Rep]at r;subst r;cases q;exact⟨_,.bool b⟩
 | .int i,x,v,u,h,r,q=>by simp only[pd]at h;cases h;simp only[Rep]at r;subst r;obtain⟨t,rfl⟩:=q;exact⟨_,.int i t⟩
 | .tup l,x,v,u,h,r,q=>by
  simp only[pd]at h;obtain⟨xs,e,rfl⟩:=gA h;simp only[Rep]at r;obtain⟨a,vs,rfl,c,rs⟩:=r;cases q;obtain⟨its,rv,⟨o,ho,hc,n,hd⟩,hz⟩:=I.tuple (c.imp And.right id);obtain⟨as,ra⟩:=iN I l e rs rv;exact⟨_,.tuple ho hc hd (by simpa using ra)⟩
 | .lst l,x,v,u,h,r,q=>by
  simp only[pd]at h;obtain⟨xs,e,rfl⟩:=gA h;simp only[Rep]at r;obtain⟨a,vs,rfl,n0,c,rs⟩:=r;cases q;obtain⟨its,rv,p,hz⟩:=I.list (SqL.of c);obtain⟨o,ho,hc,n,hd⟩:=p.isList;obtain⟨as,ra⟩:=iN I l e rs rv;exact⟨_,.list ho hc hd (by simpa using ra)⟩
 | .rol l,x,v,u,h,r,q=>by
  simp only[pd]at h;obtain⟨xs,e,rfl⟩:=gA h;simp only[Rep]at r;obtain⟨a,vs,rfl,c,rs⟩:=r;cases q;obtain⟨its,rv,p,hz⟩:=I.list (c.imp And.right id);obtain⟨o,ho,hc,n,hd⟩:=p.isList;obtain⟨as,ra⟩:=iN I l e rs rv;exact⟨_,.list ho hc hd (by simpa using ra)⟩
 | .str _,x,v,u,h,r,q=>by simp only[pd]at h;cases h
 | .ty _,x,v,u,h,r,q=>by simp only[pd]at h;cases h
 | .obj _ _ _,x,v,u,h,r,q=>by simp only[pd]at h;cases h
 | .adr _,x,v,u,h,r,q=>by simp only[pd]at h;cases h
 | .xob _ _ _ _,x,v,u,h,r,q=>by simp only[pd]at h;cases h
theorem iN (I:Inv X pins σ H s): ∀(l:List D) {xs:List PyData} {vs:List V} {us:List Value},pdL l=some xs->aO X.K A H l vs->aZ vs us-> ∃as,ReadsAll s.heap us xs as
 | [],xs,vs,us,h,r,q=>by simp only[pdL]at h;cases h;have:=r.unnil;subst this;cases q;exact⟨_,.nil⟩
 | d::l,xs,vs,us,h,r,q=>by
  obtain⟨x,ys,rfl,e1,e2⟩:=rZ h;obtain⟨v,vr,rfl,r1,rs⟩:=r.uncons;cases q with
  | cons q1 q2=>
   obtain⟨as,h1⟩:=iB I d e1 r1 q1;obtain⟨bs,h2⟩:=iN I l e2 rs q2;exact⟨_,.cons h1 h2⟩
end
end
def t9 (neg:Bool)(d e:D)(Q:B->Prop):Prop:= ∃p q,pd d=some p/\pd e=some q/\p.depth<=60/\Q (.pu (.bl (neg ^^ p.eqv q)))
theorem ou_eqD (hu:X.A.units+64<cLine):OpU X (compareOp .Eq) (t9 false):=by
 intro A H d e v w Q0 Q hA r1 r2 g k;obtain⟨p,q,e1,e2,hd,g⟩:=g;refine⟨λx y H Q=> ∃(A:AS) (d e:D) (p q:PyData),Rep X.K A H d x/\Rep X.K A H e y/\pd d=some p/\pd e=some q/\p.depth<=60/\Q (.bl (p.eqv q)) H,?_,A,d,e,p,q,r1,r2,e1,e2,hd,k _ _ H g (.refl _) (by rw[false_xor];exact eC)⟩
 rintro pins s σ H x y v u Q I rx ry ⟨A,d,e,p,q,r1,r2,e1,e2,hd,h⟩;obtain⟨as,ra⟩:=iB I d e1 r1 rx;obtain⟨bs,rb⟩:=iB I e e2 r2 ry;exact SeqAt.compareEq_reads ra rb (mE d e1) (mE e e2) (by lia) ⟨.bl _,H,I,rfl,h⟩
theorem tD (hu:X.A.units+64<cLine):OpU X (compareOp .NotEq) (t9 true):=by
 intro A H d e v w Q0 Q hA r1 r2 g k;obtain⟨p,q,e1,e2,hd,g⟩:=g;refine⟨λx y H Q=> ∃(A:AS) (d e:D) (p q:PyData),Rep X.K A H d x/\Rep X.K A H e y/\pd d=some p/\pd e=some q/\p.depth<=60/\Q (.bl (!(p.eqv q))) H,?_,A,d,e,p,q,r1,r2,e1,e2,hd,k _ _ H g (.refl _) (by rw[true_xor];exact eC)⟩
 rintro pins s σ H x y v u Q I rx ry ⟨A,d,e,p,q,r1,r2,e1,e2,hd,h⟩;obtain⟨as,ra⟩:=iB I d e1 r1 rx;obtain⟨bs,rb⟩:=iB I e e2 r2 ry;exact SeqAt.compareNe_reads ra rb (mE d e1) (mE e e2) (by lia) ⟨.bl _,H,I,rfl,h⟩
def SqA (K:Frag)(A:AS)(H:Hp)(T:Bool)(a:Addr)(vs:List V):Prop:=match T with
 | false=>(¬A a/\Rd H a (.lst vs))\/KL K a vs
 | true=>(¬A a/\Rd H a (.tup vs))\/KT K a vs
theorem fM.self:fM A H A H:=λ_ _ n e=>⟨n,e⟩
theorem Rep.sq {d:D}{v:V}{l:List D}(r:Rep K A H d v)(h:gE d=some l): ∃T a vs,v= .ref a/\SqA K A H T a vs/\aO K A H l vs:=by
 cases d with
 | tup l'=>cases h;simp only[Rep]at r;obtain⟨a,vs,e,c,r⟩:=r;exact⟨true,a,vs,e,c,r⟩
 | lst l'=>cases h;simp only[Rep]at r;obtain⟨a,vs,e,n,c,r⟩:=r;exact⟨false,a,vs,e,.inl ⟨n,.inl c⟩,r⟩
 | rol l'=>cases h;simp only[Rep]at r;obtain⟨a,vs,e,c,r⟩:=r;exact⟨false,a,vs,e,c,r⟩
 | _=>cases h
theorem aO.at {l:List D}{vs:List V}{i:Nat}(r:aO K A H l vs)(hi:i<l.length): ∃x,vs[i]? =some x/\Rep K A H (l.getD i .non) x:=r.get (by rw[getD_eq_getElem?_getD,getElem?_eq_getElem hi];rfl)
def uZip (ta:UA):UI:=λρ Q=>ta ρ λds ρ1=>match ds with
 | [d,e]=>(match gE d,gE e with
  | some l,some m=>Q (min l.length m.length) (λi=> .tup [l.getD i .non,m.getD i .non]) ρ1
  | _,_=>False)
 | _=>False
def uEnum (ta:UA):UI:=λρ Q=>ta ρ λds ρ1=>match ds with
 | [d]=>(match gE d with
  | some l=>Q l.length (λi=> .tup [.int (i:Int),l.getD i .non]) ρ1
  | none=>False)
 | _=>False
def uRevR (ta:UA):UI:=λρ Q=>ta ρ λds ρ1=>match ds with
 | [.int j]=>(-(2^31)<=j/\j<2^31)/\Q j.toNat (λk=> .int ((j.toNat:Int)-1-k)) ρ1
 | _=>False
end
end M
end
section
namespace M
open PySem PySem.Spec PyProof.Rows L2
section
variable {X:Cx}{a b c e:Expr}{ta tb tc te:UE}{pos:Pos}
def uChain (g g':D->D->(B->Prop)->Prop)(ta tb tc:UE):UE:=λρ Q=>ta ρ λx ρ1=>tb ρ1 λy ρ2=>g x.d y.d λb=>isB (λk ρ3=>if k=true then tc ρ3 λz ρ4=>g' y.d z.d λb'=>Q b' ρ4 else Q (.pu (.bl false)) ρ3) b ρ2
theorem aO.dropLast {K:Frag}{A:AS}{H:Hp}{l:List D}{vs:List V}(h:aO K A H l vs):aO K A H l.dropLast vs.dropLast:=by
 rw[List.dropLast_eq_take,List.dropLast_eq_take,h.length];exact h.take _
def uPop (i:Nat):US:=λD ρ=>j6 ρ i λl=>l≠[]/\D.nx (ρ.set i (some (.ow l.dropLast)))
end
end M
end
section
namespace L2
open PySem PySem.Spec PyProof.Rows
end L2
end
section
namespace L2
open PySem PySem.Spec PyProof.Rows
def o0 (h:Heap)(a l:Addr)(i:Int):Prop:= ∃o,h.get? a=some o/\o.cls= .type "reversed"/\o.data= .fields #[.ref l,rawInt i]
theorem o0.at {h h':Heap}{a l:Addr}{i:Int}(x:o0 h a l i)(e: ∀o,h.get? a=some o->h'.get? a=some o):o0 h' a l i:=let ⟨o,ho,r⟩:=x;⟨o,e _ ho,r⟩
section
variable {prog:Program}{w:World}{A:Around}{E:Value->Shared->Prop}{s:Shared}
theorem o0.typeIs {a l:Addr}{i:Int}(x:o0 s.heap a l i):s.TypeIs (.ref a) "reversed":=let ⟨o,ho,hc,_⟩:=x;⟨o,ho,hc⟩
end
end L2
namespace M
open PySem PySem.Spec PyProof.Rows L2
section
variable {X:Cx}{A:AS}{H:Hp}{K:Frag}{pos:Pos}{a:Expr}
def uRevT (ta:UA):UI:=λρ Q=>ta ρ λds ρ1=>match ds with
 | [.tup l]=>Q l.length (λi=>l.getD (l.length-1-i) .non) ρ1
 | _=>False
def gMulT (d e:D)(Q:B->Prop):Prop:=match d,e with
 | .tup l,.int k=>(l≠[]/\ -(2^63)<=k/\k<2^63/\l.length*k.toNat<=sizeLine)/\Q (.pu (.tup (replicate k.toNat l).flatten))
 | _,_=>False
end
end M
end
section
namespace M
open PySem PySem.Spec PyProof.Rows L2
end M
end
section
namespace L2
open PySem PySem.Spec PyProof.Rows
section
variable {X:Cx}
theorem tE (hc:X.calm=true):eD X (.builtin "any") (λxs H Q=> ∃(p:Addr) (bs:List Bool),xs=[.ref p]/\SqL X.K H p (bs.map V.bl)/\Q (.bl (bs.any id)) H):=by
 intro pins s σ H xs us Q I r h;obtain⟨p,bs,rfl,hq,q⟩:=h;obtain⟨u,rfl,rx⟩:=vals1 r;cases rx;obtain⟨its,rv,pl,hz⟩:=I.list hq;have ba:=u6 rv;refine call_any_walk (wpAny_pyIter_list pl.isList ?_);have hne:p≠s.heap.objs.size:=by
  obtain⟨o,n,e,_⟩:=pl;exact ne_of_lt (lt_size e)
 refine⟨s.heap.objs.size,_,_,_,_,_,λi=>(bs[i]?).getD false,rfl,Walks.list (A:=X.A.in1) (I.ok.hd hc) s.heap.objs.size p (λz=>hne z) its.toArray,⟨⟨_,get?_push_size _ rfl,rfl,rfl⟩,pl.isList.push _⟩,?_,λh' tk hk=> ?_⟩
 ·intro i v s' Q' E' hP hQ;obtain⟨b,hb,rfl⟩:=ba.get i v (by simpa using hP)
  refine wpAny_truthy_bool ?_
  dsimp only at hQ;rw[hb]at hQ;exact hQ
 ·have e:=LSm.range_any bs;have hl:=ba.length;have e2:its.toArray.size=bs.length:=by rw[size_toArray,hl]
  rw[e2,e];exact⟨.bl (bs.any id),H,I.kept λb o e=>hk b o (by simpa using ne_of_lt (lt_size e)) (get?_push_of_some _ e),rfl,q⟩
end
end L2
namespace M
open PySem PySem.Spec PyProof.Rows L2
section
variable {X:Cx}
def yS:List D->(B->Prop)->Prop:=g1 λd Q=>match d with
 | .lst l=>(match fR l with
  | some bs=>Q (.pu (.bl (bs.any id)))
  | none=>False)
 | _=>False
theorem cu_any (hc:X.calm=true):i8 X (.builtin "any") yS:=by
 intro A H ds vs Q0 Q hA r g k;obtain⟨d,v,rfl,rfl,rv,g⟩:=j9 g r;cases d with
 | lst l=>
  dsimp only at g;cases e:fR l with
  | none=>rw[e]at g;exact g.elim
  | some bs=>
   rw[e]at g;simp only[Rep]at rv;obtain⟨a,vs,rfl,n,c,rs⟩:=rv;rw[kX e rs]at c;exact⟨_,tE hc,a,bs,rfl,SqL.of c,k _ _ H g (.refl _) eC⟩
 | _=>exact(show False from g).elim
theorem bt_any:bootBuiltins "any"=some (.builtin "any"):=by decide +kernel
end
end M
end
section
namespace L2
open PySem PySem.Spec PyProof.Rows
end L2
namespace M
open PySem PySem.Spec PyProof.Rows L2
section
variable {X:Cx}{a:Expr}{pos:Pos}{ta:UE}
def gMaxL:List D->(B->Prop)->Prop:=g1 λd Q=>match d with
 | .lst l=>(match wQ l with
  | some ns=>0<ns.length/\ ∀m:Int,m∈ns->(∀a∈ns,a<=m)->Q (.pu (.int m))
  | none=>False)
 | _=>False
def D.isN:D->Bool
 | .non=>true
 | _=>false
def uIsN (neg:Bool)(t:UE):UE:=λρ Q=>t ρ λb ρ1=>Q (.pu (.bl (neg ^^ b.d.isN))) ρ1
end
end M
end
section
namespace M
open PySem PySem.Spec PyProof.Rows L2
mutual
def D.nl:D->Bool
 | .tup l=>D.nls l
 | .lst _=>false
 | .rol _=>false
 | .obj _ _ _=>false
 | .adr _=>false
 | .xob _ _ _ _=>false
 | .non=>true
 | .bl _=>true
 | .int _=>true
 | .str _=>true
 | .ty _=>true
def D.nls:List D->Bool
 | []=>true
 | d::l=>d.nl&&D.nls l
end
section
variable {K:Frag}{A A':AS}{H H':Hp}
mutual
theorem Rep.nl (p: ∀a vs,¬A a->Rd H a (.tup vs)-> ¬A' a/\Rd H' a (.tup vs)): ∀{d:D} {v:V},d.nl=true->Rep K A H d v->Rep K A' H' d v
 | .non,_,_,h=>h
 | .bl _,_,_,h=>h
 | .int _,_,_,h=>h
 | .str _,_,_,h=>h
 | .ty _,_,_,h=>h
 | .tup l,v,q,h=>by
  simp only[Rep]at h⊢;obtain⟨a,vs,e,c,r⟩:=h;simp only[D.nl]at q;refine⟨a,vs,e,?_,aO.nl p q r⟩;rcases c with⟨n,c⟩|c
  ·exact .inl (p a vs n c)
  ·exact .inr c
 | .lst _,_,q,_=>by simp only[D.nl]at q;cases q
 | .rol _,_,q,_=>by simp only[D.nl]at q;cases q
 | .obj _ _ _,_,q,_=>by simp only[D.nl]at q;cases q
 | .adr _,_,q,_=>by simp only[D.nl]at q;cases q
 | .xob _ _ _ _,_,q,_=>by simp only[D.nl]at q;cases q
theorem aO.nl (p: ∀a vs,¬A a->Rd H a (.tup vs)-> ¬A' a/\Rd H' a (.tup vs)): ∀{l:List D} {vs:List V},D.nls l=true->aO K A H l vs->aO K A' H' l vs
 | [],_,_,h=>by simp only[aO]at h ⊢; exact h
 | d::ds,vs,q,h=>by
  simp only[aO]at h⊢;simp only[D.nls,and_eq_true]at q;obtain⟨v,vr,e,r,rs⟩:=h;exact⟨v,vr,e,Rep.nl p q.1 r,aO.nl p q.2 rs⟩
end
end
section
variable {X:Cx}{st:Stmt}{sts:List Stmt}{e o:Expr}{pos:Pos}{t u:US}{te to:UE}{K:Frag}{C:C0}{ρ ρ':Ev}{σ:L2.St}{H H':Hp}
def kH (t:UT):UT:=λρ Q=>t ρ λb _=>Q b ρ
theorem gT {t:UT}(h:PUT X e t):PUT X e (kH t):=tZ h λσ H Q ⟨C,ρ,Q0,I,h,k⟩=>⟨C,ρ,_,I,h,λb ρ' H' q f s=>k b ρ H' q (.refl _) s⟩
def uLookE (t:UE):UE:=λρ Q=>t ρ λb _=>match b with
 | .pu d=>d.nl=true/\Q (.pu d) ρ
 | _=>False
def keepO:Option B->Option B
 | some (.pu d)=>if d.nl=true then some (.pu d)else none
 | some (.ow l)=>if D.nls l=true then some (.ow l)else none
 | _=>none
def uAppZ (to te:UE):US:=λD ρ=>to ρ λb ρ1=>match b with
 | .pu (.lst l)=>te ρ1 λ_ ρ2=>l.length<sizeLine/\D.nx (ρ2.map keepO)
 | _=>False
end
def ltL:List Int->List Int->Bool
 | [],[]=>false
 | [],_::_=>true
 | _::_,[]=>false
 | a::x,b::y=>if a=b then ltL x y else decide (a<b)
section
variable {X:Cx}
def gSort2:List D->(B->Prop)->Prop:=g1 λd Q=> ∃(i j:Int) (us ws:List Int),d= .lst [.tup ((i::us).map D.int),.tup ((j::ws).map D.int)]/\
 Q (.ow (if ltL (j::ws) (i::us)=true then [.tup ((j::ws).map D.int),.tup ((i::us).map D.int)]else [.tup ((i::us).map D.int),.tup ((j::ws).map D.int)]))
end
section
variable {prog:Program}{w:World}{A:Around}{E:Value->Shared->Prop}{s:Shared}
def pI (prog:Program)(w:World)(A:Around)(E:Value->Shared->Prop)(fin:Bool)(Q:Value->Shared->Prop):List (Value×Value)->Shared->Prop
 | [],s=>Q (.bool fin) s
 | (p,q)::r,s=>wpAny (model prog w) A (eqBool p q) (λe s'=>if e=true then pI prog w A E fin Q r s' else wpAny (model prog w) A (richCompare .LtE p q) Q E s') E s
theorem pI.mono {fin:Bool}{Q Q':Value->Shared->Prop}(k: ∀v s,Q v s->Q' v s): ∀(l:List (Value×Value)) (s:Shared),pI prog w A E fin Q l s->pI prog w A E fin Q' l s
 | [],s,h=>k _ s h
 | (p,q)::r,s,h=>by
  have h':wpAny (model prog w) A (eqBool p q) (λe s'=>if e=true then pI prog w A E fin Q r s' else wpAny (model prog w) A (richCompare .LtE p q) Q E s') E s:=h
  refine wpAny_mono h' (λe s' he=> ?_) λ_ _ z=>z
  cases e
  ·rw[if_neg (by decide)]at he⊢
   exact wpAny_mono he k λ_ _ z=>z
  ·rw[if_pos rfl]at he⊢;exact pI.mono k r s' he
end
end M
end
section
namespace L2
open PySem PySem.Spec PyProof.Rows
end L2
namespace M
open PySem PySem.Spec PyProof.Rows L2
end M
end
section
namespace L2
open PySem PySem.Spec PyProof.Rows
end L2
namespace M
open PySem PySem.Spec PyProof.Rows L2
end M
end
section
namespace L2
open PySem PySem.Spec PyProof.Rows
end L2
namespace M
open PySem PySem.Spec PyProof.Rows L2
end M
end
section
namespace M
open PySem PySem.Spec PyProof.Rows L2
section
variable {X:Cx}{a b e o:Expr}{es:List Expr}{pos:Pos}{ta tb te ti to:UE}{K:Frag}{C:C0}{ρ ρ':Ev}{σ σ':L2.St}{H H':Hp}{A:AS}
theorem v7 {x:Str}:hJ K A H H' (.pu (.str x)) (.str x):=by
 show Rep K A H' (.str x) (.str x)
 simp only[Rep]
def sA (d e:D)(Q:B->Prop):Prop:=match d,e with
 | .str i,.str j=>i.length+j.length<=sizeLine/\Q (.pu (.str (i++j)))
 | _,_=>False
theorem u7:OpU X (binaryOp .Add) sA:=by
 intro A H d e v w Q0 Q hA r1 r2 g k;unfold sA at g;split at g
 ·exact⟨_,sU,_,_,bD r1,bD r2,g.1,k _ _ H g.2 (.refl _) v7⟩
 ·exact g.elim
def yT (d e:D)(Q:B->Prop):Prop:=match d,e with
 | .str i,.str j=>Q (.pu (.bl (!(Builtin.Str.occurrences j i 0 j.length 1).isEmpty)))
 | _,_=>False
theorem ou_inS:OpU X (compareOp .In) yT:=by
 intro A H d e v w Q0 Q hA r1 r2 g k;unfold yT at g;split at g
 ·exact⟨_,uU,_,_,bD r1,bD r2,k _ _ H g (.refl _) eC⟩
 ·exact g.elim
def yU (d e:D)(Q:B->Prop):Prop:=match d,e with
 | .str z,.int i=>z.length<=sizeLine/\ ∃c,atI z.cps.toList i=some c/\Q (.pu (.str ⟨#[c]⟩))
 | _,_=>False
theorem pu_ixS (ha:PU X a ta)(hb:PU X b ti)(hs:qI b):PU X (.Subscript a b pos) (uOp yU ta ti):=
 dB (zF vZ ha hb hs) λσ H Q ⟨C,ρ,Q0,I,h,k⟩=>⟨C,ρ,_,I,h,λd ρ1 v H1 q f s r=>by
  have I1:=(I.frz f).same s;refine⟨C,ρ1,_,I1,q,λi ρ2 w H2 q2 f2 s2 r2=> ?_⟩
  have r1:=(r.rep λa z=>I.avF f z)
  have ri:=r2.rep λa z=>I1.avF f2 z
  generalize d.d=x at q2 r1;generalize i.d=y at q2 ri;unfold yU at q2;split at q2
  ·obtain⟨hz,c,e,q2⟩:=q2;exact⟨_,_,c,bD r1,aY ri,hz,e,k _ _ _ _ q2 (f.trans f2) (s.trans s2) v7⟩
  ·exact q2.elim⟩
def wU:List D->(B->Prop)->Prop:=g1 (v2 λi Q=>i.natAbs.log2<1920/\Q (.pu (.str (Str.ofString (toString i)))))
theorem tF:i8 X (.type "str") wU:=by
 intro A H ds vs Q0 Q hA r g k;obtain⟨d,v,rfl,rfl,rv,g⟩:=j9 g r;obtain⟨i,rfl,g⟩:=rW g;exact⟨_,qF,i,by rw[aY rv],g.1,k _ _ H g.2 (.refl _) v7⟩
def wV (f:Str->(B->Prop)->Prop)(d:D)(Q:B->Prop):Prop:=match d with
 | .str x=>f x Q
 | _=>False
theorem sB {f:Str->(B->Prop)->Prop}{d:D}{Q:B->Prop}(h:wV f d Q): ∃i,d= .str i/\f i Q:=by
 unfold wV at h;split at h
 ·exact⟨_,rfl,h⟩
 ·exact h.elim
def wW:List D->(B->Prop)->Prop:=g1 (wV λx Q=>x.length<=sizeLine/\Q (.pu (.int x.length)))
theorem yV:i8 X (.builtin "len") wW:=by
 intro A H ds vs Q0 Q hA r g k;obtain⟨d,v,rfl,rfl,rv,g⟩:=j9 g r;obtain⟨i,rfl,g⟩:=sB g;exact⟨_,qL,i,by rw[bD rv],g.1,k _ _ H g.2 (.refl _) n3⟩
theorem oT:eD X (.type "int") (λxs H Q=> ∃x n,xs=[.str x]/\intText? x=some n/\x.length<=640/\Q (.int n) H):=by
 intro pins s σ H xs us Q I r h;obtain⟨x,n,rfl,hn,hl,q⟩:=h;obtain⟨u,rfl,t,rfl⟩:=vals1 r;exact PySem.W.KIN.call_text hn hl ⟨.int n,H,I.tok _,⟨_,rfl⟩,q⟩
def pJ:List D->(B->Prop)->Prop:=g1 (wV λx Q=> ∃n,intText? x=some n/\x.length<=640/\Q (.pu (.int n)))
theorem qY:i8 X (.type "int") pJ:=by
 intro A H ds vs Q0 Q hA r g k;obtain⟨d,v,rfl,rfl,rv,g⟩:=j9 g r;obtain⟨i,rfl,n,e,hl,g⟩:=sB g;exact⟨_,oT,i,n,by rw[bD rv],e,hl,k _ _ H g (.refl _) n3⟩
theorem qZ {x y:Str}{t:Tok}{p:Pos}(hg:Gl X x)(hm:X.mg x=some (.str y t))(hd:(x==("__debug__":Str))=false:=by decide):PU X (.Name x p) (uC (.str y)):=
 qN (tT hg hm (v:= .str y) ⟨t,rfl⟩ hd) λA H=>by simp only[Rep]
theorem sl_str:SlR X (λx lo hi H Q=> ∃z,x= .str z/\z.length<=sizeLine/\Q (.str (Txt.slice z lo hi)) H):=by
 intro pins s σ H x v vl vu lo hi sl Q I rx hs pl pu h;obtain⟨z,rfl,hz,q⟩:=h;obtain⟨t,rfl⟩:=rx;refine⟨"str",_,slot_str_getitem.lookup,typeIs_str _ _ _,?_⟩;have fin: ∀l u:Option (Int×Tok),l.map (·.1)=lo->u.map (·.1)=hi->s.heap.IsSlice sl l u none->wpAny (model X.prog X.w) X.A (getItem (.str z t) (.ref sl)) (EP X pins σ Q) X.xe s:=λl u el eu hl=>by
  subst el eu;refine wpAny_getItem_str_slice hl rfl (post_val_or_str ⟨le_trans (Txt.slice_le z _ _) hz,λt' k=>⟨.str _,H,I.tok _,⟨_,rfl⟩,q⟩⟩)
 cases pl with
 | none=>
  cases pu with
  | none=>exact fin none none rfl rfl hs
  | int j tj=>exact fin none (some (j,tj)) rfl rfl hs
 | int i t1=>
  cases pu with
  | none=>exact fin (some (i,t1)) none rfl rfl hs
  | int j tj=>exact fin (some (i,t1)) (some (j,tj)) rfl rfl hs
def gSlS (lo hi:Option Int)(d:D)(Q:B->Prop):Prop:=match d with
 | .str z=>z.length<=sizeLine/\Q (.pu (.str (Txt.slice z lo hi)))
 | _=>False
def uSlS (t:UE)(tl th:UO):UE:=λρ Q=>t ρ λd ρ1=>tl ρ1 λlo ρ2=>th ρ2 λhi ρ3=>gSlS lo hi d.d λb=>Q b ρ3
theorem v8 {tl th:UO}{lo hi:Option Expr}{p2:Pos}(he:PU X e te)(hl:PUO X lo tl)(hu:PUO X hi th):PU X (.Subscript e (.Slice lo hi none p2) pos) (uSlS te tl th):=
 dB (nV sl_str he hl hu) λσ H Q ⟨C,ρ,Q0,I,h,k⟩=>⟨C,ρ,_,I,h,λd ρ1 v H1 q f s r=>by
  have I1:=(I.frz f).same s;refine⟨C,ρ1,_,I1,q,λl2 ρ2 H2 q2 f2 s2=> ?_⟩
  have I2:=(I1.frz f2).same s2;refine⟨C,ρ2,_,I2,q2,λh3 ρ3 H3 q3 f3 s3=> ?_⟩
  have r1:=(r.rep λa z=>I.avF f z)
  generalize d.d=x at q3 r1;unfold gSlS at q3;split at q3
  ·exact⟨_,bD r1,q3.1,k _ ρ3 _ _ q3.2 (f.trans (f2.trans f3)) (s.trans (s2.trans s3)) v7⟩
  ·exact q3.elim⟩
def MtU (X:Cx)(id:String)(g:D->List D->(B->Prop)->Prop):Prop:=
 ∀(A:AS) (H:Hp) (d:D) (ds:List D) (v:V) (vs:List V) (Q0:B->Prop) (Q:VK),(∀a,A a->H a≠none)->Rep X.K A H d v->aO X.K A H ds vs->g d ds Q0->
  (∀b v' H',Q0 b->dQ H H'->hJ X.K A H H' b v'->Q v' H')-> ∃r,MtR X id r/\r v vs H Q
theorem mtAny {id:String}:MtR X id (λx xs H Q=> ∃r,MtR X id r/\r x xs H Q):=λpins s σ H x xs v us Q I rx rs ⟨r,hr,q⟩=>hr pins s σ H x xs v us Q I rx rs q
def mT (d:D):Prop:=match d with
 | .str _=>True
 | _=>False
def lD (g:D->List D->(B->Prop)->Prop)(to:UE)(t:UA):UE:=λρ Q=>to ρ λx ρ1=>mT x.d/\t ρ1 λds ρ2=>g x.d ds λb=>Q b ρ2
theorem gH {id:String}{g:D->List D->(B->Prop)->Prop}{t:UA}{name:Str}{apos cpos:Pos}(slot:Slot "str" name id)(hty:typeOf (.builtin id)=pure (.type "method_descriptor"))(hm:MtU X id g)(ho:PU X o to)(ha:PUA X (e::es) t)
  (hbase:attributeBase o name X.env (eval o X.env)=eval o X.env:=by rfl)
  (hfew:((backTo cpos (starEach (e::es) X.env)).all (λx=> !x.1)&&(backToKw cpos (keywordEach [] X.env)).all (λx=>x.1.isSome)
   &&decide ((e::es).length+([]:List Keyword).length+(if([]:List Keyword).isEmpty then 0 else 1)<30))=true:=by rfl)
  (hline:(apos.endLine==cpos.line)=true:=by rfl) (hs:starEach (e::es) X.env=(false,eval e X.env)::starEach es X.env:=by rfl) (hplain:(backTo cpos (starEach es X.env)).any (·.1)=false:=by rfl) :
  PU X (.Call (.Attribute o name apos) (e::es) [] cpos) (lD g to t):=
 dB (zG PySem.F.plainAttrs_str slot hty mtAny ho ha hbase hfew hline hs hplain) λσ H Q ⟨C,ρ,Q0,I,h,k⟩=>⟨C,ρ,_,I,h,λx ρ1 v H1 q f s r=>by
  have I1:=(I.frz f).same s;have r1:=(r.rep λa z=>I.avF f z)
  obtain⟨hx,q⟩:=q;refine⟨?_,C,ρ1,_,I1,q,λds ρ2 vs H2 q2 f2 s2 r2=> ?_⟩
  ·generalize x.d=d at hx r1;unfold mT at hx;split at hx
   ·rw[bD r1];rfl
   ·exact hx.elim
  ·have I2:=(I1.frz f2).same s2;exact hm (Av C ρ2 σ) H2 x.d ds v vs _ Q (λa z=>I2.avSome z) (r1.mono (.sub s2 λa=>f2.av)) r2 q2 λb v' H' q' s' r'=>k b ρ2 v' H' q' (f.trans f2) (s.trans (s2.trans s')) (r'.from (s.trans s2))⟩
def nP (d:D)(ds:List D)(Q:B->Prop):Prop:=match d,ds with
 | .str x,[.str y]=>Q (.pu (.bl (Txt.startswith x y)))
 | _,_=>False
theorem wX {d:D}{vs:List V}(r:aO K A H [d] vs): ∃v,vs=[v]/\Rep K A H d v:=by
 obtain⟨v,vr,rfl,rv,rr⟩:=r.uncons;rw[rr.unnil];exact⟨v,rfl,rv⟩
theorem v9:MtU X "str.startswith" nP:=by
 intro A H d ds v vs Q0 Q hA r1 r2 g k;unfold nP at g;split at g
 ·rename_i x y
  obtain⟨w,rfl,rw'⟩:=wX r2;refine⟨λv vs H Q=> ∃x y,v= .str x/\vs=[.str y]/\Q (.bl (Txt.startswith x y)) H,?_,x,y,bD r1,by rw[bD rw'],k _ _ H g (.refl _) eC⟩
  rintro pins s σ H v vs u us Q I rx rs ⟨x,y,rfl,rfl,q⟩;obtain⟨t,rfl⟩:=rx;obtain⟨u2,rfl,t2,rfl⟩:=vals1 rs;exact SC.startswith ⟨.bl _,H,I,rfl,q⟩
 ·exact g.elim
theorem pK: ∀{ts:List Str} {us:List Value},aZ (ts.map V.str) us-> ∃l:List (Str×Tok),strValues l=us/\l.map (·.1)=ts
 | [],us,r=>by
  rw[map_nil]at r;cases r;exact⟨[],rfl,rfl⟩
 | x::ts,us,r=>by
  rw[map_cons]at r;cases r with
  | cons r1 r2=>
   obtain⟨t,rfl⟩:=r1;obtain⟨l,h1,h2⟩:=pK r2;exact⟨(x,t)::l,by rw[<-h1];rfl,by rw[map_cons,h2]⟩
theorem lF: ∀l:List (Str×Tok),aZ ((l.map (·.1)).map V.str) (strValues l)
 | []=> .nil
 | (x,t)::l=> .cons ⟨t,rfl⟩ (lF l)
theorem pL: ∀{ts:List Str} {vs:List V},aO K A H (ts.map D.str) vs->vs=ts.map V.str
 | [],vs,r=>r.unnil
 | x::ts,vs,r=>by
  obtain⟨v,vr,rfl,rv,rr⟩:=r.uncons;rw[bD rv,pL rr];rfl
theorem lH: ∀ts:List Str,aO K A H (ts.map D.str) (ts.map V.str)
 | []=> .nil
 | x::ts=> .cons (by simp only[Rep]) (lH ts)
def lJ (d:D)(ds:List D)(Q:B->Prop):Prop:=match d,ds with
 | .str x,[.lst l]=> ∃ts:List Str,l=ts.map D.str/\JoinOk x ts=true/\Q (.pu (.str (Txt.join x ts)))
 | _,_=>False
theorem jY:MtU X "str.join" lJ:=by
 intro A H d ds v vs Q0 Q hA r1 r2 g k;unfold lJ at g;split at g
 ·rename_i x l
  obtain⟨ts,rfl,ok,g⟩:=g;obtain⟨w,rfl,rw'⟩:=wX r2;simp only[Rep]at rw';obtain⟨p,ws,rfl,n,hp,rs⟩:=rw';have e:=pL rs;subst e;refine⟨λv vs H Q=> ∃x p ts,v= .str x/\vs=[.ref p]/\H p=some (.lst (ts.map V.str))/\JoinOk x ts=true/\Q (.str (Txt.join x ts)) H,?_,x,p,ts,bD r1,rfl,hp,ok,k _ _ H g (.refl _) v7⟩
  rintro pins s σ H v vs u us Q I rx rs ⟨x,p,ts,rfl,rfl,hp,ok,q⟩;obtain⟨t,rfl⟩:=rx;obtain⟨u2,rfl,r2⟩:=vals1 rs;cases r2;obtain⟨its,rv,pl,_⟩:=I.list (.inl (.inl hp));obtain⟨l,rfl,e⟩:=pK rv;exact SC.join pl.isList e ok λt' k=>⟨.str _,H,I.tok _,⟨_,rfl⟩,q⟩
 ·exact g.elim
theorem tG {prog:Program}{w:World}{A:Around}{E:Value->Shared->Prop}{s:Shared}{x y:Str}{t u:Tok}{Q:Value->Shared->Prop}(hy:(y.length==0)=false)
  (h: ∀(l:List (Str×Tok)) (k:Nat),l.map (·.1)=Txt.split x y->Q (.ref s.heap.objs.size) {s with heap:=s.heap.push {cls:= .type "list",data:= .seq (strValues l).toArray},toks:=k})
  (hsz:x.length+2<=sizeLine):wpAny (model prog w) A (call (.builtin "str.split") [.str x t,.str y u]) Q E s:=by
 open Builtin.Str in
 have hn:(partsBetween x (occurrences x y 0 x.length (x.length+1)) y.length).length<=sizeLine:=by
  have e1:=StrLaws.occ_length_le x y 0 x.length (x.length+1);rw[length_partsBetween];omega
 open Builtin.Str in
 cases h1:(decide (x.length<y.length)||decide (strKind x<strKind y))
 ·cases hf:(occurrences x y 0 x.length (x.length+1)).isEmpty
  ·refine call_meets F.slot_str_split (typeIs_str _ _ _) F.entry_str_split (F.args_str_split_2 _ _) (meets_str_split_sep x y t u h1 hy hf (by omega) hn) ?_
   show wants Q E _ {s with toks:=_,heap:=s.heap.push {cls:= .type "list",data:= .seq (strsFrom s.toks (partsBetween x (occurrences x y 0 x.length (x.length+1)) y.length)).toArray}}
   rw[strsFrom_eq];exact h (numbered s.toks _) _ ((numbered_texts _ _).trans ((if_neg (ne_true_of_eq_false h1)).trans (if_neg (ne_true_of_eq_false hf))).symm)
  ·exact call_meets F.slot_str_split (typeIs_str _ _ _) F.entry_str_split (F.args_str_split_2 _ _) (meets_str_split_not_found x y t u h1 hy hf)
    (h [(x,t)] s.toks ((if_neg (ne_true_of_eq_false h1)).trans (if_pos hf)).symm)
 ·exact call_meets F.slot_str_split (typeIs_str _ _ _) F.entry_str_split (F.args_str_split_2 _ _) (meets_str_split_cannot_occur x y t u h1)
   (h [(x,t)] s.toks (if_pos h1).symm)
theorem vA (x y:Str)(h:x.length+2<=sizeLine):(Txt.split x y).length<=sizeLine:=by
 unfold Txt.split;split
 ·exact le_trans (show 1<=1 from le_refl _) (by decide)
 ·split
  ·exact le_trans (show 1<=1 from le_refl _) (by decide)
  ·have e1:=StrLaws.occ_length_le x y 0 x.length (x.length+1);rw[length_partsBetween];omega
def kY (d:D)(ds:List D)(Q:B->Prop):Prop:=match d,ds with
 | .str x,[.str y]=>(y.length==0)=false/\x.length+2<=sizeLine/\Q (.ow ((Txt.split x y).map .str))
 | _,_=>False
theorem lK:MtU X "str.split" kY:=by
 intro A H d ds v vs Q0 Q hA r1 r2 g k;unfold kY at g;split at g
 ·rename_i x y
  obtain⟨hy,hz,g⟩:=g;obtain⟨w,rfl,rw'⟩:=wX r2;refine⟨λv vs H Q=> ∃x y,v= .str x/\vs=[.str y]/\(y.length==0)=false/\x.length+2<=sizeLine/\ ∀l,H l=none->Q (.ref l) (upd H l (.lst ((Txt.split x y).map V.str))),?_,x,y,bD r1,by rw[bD rw'],hy,hz,λl n=>k _ _ _ g (bR n _) (cX (.refl _) n (lH _))⟩
  rintro pins s σ H v vs u us Q I rx rs ⟨x,y,rfl,rfl,hy,hz,q⟩;obtain⟨t,rfl⟩:=rx;obtain⟨u2,rfl,t2,rfl⟩:=vals1 rs;refine tG hy (λl k e=> ?_) hz
  have rv:=lF l;rw[e]at rv;exact⟨.ref s.heap.objs.size,_,I.laid (t':=k) (λb ob q=>get?_push_of_some _ q) (le_refl _) (show gB X.prog X.w _ _ _ (.lst ((Txt.split x y).map V.str))from⟨by rw[length_map];exact vA x y hz,strValues l,0,rv,get?_push_size _ rfl⟩),rfl,q _ (I.hok.fresh (le_refl _))⟩
 ·exact g.elim
theorem jZ (i:Str):(Str.empty++i).length=i.length:=by rw[strLen_append];exact Nat.zero_add _
theorem pe_fmt {c:Str}{j:Nat}{p1 p2 p3:Pos}{ta tb:TE}(ha:PE X a ta)(hb:PE X b tb):PE X (.JoinedStr [.FormattedValue a (-1) none p1,.Constant (.str c) j p2,.FormattedValue b (-1) none p3] pos)
  (λσ H Q=>ta σ H λx H1=> ∃i,x= .str i/\i.length+c.length<=sizeLine/\tb σ H1 λy H2=> ∃n,y= .int n/\n.natAbs.log2<1920/\i.length+c.length+(Str.ofString (toString n)).length<=sizeLine/\Q (.str (Str.empty++i++c++Str.ofString (toString n))) H2):=by
 intro pins s σ H Q I h;refine wpAny_JoinedStr ?_;refine wpAny_FormattedValue_plain (thn (ha pins s σ H _ I h) λv s1 ⟨x,H1,I1,r1,i,ex,hz,q1⟩=> ?_)
 subst ex;obtain⟨t,rfl⟩:=r1;have z1:(Str.empty++i).length<=sizeLine:=by rw[jZ];omega
 have go: ∀(t:Tok) (tk:Nat),∃y t',Value.str i t= .str y t'/\(Str.empty++y).length<=sizeLine/\Joins (model X.prog X.w) X.A X.xe (evalEach [.Constant (.str c) j p2,.FormattedValue b (-1) none p3] X.env) (Str.empty++y)
   (λout s₁=>out.length<=sizeLine/\EP X pins σ Q (.str out s₁.toks) {s₁ with toks:=s₁.toks+1}) {s1 with toks:=tk}:=λt tk=>by
  refine⟨i,t,rfl,z1,?_⟩
  refine Calls.Constant_str ⟨c,_,rfl,by rw[strLen_append,jZ];omega,?_⟩
  refine wpAny_FormattedValue_plain (thn (hb pins _ σ H1 _ ((I1.tok _).tok _) q1) λu s2 ⟨y,H2,I2,r2,n,ey,hn,hz2,q2⟩=> ?_)
  subst ey;obtain⟨t2,rfl⟩:=r2;refine wpAny_formatField_int hn ⟨Str.ofString (toString n),_,rfl,by rw[strLen_append,strLen_append,jZ];omega,?_⟩
  exact⟨by rw[strLen_append,strLen_append,jZ];omega,.str _,H2,((I2.tok _).tok _),⟨_,rfl⟩,q2⟩
 exact wpAny_formatField_str (go t s1.toks) (go _ (s1.toks+1)) (by omega)
def uFmt (c:Str)(ta tb:UE):UE:=λρ Q=>ta ρ λx ρ1=>match x.d with
 | .str i=>i.length+c.length<=sizeLine/\tb ρ1 λy ρ2=>match y.d with
  | .int n=>n.natAbs.log2<1920/\i.length+c.length+(Str.ofString (toString n)).length<=sizeLine/\Q (.pu (.str (Str.empty++i++c++Str.ofString (toString n)))) ρ2
  | _=>False
 | _=>False
theorem pu_fmt {c:Str}{j:Nat}{p1 p2 p3:Pos}(ha:PU X a ta)(hb:PU X b tb):PU X (.JoinedStr [.FormattedValue a (-1) none p1,.Constant (.str c) j p2,.FormattedValue b (-1) none p3] pos) (uFmt c ta tb):=
 dB (pe_fmt ha hb) λσ H Q ⟨C,ρ,Q0,I,h,k⟩=>⟨C,ρ,_,I,h,λx ρ1 v H1 q f s r=>by
  have I1:=(I.frz f).same s;have r1:=(r.rep λa z=>I.avF f z)
  generalize x.d=d at q r1;split at q
  ·obtain⟨hz,q⟩:=q;refine⟨_,bD r1,hz,C,ρ1,_,I1,q,λy ρ2 w H2 q2 f2 s2 r2=> ?_⟩
   have r2':=r2.rep λa z=>I1.avF f2 z
   generalize y.d=d2 at q2 r2';split at q2
   ·obtain⟨hn,hz2,q2⟩:=q2;exact⟨_,aY r2',hn,hz2,k _ _ _ _ q2 (f.trans f2) (s.trans s2) v7⟩
   ·exact q2.elim
  ·exact q.elim⟩
def Its (x:Str):It where
 go:=λi H=>i<x.cps.size
 yld:=λi H v H'=>H'=H/\ ∃c,x.cps[i]? =some c/\v= .str ⟨#[c]⟩
 stop:=λi H=>i=x.cps.size
theorem wY {P:Program}{w:World}{K:Frag}{tg:Expr}{it:Addr}(x:Str)(t:Tok):vS P w K tg (Its x) [it] it (λi h=>h.IsStrIter it "str_ascii_iterator" x t i) where
 mem:=by simp
 obj:=λi h st b hb=>by
  have e:b=it:=by simpa using hb
  subst e;obtain⟨o,ho,_,hd⟩:=st;exact⟨o,ho,λv z=>by rw[hd]at z;cases z⟩
 keep:=λi h h' st k=>let ⟨o,ho,r⟩:=st;⟨o,k it (by simp) o ho,r⟩
 item:=by
  intro X hP hw hK hc i pins s σ H E I hf st hg;subst hP hw hK;obtain⟨f0,f1,f2,f3,f4,f5⟩:=hf it (by simp)
  have hi:i<x.cps.size:=hg;have hx:x.cps[i]? =some x.cps[i]:=by simp[hi]
  refine wpAny_pyNext_ascii_item st hx λh' hr m=> ?_
  have I1:Inv X pins σ H {s with heap:=h',toks:=s.toks+1}:=I.turned (λb o hb e=>m.extBut _ _ (by simpa using hb) e) f0 f1 f3 f4 f5
  obtain⟨o,ho,hoc,hod⟩:=id hr;exact⟨_,rfl,tV (s:={s with heap:=h',toks:=s.toks+1}) (n:="str_ascii_iterator") ho hoc hod (by decide) ⟨.str ⟨#[x.cps[i]]⟩,H,I1,⟨_,rfl⟩,⟨rfl,_,hx,rfl⟩,hr,λb hb=>(hf b hb).1⟩⟩
 done:=by
  intro X hP hw hK hc i pins s σ H E I hf st hg;subst hP hw hK;obtain⟨f0,f1,f2,f3,f4,f5⟩:=hf it (by simp)
  have hg':i=x.cps.size:=hg;subst hg';exact wpAny_pyNext_ascii_end (I.ok.hd hc) st (by simp) λh' eb=>⟨rfl,I.turned (t':=s.toks) (λb o hb e=>eb b o hb e) f0 f1 f3 f4 f5⟩
 self:=λ_ _ _ _ _ st h=>wpAny_pyIter_striter_ascii st h
theorem pi_str {l:Expr}{tl:TE}{tg:Expr}(hl:PE X l tl):PI X tg l (λσ H R=>tl σ H λx H1=> ∃z,x= .str z/\z.cps.all (· <128)=true/\R (Its z) H1):=by
 intro pins s σ H R I h;refine thn (hl pins s σ H _ I h) λv s1 ⟨x,H1,I1,r1,q1⟩=> ?_
 obtain⟨z,e,hz,q⟩:=q1;subst e;obtain⟨t,rfl⟩:=r1;refine wpAny_pyIter_ascii hz ?_;refine⟨s1.heap.objs.size,[s1.heap.objs.size],_,_,H1,rfl,I1.kept (t':=s1.toks) λb o e=>get?_push_of_some _ e,wY z t,⟨_,get?_push_size _ rfl,rfl,rfl⟩,λb hb=> ?_,q⟩
 have e:b=s1.heap.objs.size:=by simpa using hb
 subst e;exact I1.fpOk (le_refl _) (I1.hok.fresh (le_refl _))
theorem wZ (z:Str):wH K A H (Its z) z.cps.size (λi=> .str ⟨#[z.cps.toList.getD i 0]⟩):=by
 refine⟨λA' H' i P hi=>hi,λA' H' i x H'' P hA hi y=> ?_,λA' H' P=>rfl⟩
 obtain⟨rfl,c,e,rfl⟩:=y;refine⟨.refl _,?_⟩;have e2:z.cps.toList.getD i 0=c:=by
  rw[getD_eq_getElem?_getD,Array.getElem?_toList,e];rfl
 rw[e2];simp only[Rep]
def x3 (t:UE):UI:=λρ Q=>t ρ λb ρ1=>match b.d with
 | .str z=>z.cps.all (· <128)=true/\Q z.cps.size (λi=> .str ⟨#[z.cps.toList.getD i 0]⟩) ρ1
 | _=>False
theorem ui_str {tg:Expr}(h:PU X e te):PUI X tg e (x3 te):=wI (pi_str h) λσ H R ⟨C,ρ,Q0,I,h,k⟩=>⟨C,ρ,_,I,h,λb ρ1 v H1 q f s r=>by
 have rr:=r.rep λa z=>I.avF f z
 generalize b.d=d at q rr;split at q
 ·exact⟨_,bD rr,q.1,k _ _ ρ1 _ H1 q.2 f s (wZ _)⟩
 ·exact q.elim⟩
end
end M
end
section
open PySem L2 M
local macro_rules| `(tactic| walk_at "u")=> `(tactic| simp only[uRev,gRev,wT,gSlT,uChain,uPop,uRevT,gMulT,yS,uIsN,D.isN,gMaxL,kH,sA,yT,yU,wU,wW,pJ,wV,uSlS,gSlS,lD,mT,nP,lJ,kY,uFmt,x3,g1,v2,uLookE,uAppZ,gSort2,aS,cF,cY,uRetN,nW,eF,cB,uOp,uC,aG,u0,aV,wA,uV,uIx,gIx,j3,gE,aK,aE,aM,lC,v1,qS,j6,uNeg,eN,M.gSub,fP,yJ,nY,qT,gI2,m8,fA,isB,B.d,uAnd,uOr,kE,wC,uOrV,wD,dC,cU,uPar,uAug,uSl,iT,nM,gSl,gAbs,gMax,gMin,gToInt,gF,nN,qU,g1,g2,v2,uSetI,uIf,t8,gSum,uDrop,uAsg,rS,kR,rQ,kG,uRng2,uRngD,uRevR,uZip,uEnum,fN,yO,iA,mC,yP,bind_some,Option.bind_none,map_some,Option.map_none,Option.join,
 List.getElem?_cons_zero,List.getElem?_cons_succ,List.set_cons_zero,List.set_cons_succ,length_cons,List.length_nil,decide_eq_true_eq,false_xor,true_xor,Bool.not_eq_true',decide_eq_false_iff_not,if_true,if_false,reduceCtorEq])
namespace M
def iC:Φ:=λds Q=> ∃c k p:Int,ds=[.int c,.int k,.int p]/\0<=k/\k<4294967296/\0<p/\ ∀r:Int,0<=r->r<p->Q (.pu (.int r))
def o3:US:=(aS (cF 3 (uOp nY (uOp fP (uOp eN (uOp eN (uOp eN (aG 0) (uOp fP (uOp fP (uC (.int 7)) (aG 1)) (aG 1))) (uOp fP (uC (.int 13)) (aG 1))) (uC (.int 5))) (uC (.int 48271))) (uC (.int 2147483647)))) (aS (cF 3 (uOp nY (uOp fP (aG 3) (aG 3)) (uC (.int 2147483629)))) (cY (uOp nY (uOp fP (aG 3) (uC (.int 39373))) (aG 2)))))
theorem gI (i:Int){j:Int}(h:0<j):i.fmod j=i%j:=Int.fmod_eq_emod_of_nonneg i (Int.le_of_lt h)
theorem x4 (i:Int){j:Int}(h:0<j):i.fdiv j=i/j:=Int.fdiv_eq_ediv_of_nonneg i (Int.le_of_lt h)
theorem cmR {i j:Int}(h1: -18446744073709551616<j)(h2:j<18446744073709551616):sT i j\/(Sm i/\Sm j):= .inl (.inr ⟨h1,h2⟩)
theorem cmL {i j:Int}(h1: -18446744073709551616<i)(h2:i<18446744073709551616):sT i j\/(Sm i/\Sm j):= .inl (.inl ⟨h1,h2⟩)
theorem x5: ∀ds Q,iC ds Q->o3 {nx:=λ_=>Q (.pu .non),rt:=Q} (init ["c","k","p","f"] ds):=by
 rintro ds Q ⟨c,k,p,rfl,h0,h1,hp,h⟩;unfold o3;show(aS _ _:US) _ [some (.pu (.int c)),some (.pu (.int k)),some (.pu (.int p)),none];walk_at "u";rw[gI _ (by decide:(0:Int)<2147483647),gI _ (by decide:(0:Int)<2147483629),gI _ hp]
 refine⟨cmL (by decide) (by decide),cmR (by omega) (by omega),cmL (by decide) (by decide),cmR (by decide) (by decide),by decide,cmR (by omega) (by omega),by decide,cmR (by decide) (by decide),by omega,?_⟩
 exact h _ (emod_nonneg _ (by omega)) (emod_lt_of_pos _ hp)
theorem fB {ui:UI}{g:UG}{tb:US}{D:UD}{ρ:Ev}(n:Nat)(it:Nat->M.D)(ρ1:Ev)(hui: ∀Q:Nat->(Nat->M.D)->Ev->Prop,Q n it ρ1->ui ρ Q)(Pv:Nat->Ev->Prop)(h0:Pv 0 ρ1)
  (hs: ∀i ρ,i<n->Pv i ρ->g (.pu (it i)) ρ λρ2=>tb {D with nx:=Pv (i+1),ct:=Pv (i+1),bk:=D.nx} ρ2) (hd: ∀ρ,Pv n ρ->D.nx ρ):qR ui g tb D ρ:=hui _ ⟨Pv,h0,hs,hd⟩
theorem u8 {ws:List Int}{i:Nat}(h:i<ws.length):atI (ws.map D.int) (0+(i:Int))=some (.int ws[i]):=by
 rw[Int.zero_add];exact bF (by rw[getElem?_map,getElem?_eq_getElem h];rfl)
def Below (xs ws:List Int):Prop:=xs.length=ws.length/\ ∀(j:Nat) (x w:Int),xs[j]? =some x->ws[j]? =some w->0<=x/\x<w
theorem cpl {i j:Int}(h1:0<=j)(h2:j<=1000000)(h3:i.natAbs<2^64):xV i j:=⟨h1,h2,h3⟩
def dY:Φ:=λds Q=> ∃(c:Int) (ws:List Int) (p:Int),ds=[.int c,.lst (ws.map .int),.int p]/\ws.length<=1000/\0<p/\(∀w∈ws,0<w/\w<18446744073709551616)/\ ∀xs:List Int,Below xs ws->Q (.ow (xs.map .int))
def o4:US:=(aS (cF 3 (uC (.int 0))) (aS (eF (cB (uOp (m8 λi j=>decide (j<=i)) (aG 0) (uOp qT (uC (.int 10)) (uC (.int 18))))) (cF 3 (uOp M.gSub (aG 0) (uOp qT (uC (.int 10)) (uC (.int 18))))) cU) (aS (cF 4 (lC aM)) (aS (qR (kG (aE (j3 (aV 1)) aM)) (dC 5) (eF (cB (uOp (m8 λi j=>decide (j<i)) (aG 3) (uC (.int 1)))) (aS (qS 4 (uOp nY (aG 3) (uIx (aV 1) (aG 5)))) (cF 3 (uOp yJ (aG 3) (uIx (aV 1) (aG 5))))) (qS 4 (uOp nY (aK iC (aE (aG 0) (aE (aG 5) (aE (aG 2) aM)))) (uIx (aV 1) (aG 5)))))) (nW 4)))))
theorem sm64 {i:Int}(h1: -18446744073709551616<i)(h2:i<18446744073709551616):Sm i:=by
 unfold Sm;have h3:i.natAbs<18446744073709551616:=by omega
 exact lt_of_lt_of_le h3 (by decide +kernel)
theorem o5 {xs ws:List Int}{x:Int}(h: ∀(j:Nat) (x w:Int),xs[j]? =some x->ws[j]? =some w->0<=x/\x<w)(hl:xs.length<ws.length)(h0:0<=x)(h1:x<ws[xs.length]) :
  ∀(j:Nat) (y w:Int),(xs++[x])[j]? =some y->ws[j]? =some w->0<=y/\y<w:=by
 intro j y w e1 e2
 by_cases hj:j<xs.length
 ·rw[getElem?_append_left hj]at e1;exact h j y w e1 e2
 ·rw[getElem?_append_right (by lia)]at e1
  by_cases hj':j=xs.length
  ·subst hj';simp at e1;subst e1;rw[getElem?_eq_getElem hl]at e2;cases e2;exact⟨h0,h1⟩
  ·have:j-xs.length≠0:=by lia
   cases e:j-xs.length with
   | zero=>lia
   | succ n=>rw[e]at e1;simp at e1
theorem x6: ∀ds Q,dY ds Q->o4 {nx:=λ_=>Q (.pu .non),rt:=Q} (init ["c","w","p","l","f","k"] ds):=by
 rintro ds Q ⟨c,ws,p,rfl,cC,hp,hw,h⟩;unfold o4;have tail: ∀left:Int,(aS (cF 4 (lC aM)) (aS (qR (kG (aE (j3 (aV 1)) aM)) (dC 5) (eF (cB (uOp (m8 λi j=>decide (j<i)) (aG 3) (uC (.int 1)))) (aS (qS 4 (uOp nY (aG 3) (uIx (aV 1) (aG 5)))) (cF 3 (uOp yJ (aG 3) (uIx (aV 1) (aG 5))))) (qS 4 (uOp nY (aK iC (aE (aG 0) (aE (aG 5) (aE (aG 2) aM)))) (uIx (aV 1) (aG 5)))))) (nW 4)):US)
   {nx:=λ_=>Q (.pu .non),rt:=Q} [some (.pu (.int c)),some (.pu (.lst (ws.map .int))),some (.pu (.int p)),some (.pu (.int left)),none,none]:=by
  intro left;rw[aS];walk_at "u";refine⟨by decide,?_⟩
  refine fB ws.length (λi=> .int (0+i)) [some (.pu (.int c)),some (.pu (.lst (ws.map .int))),some (.pu (.int p)),some (.pu (.int left)),some (.ow []),none] ?_
   (λi ρ=> ∃(l:Int) (xs:List Int) (kk:Option B),ρ=[some (.pu (.int c)),some (.pu (.lst (ws.map .int))),some (.pu (.int p)),some (.pu (.int l)),some (.ow (xs.map .int)),kk]/\xs.length=i/\ ∀(j:Nat) (x w:Int),xs[j]? =some x->ws[j]? =some w->0<=x/\x<w)
   ⟨left,[],none,rfl,rfl,λj x w e=>by simp at e⟩ ?_ ?_
  ·intro Q q;simp only[kG];walk_at "u";rw[length_map];refine⟨⟨by lia,by lia⟩,?_⟩
   rw[toNat_natCast];exact q
  ·rintro i ρ hi ⟨l,xs,kk,rfl,hl,hb⟩;subst hl;obtain⟨w0,w1⟩:=hw _ (getElem_mem hi);walk_at "u";refine⟨by decide,?_⟩
   by_cases hc:1<l
   ·rw[if_pos hc];simp only[u8 hi];rw[gI _ w0,x4 _ w0];refine⟨by lia,?_,⟨by lia,sm64 (by lia) w1⟩,_,xs++[l%ws[xs.length]],_,by rw[map_append];rfl,by simp,o5 hb hi (emod_nonneg _ (by lia)) (emod_lt_of_pos _ w0)⟩
    rw[length_map];exact lt_of_lt_of_le hi (le_trans cC (by decide))
   ·rw[if_neg hc];refine⟨c,(0+(xs.length:Int)),p,rfl,by lia,by lia,hp,λr r0 r1=> ?_⟩
    simp only[u8 hi];rw[gI _ w0];refine⟨by lia,?_,l,xs++[r%ws[xs.length]],_,by rw[map_append];rfl,by simp,o5 hb hi (emod_nonneg _ (by lia)) (emod_lt_of_pos _ w0)⟩
    rw[length_map];exact lt_of_lt_of_le hi (le_trans cC (by decide))
  ·rintro ρ ⟨l,xs,kk,rfl,hl,hb⟩;walk_at "u";exact h xs ⟨hl,hb⟩
 show(aS _ _:US) _ [some (.pu (.int c)),some (.pu (.lst (ws.map .int))),some (.pu (.int p)),none,none,none]
 refine(show xV 10 18/\(if decide ((10:Int)^(18:Int).toNat<=c)=true then _ else _)from⟨cpl (by decide) (by decide) (by decide),?_⟩)
 split
 ·exact⟨cpl (by decide) (by decide) (by decide),tail _⟩
 ·exact tail _
theorem x9 {ys:List Int}{i:Nat}(h:i< (ys.map D.int).length): ∃z,(ys.map D.int).getD i .non= .int z:=by
 rw[length_map]at h;exact⟨ys[i],by rw[getD_eq_getElem?_getD,getElem?_map,getElem?_eq_getElem h];rfl⟩
def dL:Φ:=λds Q=> ∃(ns:List Int) (k:Int),ds=[.rol (ns.map .int),.int k]/\ns.length<=63/\0<=k/\k<4294967296/\ ∀r:Int,Q (.pu (.int r))
def r6:US:=(aS (eF (cB (uOp (fA false) (j3 (aV 0)) (uC (.int 0)))) (cY (uOp fP (uC (.int 7919)) (uOp eN (aG 1) (uC (.int 1))))) cU) (aS (eF (cB (uOp (m8 λi j=>decide (i<j)) (aG 1) (j3 (aV 0)))) (cY (uIx (aV 0) (aG 1))) cU) (cY (uOp eN (uIx (aV 0) (uOp nY (aG 1) (j3 (aV 0)))) (uOp fP (uC (.int 104729)) (aG 1))))))
theorem xA {ns:List Int}{k:Int}(h0:0<=k)(h1:k<ns.length): ∃z,atI (ns.map D.int) k=some (.int z):=by
 obtain⟨i,rfl⟩: ∃i:Nat,k=(i:Int):=⟨k.toNat,by lia⟩
 have hi:i<ns.length:=by lia
 exact⟨ns[i],bF (by rw[getElem?_map,getElem?_eq_getElem hi];rfl)⟩
theorem yW: ∀ds Q,dL ds Q->r6 {nx:=λ_=>Q (.pu .non),rt:=Q} (init ["s","k"] ds):=by
 rintro ds Q ⟨ns,k,rfl,hl,k0,k1,h⟩;unfold r6;show(aS _ _:US) _ [some (.pu (.rol (ns.map .int))),some (.pu (.int k))];walk_at "u";rw[length_map];split
 ·exact⟨cmL (by decide) (by decide),h _⟩
 ·split
  ·obtain⟨z,hz⟩:=xA (ns:=ns) k0 (by lia)
   rw[hz];exact h z
  ·refine⟨by lia,?_⟩
   rw[gI _ (by lia)]
   obtain⟨z,hz⟩:=xA (ns:=ns) (k:=k%ns.length) (emod_nonneg _ (by lia)) (emod_lt_of_pos _ (by lia))
   rw[hz];exact⟨cmL (by decide) (by decide),h _⟩
def gJ:Φ:=λds Q=> ∃i:Int,ds=[.int i]/\Q (.pu (.bl true))
def o6:US:=(cY (wC (aK qU (aE (aG 0) (aE (uC (.ty "int")) aM))) (wD (aK qU (aE (aG 0) (aE (uC (.ty "bool")) aM))))))
theorem xB: ∀ds Q,gJ ds Q->o6 {nx:=λ_=>Q (.pu .non),rt:=Q} (init ["f"] ds):=by
 rintro ds Q ⟨i,rfl,h⟩;unfold o6;show(cY _:US) _ [some (.pu (.int i))];walk_at "u"
 simpa using h
theorem bt_len:bootBuiltins "len"=some (.builtin "len"):=by decide +kernel
theorem bt_abs:bootBuiltins "abs"=some (.builtin "abs"):=by decide +kernel
theorem bt_max:bootBuiltins "max"=some (.builtin "max"):=by decide +kernel
theorem d5:bootBuiltins "isinstance"=some (.builtin "isinstance"):=by decide +kernel
theorem r8:bootBuiltins "int"=some (.type "int"):=by decide +kernel
theorem yX:bootBuiltins "bool"=some (.type "bool"):=by decide +kernel
theorem eR:bootBuiltins "tuple"=some (.type "tuple"):=by decide +kernel
theorem r9:bootBuiltins "list"=some (.type "list"):=by decide +kernel
theorem vB: ∀ds Q,iC ds Q->ds.length=3:=by rintro ds Q ⟨c,k,p,rfl,_⟩;rfl
theorem vC: ∀ds Q,dY ds Q->ds.length=3:=by rintro ds Q ⟨c,k,p,rfl,_⟩;rfl
theorem xC: ∀ds Q,dL ds Q->ds.length=2:=by rintro ds Q ⟨c,k,rfl,_⟩;rfl
theorem vD: ∀ds Q,gJ ds Q->ds.length=1:=by rintro ds Q ⟨i,rfl,_⟩;rfl
theorem yY: ∀ds Q,pE ds Q->ds.length=1:=by rintro ds Q ⟨i,rfl,_⟩;rfl
theorem eS (t:UE)(D:UD)(ρ:Ev):cY t D ρ=t ρ (λb _=>D.rt b):=rfl
theorem eT (φ:Φ)(t:UA)(ρ:Ev)(Q:B->Ev->Prop):aK φ t ρ Q=t ρ λds ρ1=>φ ds λb=>Q b ρ1:=rfl
theorem dD (t:UE)(u:UA)(ρ:Ev)(Q:List D->Ev->Prop):aE t u ρ Q=t ρ λx ρ1=>u ρ1 λxs ρ2=>Q (x.d::xs) ρ2:=rfl
theorem aI (t u:US)(D:UD)(ρ:Ev):aS t u D ρ=t {D with nx:=u D} ρ:=rfl
theorem yZ (i:Nat)(t:UE)(D:UD)(ρ:Ev):cF i t D ρ=t ρ λb ρ1=>D.nx (ρ1.set i (some b)):=rfl
theorem iD {js:List Nat}{cap:List (Option Nat)}{last t0:Nat}{ui:UI}{te:UE}{ρ:Ev}{Q:B->Ev->Prop}(n:Nat)(it:Nat->D)(ρ1:Ev)(hui: ∀Q:Nat->(Nat->D)->Ev->Prop,Q n it ρ1->ui ρ Q)(hn:n<=1000000)
  (G:Option B->List D->Ev) (x0:Option B) (h0:iA (mC ρ1 js) cap last=G x0 []) (h1: ∀x l b,(G x l).set t0 (some b)=G (some b) l) (h1': ∀x l,t0< (G x l).length) (h2: ∀x l (Q:List D->Prop),Q l->j6 (G x l) last Q) (h3: ∀x l l',(G x l).set last (some (.ow l'))=G x l')
  (f:Nat->D) (hte: ∀i l (Q':B->Ev->Prop),i<n->Q' (.pu (f i)) (G (some (.pu (it i))) l)->te (G (some (.pu (it i))) l) Q') (hq:Q (.ow ((range n).map f)) (mC ρ1 js)) :
  dX js cap last ui (dC t0) (λρ Q=>Q true ρ) te ρ Q:=by
 refine hui _ ⟨λi ρ'=> ∃x,ρ'=G x ((range i).map f),⟨x0,h0⟩,?_,?_⟩
 ·rintro i ρ' hi ⟨x,rfl⟩;refine⟨h1' _ _,?_⟩;rw[h1];dsimp only;rw[if_pos rfl];refine hte i _ _ hi (h2 _ _ _ ⟨?_,some (.pu (it i)),?_⟩)
  ·rw[length_map,List.length_range];exact lt_of_lt_of_le hi (le_trans hn (by decide))
  ·rw[h3,List.range_succ,map_append];rfl
 ·rintro ρ' ⟨x,rfl⟩;exact h2 _ _ _ hq
def eO (r:List Int):D:= .tup (r.map .int)
def gK (t:List (List Int)):D:= .tup (t.map eO)
theorem xD (l:List D)(i:Nat)(h:i<=l.length):cutD l (some (i:Int)) none=l.drop i:=by
 unfold cutD;rw[HT.sIx_none,HT.sIx_nat,Nat.min_eq_left h];rw[take_of_length_le (by rw[length_drop];exact le_refl _)]
theorem u9 (l:List D)(i n:Nat)(h:i+n<=l.length):cutD l (some (i:Int)) (some ((i+n:Nat):Int))=(l.drop i).take n:=by
 unfold cutD;rw[HT.sIx_nat,HT.sIx_nat,Nat.min_eq_left (show i<=l.length by lia),Nat.min_eq_left h]
 congr 1
 lia
theorem uA (t:UE)(ρ:Ev)(Q:Bool->Ev->Prop):cB t ρ Q=t ρ (isB Q):=rfl
theorem uB (c:UT)(t u:US)(E:UD)(ρ:Ev):eF c t u E ρ=c ρ λb ρ1=>if b=true then t E ρ1 else u E ρ1:=rfl
theorem z0 (t:UT)(ρ:Ev)(Q:Bool->Ev->Prop):kE t ρ Q=t ρ λc ρ1=>Q (!c) ρ1:=rfl
theorem sC (x y:Str)(o c0:Nat)(ho:y.cps.toList[o]? =some c0)(hpre: ∀j,j<o->y.cps.toList[j]? ≠some c0) :
  ∀(parts:List Str) (cuts:List Nat) (a f:Nat),parts≠[]->(∀p∈parts,c0 ∉ p.cps.toList)->x.cps.toList.drop a=(Str.join y parts).cps.toList->a<=x.length->
   PySem.StrLaws.ChainG x y x.length a cuts f->(∀k,f<=k-> ¬PySem.StrLaws.At x y x.length k)->PySem.StrLaws.partsFrom x y.length a cuts=parts:=by
 have cC: ∀z:Str,z.cps.toList.length=z.length:=λz=>by simp[Str.length]
 have at_c: ∀k,PySem.StrLaws.At x y x.length k->x.cps.toList[k+o]? =some c0:=λk hA=>by
  have h2:=hA.2;rw[PySem.StrLaws.subAt_eq]at h2;have e:=eq_of_beq h2;have hoy:=(List.getElem?_eq_some_iff.mp ho).1;rw[cC]at hoy;rw[<-e,List.getElem?_take_of_lt hoy,getElem?_drop]at ho;exact ho
 intro parts
 induction parts with
 | nil=>intro cuts a f h;exact absurd rfl h
 | cons p r ih=>
  intro cuts a f _ hp hx ha hG hn;have hxa: ∀j,x.cps.toList[a+j]? =(Str.join y (p::r)).cps.toList[j]? :=λj=>by rw[<-hx,getElem?_drop]
  have hpc: ∀j,j<p.length->x.cps.toList[a+j]? ≠some c0:=λj hj z=>by
   rw[hxa]at z;have:(Str.join y (p::r)).cps.toList[j]? =p.cps.toList[j]? :=by
    cases r with
    | nil=>rfl
    | cons q r'=>
     show(p++y++Str.join y (q::r')).cps.toList[j]? =_
     rw[Str.cps_append,Str.cps_append,toList_append,toList_append,append_assoc,getElem?_append_left (by rw[cC];exact hj)]
   rw[this]at z;exact hp p (mem_cons_self ..) (List.mem_of_getElem? z)
  cases r with
  | nil=>
   have hxp:x.cps.toList.drop a=p.cps.toList:=hx;have hl:x.length-a=p.length:=by
    have:=congrArg length hxp;rw[length_drop,cC,cC]at this;exact this
   have none': ∀k,a<=k-> ¬PySem.StrLaws.At x y x.length k:=λk hk hA=>by
    have h1:=at_c k hA;have h2:=(List.getElem?_eq_some_iff.mp h1).1;rw[cC]at h2;have e:k+o=a+(k+o-a):=by omega
    rw[e]at h1;exact hpc _ (by omega) h1
   cases cuts with
   | nil=>
    show [Builtin.Str.strSub x a x.length]=[p]
    congr 1
    apply Str.ext'
    apply Array.toList_inj.mp
    rw[PySem.StrLaws.strSub_toList,hxp,take_of_length_le];rw[cC];omega
   | cons c cs=>exact absurd hG.2.1 (none' c hG.1)
  | cons q r'=>
   have hxp:x.cps.toList.drop a=p.cps.toList++(y.cps.toList++(Str.join y (q::r')).cps.toList):=by
    rw[hx];show(p++y++Str.join y (q::r')).cps.toList=_;rw[Str.cps_append,Str.cps_append,toList_append,toList_append,append_assoc]
   have htot:x.length-a=p.length+(y.length+(Str.join y (q::r')).length):=by
    have:=congrArg length hxp;rw[length_drop,length_append,length_append,cC,cC,cC,cC]at this;exact this
   have hAt:PySem.StrLaws.At x y x.length (a+p.length):=by
    refine⟨by omega,?_⟩
    rw[PySem.StrLaws.subAt_eq];rw[beq_iff_eq,<-drop_drop,hxp,List.drop_left' (cC p),List.take_left' (cC y)]
   have none': ∀k,a<=k->k<a+p.length-> ¬PySem.StrLaws.At x y x.length k:=λk hk1 hk2 hA=>by
    have h1:=at_c k hA
    by_cases hc:k+o<a+p.length
    ·have e:k+o=a+(k+o-a):=by omega
     rw[e]at h1;exact hpc _ (by omega) h1
    ·have e:k+o=a+(p.length+(k+o-a-p.length)):=by omega
     rw[e,<-getElem?_drop,hxp,getElem?_append_right (by rw[cC];omega),cC,Nat.add_sub_cancel_left]at h1
     have hoy:=(List.getElem?_eq_some_iff.mp ho).1;rw[getElem?_append_left (by omega)]at h1
     exact hpre _ (by omega) h1
   cases cuts with
   | nil=>
    have e:f=a:=hG;subst e;exact absurd hAt (hn _ (by omega))
   | cons c cs=>
    obtain⟨g1,g2,g3,g4⟩:=hG;have ec:c=a+p.length:=by
     by_cases h:c<a+p.length
     ·exact absurd g2 (none' c g1 h)
     ·by_cases h':c=a+p.length
      ·exact h'
      ·exact absurd hAt (g3 _ (by omega) (by omega))
    subst ec;show Builtin.Str.strSub x a (a+p.length)::PySem.StrLaws.partsFrom x y.length (a+p.length+y.length) cs=p::q::r'
    congr 1
    ·apply Str.ext'
     apply Array.toList_inj.mp
     rw[PySem.StrLaws.strSub_toList,hxp,Nat.add_sub_cancel_left,List.take_left' (cC p)]
    ·refine ih cs _ f (by simp) (λz hz=>hp z (mem_cons_of_mem _ hz)) ?_ (by omega) g4 hn
     rw[<-drop_drop,<-drop_drop,hxp,List.drop_left' (cC p),List.drop_left' (cC y)]
theorem cC (z:Str):z.cps.toList.length=z.length:=by simp[Str.length]
theorem iO {y:Str}{parts:List Str}(o c0:Nat)(ho:y.cps.toList[o]? =some c0)(hpre: ∀j,j<o->y.cps.toList[j]? ≠some c0)(hk:y.cps.all (· <256)=true)
  (h0:parts≠[]) (hp: ∀p∈parts,c0 ∉ p.cps.toList):Txt.split (Txt.join y parts) y=parts:=by
 have ej:Txt.join y parts=Str.join y parts:=PySem.StrLaws.glued_eq_join y parts;rw[ej];have hy:1<=y.length:=by
  have:=(List.getElem?_eq_some_iff.mp ho).1;rw[cC]at this;omega
 obtain⟨f,hG,hn⟩:=PySem.StrLaws.occ_tight (Str.join y parts) y hy;have key:=sC (Str.join y parts) y o c0 ho hpre parts _ 0 f h0 hp (by simp) (zero_le _) hG hn
 have one:parts.length=1->[Str.join y parts]=parts:=λh1=>by
  match parts,h1 with
  | [p],_=>rfl
 unfold Txt.split;split
 ·rename_i hc
  refine one ?_
  rw[Bool.or_eq_true,decide_eq_true_eq,decide_eq_true_eq]at hc
  match parts,h0 with
  | [p],_=>rfl
  | p::q::r,_=>
   exfalso
   rcases hc with hc|hc
   ·have:(Str.join y (p::q::r)).length=p.length+y.length+(Str.join y (q::r)).length:=by
     show(p++y++Str.join y (q::r)).length=_
     rw[strLen_append,strLen_append]
    omega
   ·unfold Builtin.Str.strKind at hc;rw[if_pos hk]at hc;split at hc
    ·omega
    ·split at hc<;>omega
 ·split
  ·rename_i hc he
   rw[List.isEmpty_iff.mp he]at key;refine Eq.trans ?_ key;show [_]=[Builtin.Str.strSub _ 0 _];rw[PySem.StrLaws.sub_whole]
  ·rw[PySem.StrLaws.partsBetween_eq];exact key
def tx (i:Int):Str:=Str.ofString (toString i)
theorem uD: ∀(k m:Nat),m<10^(k+1)->(toDigits 10 m).length<=k+1
 | 0,m,h=>by rw[Nat.toDigits_of_lt_base (by simpa using h)];exact le_refl _
 | k+1,m,h=>by
  by_cases h1:m<10
  ·rw[Nat.toDigits_of_lt_base h1];simp
  ·have hm:m%10<10:=mod_lt m (by decide)
   have t:toDigits 10 (m/10)++toDigits 10 (m%10)=toDigits 10 (10*(m/10)+m%10):=Nat.toDigits_append_toDigits (by decide) (by omega) hm
   rw[Nat.div_add_mod]at t;rw[<-t,length_append,Nat.toDigits_of_lt_base hm];have:=uD k (m/10) (by rw[Nat.pow_succ]at h;omega)
   simp only[length_cons,List.length_nil];omega
theorem o7 (m:Nat)(h0:0<m): ∃c r,(toDigits 10 m).map Char.toNat=c::r/\c≠48:=by
 induction m using Nat.strongRecOn with
 | _ m ih=>
  by_cases h1:m<10
  ·rw[Nat.toDigits_of_lt_base h1];refine⟨_,_,rfl,?_⟩;have: ∀d:Nat,d<10->0<d->(Nat.digitChar d).toNat≠48:=by decide
   exact this m h1 h0
  ·have hm:m%10<10:=mod_lt m (by decide)
   have t:toDigits 10 (m/10)++toDigits 10 (m%10)=toDigits 10 (10*(m/10)+m%10):=Nat.toDigits_append_toDigits (by decide) (by omega) hm
   rw[Nat.div_add_mod]at t;obtain⟨c,r,e,hc⟩:=ih (m/10) (by omega) (by omega)
   rw[<-t,map_append,e];exact⟨c,_,rfl,hc⟩
theorem kA (m:Nat): ∀c∈(toDigits 10 m).map Char.toNat,48<=c/\c<=57:=by
 intro c hc;obtain⟨ch,hch,e⟩:=List.mem_map.mp hc;have r:=PyProof.Rows.digit_range (Nat.isDigit_of_mem_toDigits (by decide) (by decide) hch)
 rw[<-e];exact r
theorem tx_nat (m:Nat):(tx (m:Int)).cps.toList=(toDigits 10 m).map Char.toNat:=PySem.W.KIN.signs_num m
theorem tx_neg (m:Nat)(h0:0<m):(tx (-(m:Int))).cps.toList=45::(toDigits 10 m).map Char.toNat:=by
 obtain⟨n,rfl⟩: ∃n,m=n+1:=⟨m-1,by omega⟩
 show(Str.ofString (toString (Int.negSucc n))).cps.toList=_
 rw[PyProof.Rows.signs_ofString];show(("-"++Nat.repr (n+1)):String).toList.map Char.toNat=_;rw[String.toList_append,map_append,Nat.toList_repr];rfl
def N60 (n:Int):Prop:=n.natAbs<10^60
theorem N60.log {n:Int}(h:N60 n):n.natAbs.log2<1920:=by
 by_cases z:n.natAbs=0
 ·rw[z];decide
 ·exact(Nat.log2_lt z).mpr (lt_of_lt_of_le h (by decide +kernel))
theorem lL (n:Int)(h:N60 n):(∃m:Nat,n=(m:Int)/\m<10^60/\(tx n).cps.toList=(toDigits 10 m).map Char.toNat)\/(∃m:Nat,n= -(m:Int)/\0<m/\m<10^60/\(tx n).cps.toList=45::(toDigits 10 m).map Char.toNat):=by
 unfold N60 at h
 by_cases h0:0<=n
 ·obtain⟨m,rfl⟩:=Int.eq_ofNat_of_zero_le h0;exact .inl ⟨m,rfl,by omega,tx_nat m⟩
 ·obtain⟨m,rfl⟩: ∃m:Nat,n= -(m:Int):=⟨n.natAbs,by omega⟩
  exact .inr ⟨m,rfl,by omega,by omega,tx_neg m (by omega)⟩
theorem uE {m:Nat}(h:m<10^60):((toDigits 10 m).map Char.toNat).length<=60:=by
 rw[length_map];exact uD 59 m h
theorem xE (m:Nat):(toDigits 10 m).map Char.toNat≠[]:=by
 intro e
 by_cases h0:0<m
 ·obtain⟨c,r,h,_⟩:=o7 m h0;rw[h]at e;cases e
 ·have:m=0:=by omega
  subst this;exact absurd e (by decide)
theorem iP {n:Int}(h:N60 n):(tx n).length<=61:=by
 rw[<-cC];rcases lL n h with⟨m,_,hm,e⟩| ⟨m,_,_,hm,e⟩
 ·rw[e];have:=uE hm;omega
 ·rw[e,length_cons];have:=uE hm;omega
theorem lM {n:Int}(h:N60 n): ∀c∈(tx n).cps.toList,c=45\/(48<=c/\c<=57):=by
 intro c hc;rcases lL n h with⟨m,_,hm,e⟩| ⟨m,_,_,hm,e⟩
 ·rw[e]at hc;exact .inr (kA m c hc)
 ·rw[e]at hc;rcases List.mem_cons.mp hc with rfl|hc
  ·exact .inl rfl
  ·exact .inr (kA m c hc)
theorem tH {n:Int}(h:N60 n):intText? (tx n)=some n:=by
 have hl:=iP h;rcases lL n h with⟨m,en,hm,e⟩| ⟨m,en,_,hm,e⟩
 ·have r:=intText_digits (x:=tx n) (by rw[e];exact kA m) (by rw[e];exact xE m) (by omega)
  rw[e,PySem.W.KIN.val_back]at r;rw[r,en]
 ·have r:=intText_neg (x:=tx n) e (kA m) (xE m) (by omega)
  rw[PySem.W.KIN.val_back]at r;rw[r,en]
theorem nQ (g:D->List D->(B->Prop)->Prop)(to:UE)(t:UA)(ρ:Ev)(Q:B->Ev->Prop):lD g to t ρ Q=to ρ λx ρ1=>mT x.d/\t ρ1 λds ρ2=>g x.d ds λb=>Q b ρ2:=rfl
theorem fE {α:Type}{L:List α}{g:α->D}{i:Nat}(h:i<L.length):(L.map g).getD i .non=g L[i]:=by
 rw[getD_eq_getElem?_getD,getElem?_map,getElem?_eq_getElem h];rfl
theorem tI {α:Type}(L:List α)(g:α->D):(range L.length).map (λi=>(L.map g).getD i .non)=L.map g:=by
 apply List.ext_getElem?
 intro i;rw[getElem?_map,getElem?_map]
 by_cases h:i<L.length
 ·rw[List.getElem?_range h,getElem?_eq_getElem h,map_some,map_some,fE h]
 ·rw[List.getElem?_eq_none (by simpa using h),List.getElem?_eq_none (by omega)];rfl
theorem dZ {α:Type}{js:List Nat}{ui:UI}{te:UE}{ρ:Ev}{Q:B->Ev->Prop}(L:List α)(din dout:α->D)(ρ1:Ev)(hui: ∀Q:Nat->(Nat->D)->Ev->Prop,Q (L.map din).length (λi=>(L.map din).getD i .non) ρ1->ui ρ Q)(hn:L.length<=1000000)
  (hte: ∀a∈L,∀(l:List D) (Q':B->Ev->Prop),Q' (.pu (dout a)) [some (.pu (din a)),some (.ow l)]->te [some (.pu (din a)),some (.ow l)] Q') (hq:Q (.ow (L.map dout)) (mC ρ1 js)) :
  dX js [none,none] 1 ui (dC 0) (λρ Q=>Q true ρ) te ρ Q:=by
 refine iD (t0:=0) (L.map din).length (λi=>(L.map din).getD i .non) ρ1 hui (by rw[length_map];exact hn) (λx l=>[x,some (.ow l)]) none rfl (λ_ _ _=>rfl) (λ_ _=>zero_lt_succ _) (λ_ _ _ q=>q) (λ_ _ _=>rfl) (λi=>(L.map dout).getD i .non) ?_ ?_
 ·intro i l Q' hi q;rw[length_map]at hi;rw[fE hi]at q⊢;rw[fE hi]at q;exact hte _ (getElem_mem hi) l Q' q
 ·rw[length_map,tI];exact hq
theorem sD {α:Type}{js:List Nat}{ui:UI}{te:UE}{ρ:Ev}{Q:B->Ev->Prop}(L:List α)(d1 d2 dout:α->D)(ρ1:Ev)(hui: ∀Q:Nat->(Nat->D)->Ev->Prop,Q (L.map λa=>D.tup [d1 a,d2 a]).length (λi=>(L.map λa=>D.tup [d1 a,d2 a]).getD i .non) ρ1->ui ρ Q)(hn:L.length<=1000000)
  (hte: ∀a∈L,∀(l:List D) (Q':B->Ev->Prop),Q' (.pu (dout a)) [some (.pu (d1 a)),some (.pu (d2 a)),some (.ow l)]->te [some (.pu (d1 a)),some (.pu (d2 a)),some (.ow l)] Q') (hq:Q (.ow (L.map dout)) (mC ρ1 js)) :
  dX js [none,none,none] 2 ui (rS (kR 0 (kR 1 rQ))) (λρ Q=>Q true ρ) te ρ Q:=by
 refine hui _ ⟨λi ρ'=> ∃x y,ρ'=[x,y,some (.ow ((L.map dout).take i))],⟨none,none,rfl⟩,?_,?_⟩
 ·rintro i ρ' hi ⟨x,y,rfl⟩;rw[length_map]at hi;dsimp only;rw[fE hi];refine⟨zero_lt_succ _,Nat.succ_lt_succ (zero_lt_succ _),rfl,?_⟩;show(if true=true then te [some (.pu (d1 L[i])),some (.pu (d2 L[i])),some (.ow ((L.map dout).take i))] _ else _);rw[if_pos rfl];refine hte _ (getElem_mem hi) _ _ ?_;have hz:((L.map dout).take i).length<sizeLine:=by
   rw[length_take];exact Nat.lt_of_le_of_lt (show _<=1000000 by omega) (by decide)
  refine⟨?_,some (.pu (d1 L[i])),some (.pu (d2 L[i])),?_⟩
  ·exact hz
  ·show [some (B.pu (d1 L[i])),some (B.pu (d2 L[i])),some (B.ow ((L.map dout).take i++[dout L[i]]))]=[some (B.pu (d1 L[i])),some (B.pu (d2 L[i])),some (B.ow ((L.map dout).take (i+1)))]
   rw[List.take_succ,getElem?_map,getElem?_eq_getElem hi];rfl
 ·rintro ρ' ⟨x,y,rfl⟩;rw[length_map,take_of_length_le (by rw[length_map];exact le_refl _)]
  exact hq
theorem at0 {d:D}{l:List D}:atI (d::l) 0=some d:=bF (j:=0) rfl
theorem at1 {d e:D}{l:List D}:atI (d::e::l) 1=some e:=bF (j:=1) rfl
def kF (ns:List Int):Str:=Txt.join " " (ns.map tx)
def j4 (t:List (List Int)):Str:=Txt.join " / " (t.map kF)
abbrev gL:=List (List Int)×Int
def eG (p:gL):Str:=j4 p.1++" ^ "++tx p.2
def iQ (ps:List gL):Str:=match ps with
 | []=>"one"
 | _=>Txt.join " * " (ps.map eG)
def cZ (p:gL):D:= .tup [gK p.1,.int p.2]
structure lN (ns:List Int):Prop where
 few:ns.length<=100
 n60: ∀n∈ns,N60 n
structure lP (t:List (List Int)):Prop where
 few:t.length<=20
 rows: ∀r∈t,lN r
structure jE (p:gL):Prop where
 tab:lP p.1
 n60:N60 p.2
theorem o8 {y:Str}{B:Nat}: ∀ts:List Str,(∀t∈ts,t.length<=B)->(Txt.join y ts).length<=ts.length*(B+y.length):=by
 intro ts h;have ej:Txt.join y ts=Str.join y ts:=PySem.StrLaws.glued_eq_join y ts;rw[ej];clear ej
 induction ts with
 | nil=>exact zero_le _
 | cons t r ih=>
  have h1:=h t (mem_cons_self ..);have h2:=ih λz hz=>h z (mem_cons_of_mem _ hz)
  rw[length_cons,Nat.succ_mul];cases r with
  | nil=>exact le_trans h1 (by simp)
  | cons q r'=>
   show(t++y++Str.join y (q::r')).length<=_
   rw[strLen_append,strLen_append];omega
theorem sE {y:Str}{c:Nat}: ∀ts:List Str,c∈(Txt.join y ts).cps.toList->c∈y.cps.toList\/ ∃t∈ts,c∈t.cps.toList:=by
 intro ts h;have ej:Txt.join y ts=Str.join y ts:=PySem.StrLaws.glued_eq_join y ts;rw[ej]at h;clear ej
 induction ts with
 | nil=>exact absurd h (by simp[Str.join,Str.empty])
 | cons t r ih=>
  cases r with
  | nil=>exact .inr ⟨t,mem_cons_self ..,h⟩
  | cons q r'=>
   have h':c∈(t++y++Str.join y (q::r')).cps.toList:=h;rw[Str.cps_append,Str.cps_append,toList_append,toList_append,mem_append,mem_append]at h';rcases h' with(h'|h')|h'
   ·exact .inr ⟨t,mem_cons_self ..,h'⟩
   ·exact .inl h'
   ·rcases ih h' with h2| ⟨z,hz,h2⟩
    ·exact .inl h2
    ·exact .inr ⟨z,mem_cons_of_mem _ hz,h2⟩
theorem lN.len {ns:List Int}(h:lN ns):(kF ns).length<=6200:=by
 refine le_trans (o8 (B:=61) _ λt ht=> ?_) ?_
 ·obtain⟨n,hn,rfl⟩:=List.mem_map.mp ht;exact iP (h.n60 n hn)
 ·rw[length_map];exact mul_le_mul h.few (show 61+(" ":Str).length<=62 by decide)
theorem lP.len {t:List (List Int)}(h:lP t):(j4 t).length<=124060:=by
 refine le_trans (o8 (B:=6200) _ λt ht=> ?_) ?_
 ·obtain⟨n,hn,rfl⟩:=List.mem_map.mp ht;exact(h.rows n hn).len
 ·rw[length_map];exact mul_le_mul h.few (show 6200+(" / ":Str).length<=6203 by decide)
theorem jE.len {p:gL}(h:jE p):(eG p).length<=124124:=by
 unfold eG;rw[strLen_append,strLen_append];have h1:=h.tab.len;have h2:=iP h.n60;have h3:(" ^ ":Str).length=3:=by decide
 omega
theorem lN.signs {ns:List Int}(h:lN ns): ∀c∈(kF ns).cps.toList,c=32\/c=45\/(48<=c/\c<=57):=by
 intro c hc;rcases sE _ hc with h1| ⟨t,ht,h1⟩
 ·have e:(" ":Str).cps.toList=[32]:=by decide
  rw[e]at h1;exact .inl (by simpa using h1)
 ·obtain⟨n,hn,rfl⟩:=List.mem_map.mp ht;exact .inr (lM (h.n60 n hn) c h1)
theorem lP.signs {t:List (List Int)}(h:lP t): ∀c∈(j4 t).cps.toList,c=47\/c=32\/c=45\/(48<=c/\c<=57):=by
 intro c hc;rcases sE _ hc with h1| ⟨t,ht,h1⟩
 ·have e:(" / ":Str).cps.toList=[32,47,32]:=by decide
  rw[e]at h1;simp at h1;omega
 ·obtain⟨n,hn,rfl⟩:=List.mem_map.mp ht;exact .inr ((h.rows n hn).signs c h1)
theorem jE.signs {p:gL}(h:jE p): ∀c∈(eG p).cps.toList,c=94\/c=47\/c=32\/c=45\/(48<=c/\c<=57):=by
 intro c hc;unfold eG at hc;rw[Str.cps_append,Str.cps_append,toList_append,toList_append,mem_append,mem_append]at hc;rcases hc with(h1|h1)|h1
 ·exact .inr (h.tab.signs c h1)
 ·have e:(" ^ ":Str).cps.toList=[32,94,32]:=by decide
  rw[e]at h1;simp at h1;omega
 ·have:=lM h.n60 c h1;omega
theorem pre0 {y:Str}{c:Nat}(h:y.cps.toList[0]? ≠some c): ∀j,j<1->y.cps.toList[j]? ≠some c:=λj hj=>by
 have e:j=0:=by omega
 rw[e];exact h
theorem vE {ns:List Int}(h:lN ns)(h0:ns≠[]):Txt.split (kF ns) " "=ns.map tx:=by
 refine iO 0 32 (by decide) (λj hj=>absurd hj (Nat.not_lt_zero _)) (by decide +kernel) (by simpa using h0) λp hp hc=> ?_
 obtain⟨n,hn,rfl⟩:=List.mem_map.mp hp;have:=lM (h.n60 n hn) _ hc;omega
theorem vF {t:List (List Int)}(h:lP t)(h0:t≠[]):Txt.split (j4 t) " / "=t.map kF:=by
 refine iO 1 47 (by decide) (pre0 (by decide)) (by decide +kernel) (by simpa using h0) λp hp hc=> ?_
 obtain⟨n,hn,rfl⟩:=List.mem_map.mp hp;have:=(h.rows n hn).signs _ hc;omega
theorem lQ {ps:List gL}(h: ∀p∈ps,jE p)(h0:ps≠[]):Txt.split (Txt.join " * " (ps.map eG)) " * "=ps.map eG:=by
 refine iO 1 42 (by decide) (pre0 (by decide)) (by decide +kernel) (by simpa using h0) λp hp hc=> ?_
 obtain⟨n,hn,rfl⟩:=List.mem_map.mp hp;have:=(h n hn).signs _ hc;omega
theorem tJ {p:gL}(h:jE p):Txt.split (eG p) " ^ "=[j4 p.1,tx p.2]:=by
 have e:eG p=Txt.join " ^ " [j4 p.1,tx p.2]:=by
  rw[show Txt.join " ^ " [j4 p.1,tx p.2]=Str.join " ^ " [j4 p.1,tx p.2]from PySem.StrLaws.glued_eq_join _ _]
  rfl
 rw[e];refine iO 1 94 (by decide) (pre0 (by decide)) (by decide +kernel) (by simp) λq hq hc=> ?_
 simp only[mem_cons,not_mem_nil,or_false]at hq;rcases hq with rfl|rfl
 ·have:=h.tab.signs _ hc;omega
 ·have:=lM h.n60 _ hc;omega
theorem tK {y:Str}{ts:List Str}{B:Nat}(hB: ∀t∈ts,t.length<=B)(h:ts.length*B+ts.length*y.length<=16777216):JoinOk y ts=true:=by
 unfold JoinOk;rw[PySem.StrLaws.joinFits hB h];rfl
def dG:Φ:=λds Q=> ∃ns:List Int,ds=[eO ns]/\lN ns/\Q (.pu (.str (kF ns)))
def jF:US:=(cY (lD lJ (uC (.str " ")) (aE (dX [] [none,none] 1 (fN (aG 0)) (dC 0) (λρ Q=>Q true ρ) (aK wU (aE (aG 0) aM))) aM)))
theorem lR: ∀ds Q,dG ds Q->ds.length=1:=by rintro ds Q ⟨ns,rfl,_⟩;rfl
theorem mU: ∀ds Q,dG ds Q->jF {nx:=λ_=>Q (.pu .non),rt:=Q} (init ["r"] ds):=by
 rintro ds Q ⟨ns,rfl,ok,h⟩;unfold jF;show(cY _:US) _ [some (.pu (eO ns))];rw[eS,nQ];refine(show mT (D.str " ")/\_ from⟨trivial,?_⟩)
 rw[dD];refine dZ ns D.int (λn=> .str (tx n)) [some (.pu (eO ns))] ?_ (le_trans ok.few (by decide)) ?_ ?_
 ·intro Q' q;simp only[eO];walk_at "u";exact q
 ·intro n hn l Q' q;walk_at "u";exact⟨(ok.n60 n hn).log,q⟩
 ·refine⟨ns.map tx,by rw[map_map];rfl,tK (B:=61) (λt ht=> ?_) ?_,h⟩
  ·obtain⟨n,hn,rfl⟩:=List.mem_map.mp ht;exact iP (ok.n60 n hn)
  ·rw[length_map,show(" ":Str).length=1 by decide]
   have:=ok.few;omega
abbrev cQ:Φ:=dG
def jG:US:=(cY (lD lJ (uC (.str " ")) (aE (dX [] [none,none] 1 (fN (aG 0)) (dC 0) (λρ Q=>Q true ρ) (aK wU (aE (aG 0) aM))) aM)))
theorem n6: ∀ds Q,cQ ds Q->ds.length=1:=lR
theorem o9: ∀ds Q,cQ ds Q->jG {nx:=λ_=>Q (.pu .non),rt:=Q} (init ["r"] ds):=mU
def bL:Φ:=λds Q=> ∃t:List (List Int),ds=[gK t]/\lP t/\Q (.pu (.str (j4 t)))
def hR:US:=(cY (lD lJ (uC (.str " / ")) (aE (dX [] [none,none] 1 (fN (aG 0)) (dC 0) (λρ Q=>Q true ρ) (aK dG (aE (aG 0) aM))) aM)))
theorem jH: ∀ds Q,bL ds Q->ds.length=1:=by rintro ds Q ⟨ns,rfl,_⟩;rfl
theorem kI: ∀ds Q,bL ds Q->hR {nx:=λ_=>Q (.pu .non),rt:=Q} (init ["r"] ds):=by
 rintro ds Q ⟨t,rfl,ok,h⟩;unfold hR;show(cY _:US) _ [some (.pu (gK t))];rw[eS,nQ];refine(show mT (D.str " / ")/\_ from⟨trivial,?_⟩)
 rw[dD];refine dZ t eO (λr=> .str (kF r)) [some (.pu (gK t))] ?_ (le_trans ok.few (by decide)) ?_ ?_
 ·intro Q' q;simp only[gK];walk_at "u";exact q
 ·intro r hr l Q' q;walk_at "u";exact⟨r,rfl,ok.rows r hr,q⟩
 ·refine⟨t.map kF,by rw[map_map];rfl,tK (B:=6200) (λt ht=> ?_) ?_,h⟩
  ·obtain⟨n,hn,rfl⟩:=List.mem_map.mp ht;exact(ok.rows n hn).len
  ·rw[length_map,show(" / ":Str).length=3 by decide]
   have:=ok.few;omega
abbrev bB:Φ:=bL
def iE:US:=(cY (lD lJ (uC (.str " / ")) (aE (dX [] [none,none] 1 (fN (aG 0)) (dC 0) (λρ Q=>Q true ρ) (aK cQ (aE (aG 0) aM))) aM)))
theorem lU: ∀ds Q,bB ds Q->ds.length=1:=jH
theorem mF: ∀ds Q,bB ds Q->iE {nx:=λ_=>Q (.pu .non),rt:=Q} (init ["r"] ds):=kI
structure kB (ps:List gL):Prop where
 few:ps.length<=20
 parts: ∀p∈ps,jE p
theorem kB.join {ps:List gL}(ok:kB ps):JoinOk " * " (ps.map eG)=true:=by
 refine tK (B:=124124) (λt ht=> ?_) ?_
 ·obtain⟨n,hn,rfl⟩:=List.mem_map.mp ht;exact(ok.parts n hn).len
 ·rw[length_map,show(" * ":Str).length=3 by decide]
  have:=ok.few;omega
def d6:Φ:=λds Q=> ∃ps:List gL,ds=[.lst (ps.map cZ)]/\kB ps/\Q (.pu (.str (iQ ps)))
def jI:US:=(cY (lD lJ (uC (.str " * ")) (aE (dX [] [none,none] 1 (fN (aG 0)) (dC 0) (λρ Q=>Q true ρ) (uOp sA (uOp sA (aK bL (aE (uIx (aV 0) (uC (.int 0))) aM)) (uC (.str " ^ "))) (aK wU (aE (uIx (aV 0) (uC (.int 1))) aM)))) aM)))
def hU:US:=(aS (eF (cB (uOp (fA false) (j3 (aV 0)) (uC (.int 0)))) (cY (uC (.str "one"))) cU) jI)
theorem jJ: ∀ds Q,d6 ds Q->ds.length=1:=by rintro ds Q ⟨ns,rfl,_⟩;rfl
theorem oU: ∀ds Q,d6 ds Q->hU {nx:=λ_=>Q (.pu .non),rt:=Q} (init ["r"] ds):=by
 rintro ds Q ⟨ps,rfl,ok,h⟩;unfold hU;show(aS _ _:US) _ [some (.pu (.lst (ps.map cZ)))];rw[aI];walk_at "u";rw[length_map];cases ps with
 | nil=>exact h
 | cons p0 ps0=>
  rw[if_neg (by rw[length_cons];omega)]
  unfold jI;rw[eS,nQ];refine(show mT (D.str " * ")/\_ from⟨trivial,?_⟩)
  rw[dD];refine dZ (p0::ps0) cZ (λr=> .str (eG r)) [some (.pu (.lst ((p0::ps0).map cZ)))] ?_ (le_trans ok.few (by decide)) ?_ ?_
  ·intro Q' q;walk_at "u";exact q
  ·intro r hr l Q' q;have o:=ok.parts r hr;simp only[cZ]at q⊢;have h1:=o.tab.len;have h2:=iP o.n60;have h3:(" ^ ":Str).length=3:=by decide
   have hs:sizeLine=16777216:=by decide
   walk_at "u"
   simp only[at0,at1];refine⟨r.1,rfl,o.tab,by rw[h3];omega,o.n60.log,?_,q⟩
   show(j4 r.1++" ^ ").length+(tx r.2).length<=sizeLine
   rw[strLen_append,h3];omega
  ·exact⟨(p0::ps0).map eG,by rw[map_map];rfl,ok.join,h⟩
abbrev cN:Φ:=d6
def gU:US:=(cY (lD lJ (uC (.str " * ")) (aE (dX [] [none,none,none] 2 (fN (aG 0)) (rS (kR 0 (kR 1 rQ))) (λρ Q=>Q true ρ) (uFmt " ^ " (aK bB (aE (aG 0) aM)) (aG 1))) aM)))
def fF:US:=(aS (eF (cB (uOp (fA false) (j3 (aV 0)) (uC (.int 0)))) (cY (uC (.str "one"))) cU) gU)
theorem lW: ∀ds Q,cN ds Q->ds.length=1:=jJ
theorem mG: ∀ds Q,cN ds Q->fF {nx:=λ_=>Q (.pu .non),rt:=Q} (init ["r"] ds):=by
 rintro ds Q ⟨ps,rfl,ok,h⟩;unfold fF;show(aS _ _:US) _ [some (.pu (.lst (ps.map cZ)))];rw[aI];walk_at "u";rw[length_map];cases ps with
 | nil=>exact h
 | cons p0 ps0=>
  rw[if_neg (by rw[length_cons];omega)]
  unfold gU;rw[eS,nQ];refine(show mT (D.str " * ")/\_ from⟨trivial,?_⟩)
  rw[dD];refine sD (p0::ps0) (λp=>gK p.1) (λp=> .int p.2) (λr=> .str (eG r)) [some (.pu (.lst ((p0::ps0).map cZ)))] ?_ (le_trans ok.few (by decide)) ?_ ?_
  ·intro Q' q;walk_at "u";exact q
  ·intro r hr l Q' q;have o:=ok.parts r hr;have h1:=o.tab.len;have h2:=iP o.n60;have h3:(" ^ ":Str).length=3:=by decide
   have hs:sizeLine=16777216:=by decide
   walk_at "u"
   refine⟨r.1,rfl,o.tab,by rw[h3];omega,o.n60.log,?_,?_⟩
   ·show(j4 r.1).length+(" ^ ":Str).length+(tx r.2).length<=sizeLine
    rw[h3];omega
   ·rw[Str.empty_append];exact q
  ·exact⟨(p0::ps0).map eG,by rw[map_map];rfl,ok.join,h⟩
theorem oA {α:Type}(L:List α)(b:Bool):fR (L.map λ_=>D.bl b)=some (L.map λ_=>b):=by
 induction L with
 | nil=>rfl
 | cons a r ih=>simp only[map_cons,fR,ih,map_some]
theorem xF {α:Type}(L:List α):(L.map λ_=>true).all id=true:=by
 induction L with
 | nil=>rfl
 | cons a r ih=>rw[map_cons,List.all_cons,ih];rfl
theorem vG {α:Type}(L:List α):(L.map λ_=>false).any id=false:=by
 induction L with
 | nil=>rfl
 | cons a r ih=>rw[map_cons,List.any_cons,ih];rfl
theorem kC {α:Type}{L:List α}{Q:B->Prop}(h:Q (.pu (.bl true))):t8 [.lst (L.map λ_=>D.bl true)] Q:=by
 show(match fR (L.map λ_=>D.bl true)with
  | some bs=>Q (.pu (.bl (bs.all id)))
  | none=>False)
 rw[oA];dsimp only;rw[xF];exact h
theorem tL {α:Type}{L:List α}{Q:B->Prop}(h:Q (.pu (.bl false))):yS [.lst (L.map λ_=>D.bl false)] Q:=by
 show(match fR (L.map λ_=>D.bl false)with
  | some bs=>Q (.pu (.bl (bs.any id)))
  | none=>False)
 rw[oA];dsimp only;rw[vG];exact h
theorem rA (x:Str):Txt.startswith x "-"=decide (x.cps.toList[0]? =some 45):=by
 have e:(("-":String):Str)=⟨#[45]⟩:=by decide +kernel
 rw[e];have h:=PySem.StrLaws.subAt_one x 45 0;rw[Bool.eq_iff_iff,decide_eq_true_eq,<-h];unfold Txt.startswith;rw[and_eq_true,decide_eq_true_eq]
theorem vH {x:Str}{c:Nat}{r:List Nat}(h:x.cps.toList=c::r):Txt.slice x (some 1) none=⟨r.toArray⟩:=by
 have:=PySem.StrLaws.sliceText_from (x:=x) (i:=1) ⟨by decide,by rw[h,length_cons];omega⟩
 refine Eq.trans this ?_
 rw[h]
 congr 2
 rw[length_cons,show(1:Int).toNat=1 from rfl,List.drop_succ_cons,List.drop_zero,take_of_length_le]
 omega
theorem xG {x y:Str}(h:x.cps.toList≠y.cps.toList):x≠y:=λe=>h (by rw[e])
def cR:Φ:=λds Q=> ∃n:Int,ds=[.str (tx n)]/\N60 n/\Q (.pu (.bl true))
def iU:US:=(cY (aK t8 (aE (dX [] [none,none] 1 (x3 (aG 1)) (dC 0) (λρ Q=>Q true ρ) (uOp yT (aG 0) (uC (.str "0123456789")))) aM)))
def fS:US:=(aS (eF (uOr (cB (uOp (fA false) (aG 1) (uC (.str "")))) (uOr (cB (uOp (fA false) (uOp yU (aG 1) (uC (.int 0))) (uC (.str "0")))) (cB (uOp (m8 λi j=>decide (j<i)) (aK wW (aE (aG 1) aM)) (uC (.int 60)))))) (cY (uC (.bl false))) cU) iU)
def iV:US:=(aS (cF 1 (uIf (cB (lD nP (aG 0) (aE (uC (.str "-")) aM))) (uSlS (aG 0) (iT (uC (.int 1))) nM) (aG 0))) fS)
def gM:US:=(aS (eF (cB (uOp (fA false) (aG 0) (uC (.str "0")))) (cY (uC (.bl true))) cU) iV)
theorem n8: ∀ds Q,cR ds Q->ds.length=1:=by rintro ds Q ⟨ns,rfl,_⟩;rfl
theorem tM {c:Nat}(h:48<=c/\c<=57):(!(Builtin.Str.occurrences ("0123456789":Str) ⟨#[c]⟩ 0 ("0123456789":Str).length 1).isEmpty)=true:=by
 rw[PySem.StrLaws.found_one,decide_eq_true_eq];have e:("0123456789":Str).cps.toList=[48,49,50,51,52,53,54,55,56,57]:=by decide +kernel
 rw[e];simp;omega
theorem uF {Q:B->Prop}{w:Option B}{F:Str}{c:Nat}{r:List Nat}(e:F.cps.toList=c::r)(hc:c≠48)(hd: ∀d∈c::r,48<=d/\d<=57)(hl:(c::r).length<=60)(h:Q (.pu (.bl true))) :
  fS {nx:=λ_=>Q (.pu .non),rt:=Q} [w,some (.pu (.str F))]:=by
 have hlF:F.length<=60:=by rw[<-cC,e];exact hl
 have hs:sizeLine=16777216:=by decide
 have e0:F≠("":Str):=xG (by rw[e];intro z;cases z)
 have e1:(⟨#[c]⟩:Str)≠("0":Str):=xG (by
  have e':("0":Str).cps.toList=[48]:=by decide +kernel
  rw[e'];intro z;cases z;exact hc rfl)
 unfold fS;rw[aI];walk_at "u";rw[if_neg e0];refine⟨by omega,c,by rw[e];exact bF (j:=0) rfl,?_⟩
 rw[if_neg e1];refine⟨by omega,?_⟩
 rw[if_neg (by omega)]
 unfold iU;rw[eS,eT,dD];have es:F.cps.size=(c::r).length:=by rw[<-e,length_toList]
 refine iD (t0:=0) F.cps.size (λi=> .str ⟨#[F.cps.toList.getD i 0]⟩) [w,some (.pu (.str F))] ?_ (by rw[es];exact le_trans hl (by decide)) (λx l=>[x,some (.ow l)]) none rfl (λ_ _ _=>rfl) (λ_ _=>zero_lt_succ _) (λ_ _ _ q=>q) (λ_ _ _=>rfl) (λ_=> .bl true) ?_ (kC h)
 ·intro Q' q;walk_at "u";refine⟨?_,q⟩;rw[<-Array.all_toList,List.all_eq_true,e];intro d hd';have:=hd d hd';exact decide_eq_true (by omega)
 ·intro i l Q' hi q;walk_at "u";have hm:F.cps.toList.getD i 0∈c::r:=by
   rw[e,getD_eq_getElem?_getD,getElem?_eq_getElem (by rw[<-es];exact hi)]
   exact getElem_mem _
  rw[tM (hd _ hm)];exact q
theorem oB: ∀ds Q,cR ds Q->gM {nx:=λ_=>Q (.pu .non),rt:=Q} (init ["w","f"] ds):=by
 rintro ds Q ⟨n,rfl,ok,h⟩;unfold gM;show(aS _ _:US) _ [some (.pu (.str (tx n))),none];rw[aI];walk_at "u"
 by_cases n0:tx n=("0":Str)
 ·rw[if_pos n0];exact h
 rw[if_neg n0];have hl:=iP ok;have hs:sizeLine=16777216:=by decide
 unfold iV;rw[aI];walk_at "u";rw[rA];rcases lL n ok with⟨m,en,hm,e⟩| ⟨m,en,m0,hm,e⟩
 ·have m0:0<m:=by
   rcases Nat.eq_zero_or_pos m with z|z
   ·subst z;exact absurd (by rw[en];decide +kernel) n0
   ·exact z
  obtain⟨c,r,ec,hc⟩:=o7 m m0;have hd:=kA m;have h60:=uE hm;rw[ec]at e hd h60;have h45: ¬((tx n).cps.toList[0]? =some 45):=by
   rw[e];intro z;have:=hd c (mem_cons_self ..);simp at z;omega
  refine⟨trivial,?_⟩
  rw[if_neg (by rw[decide_eq_true_eq];exact h45)]
  exact uF e hc hd h60 h
 ·obtain⟨c,r,ec,hc⟩:=o7 m m0;have hd:=kA m;have h60:=uE hm;rw[ec]at e hd h60;refine⟨trivial,?_⟩;rw[if_pos (by rw[e];rfl)]
  refine⟨by omega,?_⟩
  rw[vH e];exact uF (F:=⟨(c::r).toArray⟩) rfl hc hd h60 h
def cJ:Φ:=λds Q=> ∃ns:List Int,ds=[.str (kF ns)]/\lN ns/\ns≠[]/\Q (.pu (eO ns))
def gN:US:=(cY (aK gF (aE (dX [] [none,none] 1 (fN (aG 1)) (dC 0) (λρ Q=>Q true ρ) (aK pJ (aE (aG 0) aM))) aM)))
def jK:US:=(aS (eF (kE (cB (aK t8 (aE (dX [] [none,none] 1 (fN (aG 1)) (dC 0) (λρ Q=>Q true ρ) (aK cR (aE (aG 0) aM))) aM)))) (λ_ _=>False) cU) gN)
def hV:US:=(aS (cF 1 (lD kY (aG 0) (aE (uC (.str " ")) aM))) jK)
theorem oC: ∀ds Q,cJ ds Q->ds.length=1:=by rintro ds Q ⟨ns,rfl,_⟩;rfl
theorem oV: ∀ds Q,cJ ds Q->hV {nx:=λ_=>Q (.pu .non),rt:=Q} (init ["t","w"] ds):=by
 rintro ds Q ⟨ns,rfl,ok,h0,h⟩;have hl:=ok.len;have hs:sizeLine=16777216:=by decide
 unfold hV;show(aS _ _:US) _ [some (.pu (.str (kF ns))),none];rw[aI];walk_at "u";refine⟨trivial,by decide,by omega,?_⟩
 rw[vE ok h0,map_map];unfold jK;rw[aI,uB,z0,uA,eT,dD];refine dZ ns (D.str∘tx) (λ_=> .bl true) [some (.pu (.str (kF ns))),some (.pu (.lst (ns.map (D.str∘tx))))] ?_ (le_trans ok.few (by decide)) ?_ ?_
 ·intro Q' q;walk_at "u";exact q
 ·intro n hn l Q' q;walk_at "u";exact⟨n,rfl,ok.n60 n hn,q⟩
 refine kC (L:=ns) ?_
 show gN _ [some (.pu (.str (kF ns))),some (.pu (.lst (ns.map (D.str∘tx))))]
 unfold gN;rw[eS,eT,dD];refine dZ ns (D.str∘tx) D.int [some (.pu (.str (kF ns))),some (.pu (.lst (ns.map (D.str∘tx))))] ?_ (le_trans ok.few (by decide)) ?_ ?_
 ·intro Q' q;walk_at "u";exact q
 ·intro n hn l Q' q;have:=iP (ok.n60 n hn);show aK pJ (aE (aG 0) aM) [some (.pu (.str (tx n))),some (.ow l)] Q';walk_at "u";exact⟨n,tH (ok.n60 n hn),by omega,q⟩
 ·exact h
structure Sqr (t:List (List Int)):Prop where
 ok:lP t
 ne:t≠[]
 sq: ∀r∈t,r.length=t.length
theorem Sqr.row {t:List (List Int)}(h:Sqr t){r:List Int}(hr:r∈t):r≠[]:=λz=>by
 have:=h.sq r hr;rw[z]at this;exact h.ne (List.eq_nil_of_length_eq_zero this.symm)
def bP:Φ:=λds Q=> ∃t:List (List Int),ds=[.str (j4 t)]/\Sqr t/\Q (.pu (gK t))
def fG:US:=(nW 1)
def fH:US:=(aS (eF (cB (aK yS (aE (dX [] [none,some 1,none] 2 (fN (aG 1)) (dC 0) (λρ Q=>Q true ρ) (uOp (fA true) (j3 (aV 0)) (j3 (aV 1)))) aM))) (λ_ _=>False) cU) fG)
def fT:US:=(aS (cF 1 (aK gF (aE (dX [] [none,none] 1 (fN (lD kY (aG 0) (aE (uC (.str " / ")) aM))) (dC 0) (λρ Q=>Q true ρ) (aK cJ (aE (aG 0) aM))) aM))) fH)
theorem mH: ∀ds Q,bP ds Q->ds.length=1:=by rintro ds Q ⟨ns,rfl,_⟩;rfl
theorem nA: ∀ds Q,bP ds Q->fT {nx:=λ_=>Q (.pu .non),rt:=Q} (init ["t","r"] ds):=by
 rintro ds Q ⟨t,rfl,ok,h⟩;have hl:=ok.ok.len;have hs:sizeLine=16777216:=by decide
 unfold fT;show(aS _ _:US) _ [some (.pu (.str (j4 t))),none];rw[aI,yZ,eT,dD];refine dZ t (D.str∘kF) eO [some (.pu (.str (j4 t))),none] ?_ (le_trans ok.ok.few (by decide)) ?_ ?_
 ·intro Q' q;walk_at "u";refine⟨trivial,by decide,by omega,?_⟩
  rw[vF ok.ok ok.ne,map_map];exact q
 ·intro r hr l Q' q;walk_at "u";exact⟨r,rfl,ok.ok.rows r hr,ok.row hr,q⟩
 show fH _ [some (.pu (.str (j4 t))),some (.pu (gK t))]
 unfold fH;rw[aI,uB,uA,eT,dD];refine iD (t0:=0) (t.map eO).length (λi=>(t.map eO).getD i .non) [some (.pu (.str (j4 t))),some (.pu (gK t))] ?_ (by rw[length_map];exact le_trans ok.ok.few (by decide)) (λx l=>[x,some (.pu (gK t)),some (.ow l)]) none rfl (λ_ _ _=>rfl) (λ_ _=>zero_lt_succ _) (λ_ _ _ q=>q) (λ_ _ _=>rfl) (λ_=> .bl false) ?_ (tL ?_)
 ·intro Q' q;simp only[gK];walk_at "u";exact q
 ·intro i l Q' hi q;rw[length_map]at hi;rw[fE hi]at q⊢;simp only[gK,eO]at q⊢;walk_at "u";rw[length_map,length_map,ok.sq _ (getElem_mem hi)];rw[decide_eq_true rfl];exact q
 simp only[isB,false_eq_true,if_false,cU];show fG _ [some (.pu (.str (j4 t))),some (.pu (gK t))];unfold fG;walk_at "u";exact h
structure xH (p:gL):Prop where
 ok:jE p
 sq:Sqr p.1
 lo:1<=p.2
def e6:Φ:=λds Q=> ∃p:gL,ds=[.str (eG p)]/\xH p/\Q (.pu (cZ p))
def iW:US:=(cY (v1 (aE (aK bP (aE (uIx (aV 1) (uC (.int 0))) aM)) (aE (aK pJ (aE (uIx (aV 1) (uC (.int 1))) aM)) aM))))
def fU:US:=(aS (eF (uOr (cB (uOp (fA true) (j3 (aV 1)) (uC (.int 2)))) (uOr (kE (cB (aK cR (aE (uIx (aV 1) (uC (.int 1))) aM)))) (cB (uOp (m8 λi j=>decide (i<j)) (aK pJ (aE (uIx (aV 1) (uC (.int 1))) aM)) (uC (.int 1)))))) (λ_ _=>False) cU) iW)
def gO:US:=(aS (cF 1 (lD kY (aG 0) (aE (uC (.str " ^ ")) aM))) fU)
theorem nB: ∀ds Q,e6 ds Q->ds.length=1:=by rintro ds Q ⟨ns,rfl,_⟩;rfl
theorem oD: ∀ds Q,e6 ds Q->gO {nx:=λ_=>Q (.pu .non),rt:=Q} (init ["t","s"] ds):=by
 rintro ds Q ⟨p,rfl,ok,h⟩;have hl:=ok.ok.len;have hs:sizeLine=16777216:=by decide
 have ht:=iP ok.ok.n60;have lo:=ok.lo;unfold gO;show(aS _ _:US) _ [some (.pu (.str (eG p))),none];rw[aI];walk_at "u";refine⟨trivial,by decide,by omega,?_⟩
 rw[tJ ok.ok];show fU _ [some (.pu (.str (eG p))),some (.ow [.str (j4 p.1),.str (tx p.2)])];unfold fU;rw[aI];walk_at "u";simp only[at0,at1];rw[if_neg (by decide)]
 refine⟨p.2,rfl,ok.ok.n60,?_⟩
 dsimp only;rw[if_neg (by decide)]
 refine⟨p.2,tH ok.ok.n60,by omega,?_⟩
 rw[if_neg (by omega)]
 unfold iW;walk_at "u";simp only[at0,at1];refine⟨p.1,rfl,ok.sq,p.2,tH ok.ok.n60,by omega,by decide,h⟩
def cV:Φ:=λds Q=> ∃ps:List gL,ds=[.str (iQ ps)]/\kB ps/\(∀p∈ps,xH p)/\Q (.ow (ps.map cZ))
def iF:US:=(cY (dX [] [none,none] 1 (fN (lD kY (aG 0) (aE (uC (.str " * ")) aM))) (dC 0) (λρ Q=>Q true ρ) (aK e6 (aE (aG 0) aM))))
def fV:US:=(aS (eF (cB (uOp (fA false) (aG 0) (uC (.str "one")))) (cY (lC aM)) cU) iF)
theorem mI: ∀ds Q,cV ds Q->ds.length=1:=by rintro ds Q ⟨ns,rfl,_⟩;rfl
theorem nE: ∀ds Q,cV ds Q->fV {nx:=λ_=>Q (.pu .non),rt:=Q} (init ["t"] ds):=by
 rintro ds Q ⟨ps,rfl,ok,okr,h⟩;have hs:sizeLine=16777216:=by decide
 unfold fV;show(aS _ _:US) _ [some (.pu (.str (iQ ps)))];rw[aI];walk_at "u";cases ps with
 | nil=>
  rw[if_pos (show iQ []=Str.ofString "one" from rfl)]
  exact⟨by decide,h⟩
 | cons p0 ps0=>
  have hl:(iQ (p0::ps0)).length<=20*124127:=by
   refine le_trans (o8 (B:=124124) _ λt ht=> ?_) ?_
   ·obtain⟨n,hn,rfl⟩:=List.mem_map.mp ht;exact(ok.parts n hn).len
   ·rw[length_map,show(" * ":Str).length=3 by decide]
    exact mul_le_mul ok.few (le_refl _)
  have ne:iQ (p0::ps0)≠("one":Str):=λz=>by
   have e1:Txt.split (iQ (p0::ps0)) " * "=(p0::ps0).map eG:=lQ ok.parts (by simp)
   have e2:Txt.split ("one":Str) " * "=([Str.ofString "one"]:List Str):=by decide +kernel
   rw[z,e2]at e1;have e3:("one":Str)=eG p0:=by
    have:=congrArg List.head? e1
    simpa using this
   have h1:111∈("one":Str).cps.toList:=by decide +kernel
   rw[e3]at h1;have:=(ok.parts p0 (mem_cons_self ..)).signs _ h1;omega
  rw[if_neg ne];unfold iF;rw[eS];refine dZ (p0::ps0) (D.str∘eG) cZ [some (.pu (.str (iQ (p0::ps0))))] ?_ (le_trans ok.few (by decide)) ?_ h
  ·intro Q' q;walk_at "u";refine⟨trivial,by decide,by omega,?_⟩
   have e1:Txt.split (iQ (p0::ps0)) " * "=(p0::ps0).map eG:=lQ ok.parts (by simp)
   rw[e1,map_map];exact q
  ·intro p hp l Q' q;walk_at "u";exact⟨p,rfl,okr p hp,q⟩
def Pdk (k:Nat)(d:D):Prop:= ∃p,pd d=some p/\p.depth<=k
theorem Pdk.int {k:Nat}{i:Int}:Pdk k (.int i):=⟨_,rfl,zero_le _⟩
theorem pdkL {k:Nat}: ∀{l:List D},(∀d∈l,Pdk k d)-> ∃ps,pdL l=some ps/\PyData.depthAll ps<=k
 | [],_=>⟨[],rfl,zero_le _⟩
 | d::l,h=>by
  obtain⟨p,e,hp⟩:=h d (mem_cons_self ..);obtain⟨ps,es,hps⟩:=pdkL λx hx=>h x (mem_cons_of_mem _ hx)
  refine⟨p::ps,by simp only[pdL,e,es,bind_some,map_some],?_⟩
  simp only[PyData.depthAll];exact Nat.max_le.mpr ⟨hp,hps⟩
theorem Pdk.tup {k:Nat}{l:List D}(h: ∀d∈l,Pdk k d):Pdk (k+1) (.tup l):=by
 obtain⟨ps,e,hp⟩:=pdkL h;exact⟨.tuple ps,by simp only[pd,e,map_some],by simp only[PyData.depth];omega⟩
theorem Pdk.lst {k:Nat}{l:List D}(h: ∀d∈l,Pdk k d):Pdk (k+1) (.lst l):=by
 obtain⟨ps,e,hp⟩:=pdkL h;exact⟨.list ps,by simp only[pd,e,map_some],by simp only[PyData.depth];omega⟩
theorem Pdk.row (ns:List Int):Pdk 1 (eO ns):= .tup λd hd=>by
 obtain⟨n,_,rfl⟩:=List.mem_map.mp hd;exact .int
theorem Pdk.tab (t:List (List Int)):Pdk 2 (gK t):= .tup λd hd=>by
 obtain⟨n,_,rfl⟩:=List.mem_map.mp hd;exact .row n
theorem Pdk.part (p:gL):Pdk 3 (cZ p):= .tup λd hd=>by
 rcases List.mem_cons.mp hd with rfl|hd
 ·exact .tab _
 ·rw[List.mem_singleton.mp hd];exact .int
theorem Pdk.parts (ps:List gL):Pdk 4 (.lst (ps.map cZ)):= .lst λd hd=>by
 obtain⟨n,_,rfl⟩:=List.mem_map.mp hd;exact .part n
theorem Pdk.same {neg:Bool}{k:Nat}{d:D}{Q:B->Prop}(h:Pdk k d)(hk:k<=60)(q:Q (.pu (.bl (neg ^^ true)))):t9 neg d d Q:=by
 obtain⟨p,e,hp⟩:=h;exact⟨p,p,e,e,le_trans hp hk,by rw[PySem.SeqAt.eqv_refl p (mE d e)];exact q⟩
def kZ:Φ:=λds Q=> ∃ns:List Int,ds=[eO ns,.int (ns.length:Int)]/\ns.length<=1000/\Q (.pu (.bl true))
def uG:US:=(cY (aK t8 (aE (dX [] [none,none] 1 (fN (aG 0)) (dC 0) (λρ Q=>Q true ρ) (aK gJ (aE (aG 0) aM))) aM)))
def tN:US:=(aS (eF (uOr (kE (cB (aK qU (aE (aG 0) (aE (uC (.ty "tuple")) aM))))) (cB (uOp (fA true) (j3 (aV 0)) (aG 1)))) (cY (uC (.bl false))) cU) uG)
theorem z3: ∀ds Q,kZ ds Q->ds.length=2:=by rintro ds Q ⟨ns,rfl,_⟩;rfl
theorem rd_row: ∀ds Q,kZ ds Q->tN {nx:=λ_=>Q (.pu .non),rt:=Q} (init ["f","m"] ds):=by
 rintro ds Q ⟨ns,rfl,hl,h⟩;unfold tN;show(aS _ _:US) _ [some (.pu (eO ns)),some (.pu (.int (ns.length:Int)))];rw[aI];have e:isI (eO ns) "tuple"=some true:=rfl;simp only[eO];walk_at "u";simp only[isI,length_map,not_true,if_false,false_eq_true,Bool.not_true];unfold uG;rw[eS,eT,dD]
 refine dZ ns D.int (λ_=> .bl true) [some (.pu (.tup (ns.map .int))),some (.pu (.int (ns.length:Int)))] ?_ (le_trans hl (by decide)) ?_ (kC h)
 ·intro Q' q;walk_at "u";exact q
 ·intro n hn l Q' q;walk_at "u";exact⟨n,rfl,q⟩
structure TabN (t:List (List Int))(n:Nat):Prop where
 len:t.length=n
 rows: ∀r∈t,r.length=n
 few:n<=20
def e7:Φ:=λds Q=> ∃(t:List (List Int)) (n:Nat),ds=[gK t,.int (n:Int)]/\TabN t n/\Q (.pu (.bl true))
def lX:US:=(cY (aK t8 (aE (dX [1] [none,some 1,none] 2 (fN (aG 0)) (dC 0) (λρ Q=>Q true ρ) (aK kZ (aE (aG 0) (aE (aG 1) aM)))) aM)))
def jL:US:=(aS (eF (uOr (kE (cB (aK qU (aE (aG 0) (aE (uC (.ty "tuple")) aM))))) (cB (uOp (fA true) (j3 (aV 0)) (aG 1)))) (cY (uC (.bl false))) cU) lX)
theorem rB: ∀ds Q,e7 ds Q->ds.length=2:=by rintro ds Q ⟨ns,n,rfl,_⟩;rfl
theorem sF: ∀ds Q,e7 ds Q->jL {nx:=λ_=>Q (.pu .non),rt:=Q} (init ["f","m"] ds):=by
 rintro ds Q ⟨t,n,rfl,ok,h⟩;have few:=ok.few;unfold jL;show(aS _ _:US) _ [some (.pu (gK t)),some (.pu (.int (n:Int)))];rw[aI];simp only[gK];walk_at "u";simp only[isI,length_map,ok.len,not_true,if_false,false_eq_true,Bool.not_true];unfold lX;rw[eS,eT,dD]
 refine iD (t0:=0) (t.map eO).length (λi=>(t.map eO).getD i .non) [some (.pu (.tup (t.map eO))),some (.pu (.int (n:Int)))] ?_ (by rw[length_map,ok.len];exact le_trans few (by decide)) (λx l=>[x,some (.pu (.int (n:Int))),some (.ow l)]) none rfl (λ_ _ _=>rfl) (λ_ _=>zero_lt_succ _) (λ_ _ _ q=>q) (λ_ _ _=>rfl) (λ_=> .bl true) ?_ (kC h)
 ·intro Q' q;walk_at "u";exact q
 ·intro i l Q' hi q;rw[length_map]at hi;rw[fE hi]at q⊢;have hr:=ok.rows _ (getElem_mem hi);walk_at "u";exact⟨_,by rw[hr],by omega,q⟩
def dE:Φ:=λds Q=> ∃(c:Int) (k:Nat) (p:Int),ds=[.int c,.int (k:Int),.int p]/\k<=81/\0<p/\ ∀ns:List Int,ns.length=k->(∀n∈ns,N60 n)->Q (.pu (eO ns))
def iX:US:=(cF 9 (uOp M.gSub (uOp eN (aG 9) (uIx (aV 6) (uC (.int 3)))) (uC (.int 1))))
def iY:US:=(aS (qR (kG (aE (uIx (aV 6) (uC (.int 2))) aM)) (dC 10) (cF 9 (uOp fP (aG 9) (uC (.int 10))))) iX)
def iZ:US:=(aS (cF 9 (uC (.int 1))) iY)
def hW:US:=(qS 4 (aG 9))
def hX:US:=(aS (eF (cB (uOp (fA false) (uIx (aV 6) (uC (.int 0))) (uC (.int 4)))) (cF 9 (uNeg (aG 9))) cU) hW)
def hZ:US:=(aS (eF (cB (uOp (m8 λi j=>decide (j<i)) (uIx (aV 6) (uC (.int 0))) (uC (.int 2)))) iZ cU) hX)
def kJ:US:=(aS (eF (cB (uOp (m8 λi j=>decide (i<j)) (uIx (aV 6) (uC (.int 0))) (uC (.int 2)))) (cF 9 (uOp M.gSub (uIx (aV 6) (uC (.int 1))) (uC (.int 20)))) cU) hZ)
def kK:US:=(aS (cF 9 (uOp M.gSub (uOp nY (aG 7) (uOp M.gSub (uOp fP (uC (.int 2)) (uOp qT (uC (.int 10)) (uC (.int 60)))) (uC (.int 1)))) (uOp M.gSub (uOp qT (uC (.int 10)) (uC (.int 60))) (uC (.int 1))))) kJ)
def kL:US:=(aS (qR (fN (uSl (aV 6) (iT (uC (.int 4))) nM)) (dC 8) (cF 7 (uOp eN (uOp fP (aG 7) (uOp qT (uC (.int 10)) (uC (.int 8)))) (aG 8)))) kK)
def kM:US:=(aS (cF 7 (uC (.int 0))) kL)
def i0:US:=(aS (cF 6 (uSl (aV 3) (iT (uOp fP (uC (.int 12)) (aG 5))) (iT (uOp eN (uOp fP (uC (.int 12)) (aG 5)) (uC (.int 12)))))) kM)
def mV:US:=(cY (aK gF (aE (aG 4) aM)))
def mW:US:=(aS (qR (kG (aE (aG 1) aM)) (dC 5) i0) mV)
def mX:US:=(aS (cF 4 (lC aM)) mW)
def mJ:US:=(aS (cF 3 (aK dY (aE (aG 0) (aE (uOp fP (uOp eN (lC (aE (uC (.int 5)) (aE (uC (.int 41)) (aE (uC (.int 60)) (aE (uC (.int 3)) aM))))) (uOp fP (lC (aE (uOp qT (uC (.int 10)) (uC (.int 8))) aM)) (uC (.int 8)))) (aG 1)) (aE (aG 2) aM))))) mX)
theorem tO: ∀ds Q,dE ds Q->ds.length=3:=by rintro ds Q ⟨ns,k,p,rfl,_⟩;rfl
theorem uH {α:Type}(l:List α): ∀(m k j:Nat),k<m->j<l.length->(replicate m l).flatten[l.length*k+j]? =l[j]?
 | 0,_,_,h,_=>absurd h (Nat.not_lt_zero _)
 | m+1,0,j,_,hj=>by
  rw[replicate_succ,flatten_cons,Nat.mul_zero,Nat.zero_add,getElem?_append_left hj]
 | m+1,k+1,j,hk,hj=>by
  rw[replicate_succ,flatten_cons,getElem?_append_right (by rw[mul_succ];omega),show l.length*(k+1)+j-l.length=l.length*k+j by rw[mul_succ];omega]
  exact uH l m k j (by omega) hj
theorem sG {α:Type}(l:List α)(m:Nat):(replicate m l).flatten.length=l.length*m:=by
 induction m with
 | zero=>rfl
 | succ m ih=>rw[replicate_succ,flatten_cons,length_append,ih,mul_succ];omega
theorem xI {m:Nat}{l:List Int}:(replicate m (l.map D.int)).flatten=(replicate m l).flatten.map .int:=by
 induction m with
 | zero=>rfl
 | succ m ih=>rw[replicate_succ,flatten_cons,ih,replicate_succ,flatten_cons,map_append]
def w12:List Int:=[5,41,60,3,100000000,100000000,100000000,100000000,100000000,100000000,100000000,100000000]
structure P12 (W:List Int):Prop where
 len:W.length=12
 b: ∀(j:Nat) (x w:Int),W[j]? =some x->w12[j]? =some w->0<=x/\x<w
theorem P12.four {W:List Int}(h:P12 W): ∃a b c d r,W=a::b::c::d::r/\0<=a/\a<5/\0<=b/\b<41/\0<=c/\c<60/\0<=d/\d<3:=by
 match W,h.len,h.b with
 | a::b::c::d::r,_,hb=>
  have h0:=hb 0 a 5 rfl rfl;have h1:=hb 1 b 41 rfl rfl;have h2:=hb 2 c 60 rfl rfl;have h3:=hb 3 d 3 rfl rfl;exact⟨a,b,c,d,r,rfl,h0.1,h0.2,h1.1,h1.2,h2.1,h2.2,h3.1,h3.2⟩
theorem xJ {E:UD}{s0 s1 s2 s3 s5 s7 s8 s10:Option B}{ns:List Int}{W:List D}{a v:Int}(a0:atI W 0=some (.int a))(nv:N60 v)(hl:ns.length<1000)
  (h: ∀v',N60 v'->E.nx [s0,s1,s2,s3,some (.ow ((ns++[v']).map .int)),s5,some (.ow W),s7,s8,some (.pu (.int v')),s10]) :
  hX E [s0,s1,s2,s3,some (.ow (ns.map .int)),s5,some (.ow W),s7,s8,some (.pu (.int v)),s10]:=by
 have hz:(ns.map D.int).length<sizeLine:=by rw[length_map];exact lt_of_lt_of_le hl (by decide)
 have nv':N60 (-v):=by unfold N60 at nv ⊢; rw[Int.natAbs_neg];exact nv
 unfold hX;rw[aI];walk_at "u";simp only[a0];have h1:=h v nv;have h2:=h (-v) nv';rw[map_append]at h1 h2;split
 ·unfold hW;walk_at "u";exact⟨hz,h2⟩
 ·unfold hW;walk_at "u";exact⟨hz,h1⟩
theorem xK {E:UD}{s0 s1 s2 s3 s5 s7 s8 s10:Option B}{ns:List Int}{W:List D}{a c d v:Int}(a0:atI W 0=some (.int a))(a2:atI W 2=some (.int c))(a3:atI W 3=some (.int d))(c0:0<=c)(c1:c<60)(d0:0<=d)(d1:d<3)(nv:N60 v)(hl:ns.length<1000)
  (h: ∀v' s10,N60 v'->E.nx [s0,s1,s2,s3,some (.ow ((ns++[v']).map .int)),s5,some (.ow W),s7,s8,some (.pu (.int v')),s10]) :
  hZ E [s0,s1,s2,s3,some (.ow (ns.map .int)),s5,some (.ow W),s7,s8,some (.pu (.int v)),s10]:=by
 unfold hZ;rw[aI];walk_at "u";simp only[a0];split
 ·unfold iZ;rw[aI];walk_at "u";unfold iY;rw[aI];refine fB c.toNat (λi=> .int (0+i)) [s0,s1,s2,s3,some (.ow (ns.map .int)),s5,some (.ow W),s7,s8,some (.pu (.int 1)),s10] ?_
   (λi ρ=> ∃x10,ρ=[s0,s1,s2,s3,some (.ow (ns.map .int)),s5,some (.ow W),s7,s8,some (.pu (.int ((10:Int)^i))),x10]) ⟨_,rfl⟩ ?_ ?_
  ·intro Q' q;walk_at "u";simp only[a2];refine⟨⟨by omega,by omega⟩,q⟩
  ·rintro i ρ hi ⟨x10,rfl⟩;refine⟨by simp,?_⟩
   walk_at "u"
   refine⟨cmR (by decide) (by decide),some (.pu (.int (0+(i:Int)))),?_⟩
   rw[Int.pow_succ]
  ·rintro ρ ⟨x10,rfl⟩;unfold iX;walk_at "u";simp only[a3];refine xJ a0 ?_ hl λv' nv'=>h v' _ nv'
   unfold N60;have hp:10^c.toNat<=10^59:=Nat.pow_le_pow_right (by decide) (by omega)
   have hq:0<10^c.toNat:=Nat.pow_pos (by decide)
   have he:(10:Int)^c.toNat=((10^c.toNat:Nat):Int):=by simp
   rw[he];generalize 10^c.toNat=t at hp hq⊢;omega
 ·exact xJ a0 nv hl λv' nv'=>h v' _ nv'
theorem vI: ∀ds Q,dE ds Q->mJ {nx:=λ_=>Q (.pu .non),rt:=Q} (init ["c","m","p","f","r","k","a","b","l","v","j"] ds):=by
 rintro ds Q ⟨c,m,p,rfl,m1,p0,h⟩;unfold mJ;show(aS _ _:US) _ [some (.pu (.int c)),some (.pu (.int (m:Int))),some (.pu (.int p)),none,none,none,none,none,none,none,none];rw[aI];walk_at "u";have ew:([D.int 5,.int 41,.int 60,.int 3]++(replicate (8:Int).toNat [D.int ((10:Int)^(8:Int).toNat)]).flatten:List D)=w12.map .int:=by rfl
 refine⟨by decide,cpl (by decide) (by decide) (by decide),by decide,⟨by decide,by decide,by decide⟩,by decide,?_⟩
 rw[ew];refine⟨⟨by omega,by omega,?_⟩,?_⟩
 ·show 12*(m:Int).toNat<=sizeLine
  exact le_trans (show _<=972 by omega) (by decide)
 refine⟨c,(replicate m w12).flatten,p,by rw[toNat_natCast,xI],?_,p0,?_,λxs hx=> ?_⟩
 ·rw[sG];show 12*m<=1000;omega
 ·intro w hw;obtain⟨l,hl,hw⟩:=List.mem_flatten.mp hw;rw[List.eq_of_mem_replicate hl]at hw;simp only[w12,mem_cons,not_mem_nil,or_false]at hw;omega
 have xl:xs.length=12*m:=by rw[hx.1,sG];rfl
 try dsimp only
 unfold mX;rw[aI];walk_at "u";refine⟨by decide,?_⟩
 unfold mW;rw[aI];refine fB m (λi=> .int (0+i)) [some (.pu (.int c)),some (.pu (.int (m:Int))),some (.pu (.int p)),some (.ow (xs.map .int)),some (.ow []),none,none,none,none,none,none] ?_
  (λi ρ=> ∃(ns:List Int) (y5 y6 y7 y8 y9 y10:Option B),ρ=[some (.pu (.int c)),some (.pu (.int (m:Int))),some (.pu (.int p)),some (.ow (xs.map .int)),some (.ow (ns.map .int)),y5,y6,y7,y8,y9,y10]/\ns.length=i/\ ∀n∈ns,N60 n)
  ⟨[],_,_,_,_,_,_,rfl,rfl,by simp⟩ ?_ ?_
 ·intro Q' q;walk_at "u";refine⟨⟨by omega,by omega⟩,?_⟩
  rw[toNat_natCast];exact q
 ·rintro i ρ hi ⟨ns,y5,y6,y7,y8,y9,y10,rfl,hl,hn⟩;refine⟨by simp,?_⟩
  show i0 _ [some (.pu (.int c)),some (.pu (.int (m:Int))),some (.pu (.int p)),some (.ow (xs.map .int)),some (.ow (ns.map .int)),some (.pu (.int (0+(i:Int)))),y6,y7,y8,y9,y10]
  unfold i0;rw[aI];walk_at "u";refine⟨cmL (by decide) (by decide),cmL (by decide) (by decide),?_⟩
  have ec:cutD (xs.map D.int) (some (12*(0+(i:Int)))) (some (12*(0+(i:Int))+12))=((xs.drop (12*i)).take 12).map .int:=by
   have:=u9 (xs.map D.int) (12*i) 12 (by rw[length_map,xl];omega)
   rw[show(12*(0+(i:Int)))=((12*i:Nat):Int)by omega,show(((12*i:Nat):Int)+12)=((12*i+12:Nat):Int)by omega,this,map_take,map_drop]
  rw[ec];have P:P12 ((xs.drop (12*i)).take 12):=by
   refine⟨by rw[length_take,length_drop,xl];omega,λj x w e1 e2=> ?_⟩
   have hj:j<12:=(List.getElem?_eq_some_iff.mp e2).1;rw[List.getElem?_take_of_lt hj,getElem?_drop]at e1;refine hx.2 _ x w e1 ?_;have:=uH w12 m i j hi hj;rw[show w12.length=12 from rfl]at this
   rw[this];exact e2
  generalize (xs.drop (12*i)).take 12=W at P;obtain⟨q0,q1,q2,q3,qr,rfl,b0,b1,b2,b3,b4,b5,b6,b7⟩:=P.four;unfold kM;rw[aI];walk_at "u";unfold kL;rw[aI]
  refine fB (qr.map D.int).length (λi=>(qr.map D.int).getD i .non) [some (.pu (.int c)),some (.pu (.int (m:Int))),some (.pu (.int p)),some (.ow (xs.map .int)),some (.ow (ns.map .int)),some (.pu (.int (0+(i:Int)))),some (.ow ((q0::q1::q2::q3::qr).map .int)),some (.pu (.int 0)),y8,y9,y10] ?_
   (λj ρ=> ∃(f:Int) (x8:Option B),ρ=[some (.pu (.int c)),some (.pu (.int (m:Int))),some (.pu (.int p)),some (.ow (xs.map .int)),some (.ow (ns.map .int)),some (.pu (.int (0+(i:Int)))),some (.ow ((q0::q1::q2::q3::qr).map .int)),some (.pu (.int f)),x8,y9,y10]) ⟨_,_,rfl⟩ ?_ ?_
  ·intro Q' q;walk_at "u";have:=xD ((q0::q1::q2::q3::qr).map D.int) 4 (by simp)
   rw[show(4:Int)=((4:Nat):Int)from rfl,this]
   exact q
  ·rintro j ρ hj ⟨f,x8,rfl⟩;obtain⟨z,hz⟩:=x9 hj;rw[hz];refine⟨by simp,?_⟩
   walk_at "u"
   refine⟨cpl (by decide) (by decide) (by decide),cmR (by decide) (by decide),_,_,rfl⟩
  ·rintro ρ ⟨f,x8,rfl⟩;try dsimp only
   have a0:atI ((q0::q1::q2::q3::qr).map D.int) 0=some (.int q0):=bF (j:=0) rfl;have a1:atI ((q0::q1::q2::q3::qr).map D.int) 1=some (.int q1):=bF (j:=1) rfl;have a2:atI ((q0::q1::q2::q3::qr).map D.int) 2=some (.int q2):=bF (j:=2) rfl;have a3:atI ((q0::q1::q2::q3::qr).map D.int) 3=some (.int q3):=bF (j:=3) rfl;generalize (q0::q1::q2::q3::qr).map D.int=W at a0 a1 a2 a3⊢;unfold kK;rw[aI]
   walk_at "u"
   refine⟨cpl (by decide) (by decide) (by decide),cmL (by decide) (by decide),by decide,cpl (by decide) (by decide) (by decide),?_⟩
   have nv:N60 (f.fmod (2*10^(60:Int).toNat-1)-(10^(60:Int).toNat-1)):=by
    rw[gI _ (by decide)]
    have h1:=emod_nonneg f (show(2*10^(60:Int).toNat-1:Int)≠0 by decide)
    have h2:=emod_lt_of_pos f (show(0:Int)<2*10^(60:Int).toNat-1 by decide)
    unfold N60;rw[show((60:Int).toNat)=60 from rfl]at *
    omega
   generalize f.fmod (2*10^(60:Int).toNat-1)-(10^(60:Int).toNat-1)=v at nv⊢;unfold kJ;rw[aI];walk_at "u";simp only[a0,a1]
   have key: ∀v',N60 v'-> ∀x10:Option B,∃(ns':List Int) (z5 z6 z7 z8 z9 z10:Option B),([some (.pu (.int c)),some (.pu (.int (m:Int))),some (.pu (.int p)),some (.ow (xs.map .int)),some (.ow ((ns++[v']).map .int)),some (.pu (.int (0+(i:Int)))),some (.ow W),some (.pu (.int f)),x8,some (.pu (.int v')),x10]:Ev)=[some (.pu (.int c)),some (.pu (.int (m:Int))),some (.pu (.int p)),some (.ow (xs.map .int)),some (.ow (ns'.map .int)),z5,z6,z7,z8,z9,z10]/\ns'.length=i+1/\ ∀n∈ns',N60 n:=λv' nv' x10=>⟨ns++[v'],_,_,_,_,_,_,rfl,by simp[hl],λn hn'=>by
    rcases List.mem_append.mp hn' with z|z
    ·exact hn n z
    ·rw[List.mem_singleton.mp z];exact nv'⟩
   split
   ·refine xK a0 a2 a3 b4 b5 b6 b7 ?_ (by omega) λv' x10 nv'=>key v' nv' x10
    unfold N60;omega
   ·exact xK a0 a2 a3 b4 b5 b6 b7 nv (by omega) λv' x10 nv'=>key v' nv' x10
 ·rintro ρ ⟨ns,y5,y6,y7,y8,y9,y10,rfl,hl,hn⟩;unfold mV;walk_at "u";exact h ns hl hn
structure oW (t:List (List Int))(r n:Nat):Prop where
 len:t.length=r
 rows: ∀x∈t,x.length=n/\ ∀y∈x,N60 y
theorem uI {ns:List Int}{r n:Nat}(hl:ns.length=r*n)(h: ∀x∈ns,N60 x):oW ((range r).map λk=>(ns.drop (n*k)).take n) r n:=by
 refine⟨by simp,λx hx=> ?_⟩
 obtain⟨k,hk,rfl⟩:=List.mem_map.mp hx;have hk':=List.mem_range.mp hk;have h1:n*k+n<=r*n:=by
  have:n*(k+1)<=n*r:=Nat.mul_le_mul_left n hk';rw[mul_comm r n];rw[mul_succ]at this;exact this
 refine⟨by rw[length_take,length_drop,hl];omega,λy hy=>h y (List.mem_of_mem_drop (List.mem_of_mem_take hy))⟩
theorem z4 {ns:List Int}{r n k:Nat}(hl:ns.length=r*n)(hk:k<r)(hn:n<=1000):cutD (ns.map D.int) (some ((n:Int)*(0+(k:Int)))) (some ((n:Int)*(0+(k:Int))+(n:Int)))=((ns.drop (n*k)).take n).map .int:=by
 have h1:n*k+n<=r*n:=by
  have:n*(k+1)<=n*r:=Nat.mul_le_mul_left n hk;rw[mul_comm r n];rw[mul_succ]at this;exact this
 have:=u9 (ns.map D.int) (n*k) n (by rw[length_map,hl];exact h1)
 rw[Int.zero_add,<-Int.natCast_mul,<-Int.natCast_add,this,map_take,map_drop]
theorem uJ {ns:List Int}{r n:Nat}{ρ ρ1:Ev}{ui:UI}{Q:B->Ev->Prop}{cap:List (Option Nat)}{js:List Nat}(hl:ns.length=r*n)(hr:r<=1000)(hn:n<=1000)
  (hui: ∀Q:Nat->(Nat->D)->Ev->Prop,Q r (λk=> .int (0+(k:Int))) ρ1->ui ρ Q) (h0:iA (mC ρ1 js) cap 3=[none,some (.pu (eO ns)),some (.pu (.int (n:Int))),some (.ow [])])
  (hq:Q (.ow (((range r).map λk=>(ns.drop (n*k)).take n).map eO)) (mC ρ1 js)) :
  dX js cap 3 ui (dC 0) (λρ Q=>Q true ρ) (wT (aG 1) (iT (uOp fP (aG 2) (aG 0))) (iT (uOp eN (uOp fP (aG 2) (aG 0)) (aG 2)))) ρ Q:=by
 refine iD (t0:=0) r (λk=> .int (0+(k:Int))) ρ1 hui (by omega) (λx l=>[x,some (.pu (eO ns)),some (.pu (.int (n:Int))),some (.ow l)]) none h0 (λ_ _ _=>rfl) (λ_ _=>zero_lt_succ _) (λ_ _ _ q=>q) (λ_ _ _=>rfl) (λk=>eO ((ns.drop (n*k)).take n)) ?_ ?_
 ·intro k l Q' hk q;simp only[eO]at q⊢;walk_at "u";refine⟨cmL (by omega) (by omega),cmL (by omega) (by omega),?_⟩
  rw[z4 hl hk hn];exact q
 ·rw[map_map]at hq;exact hq
def cD:Φ:=λds Q=> ∃(c:Int) (n:Nat) (p:Int),ds=[.int c,.int (n:Int),.int p]/\n<=9/\0<p/\ ∀t:List (List Int),oW t n n->Q (.pu (gK t))
def iG:US:=(cY (aK gF (aE (dX [3,1] [none,some 3,some 1,none] 3 (kG (aE (aG 1) aM)) (dC 0) (λρ Q=>Q true ρ) (wT (aG 1) (iT (uOp fP (aG 2) (aG 0))) (iT (uOp eN (uOp fP (aG 2) (aG 0)) (aG 2))))) aM)))
def fW:US:=(aS (cF 3 (aK dE (aE (aG 0) (aE (uOp fP (aG 1) (aG 1)) (aE (aG 2) aM))))) iG)
theorem mK: ∀ds Q,cD ds Q->ds.length=3:=by rintro ds Q ⟨ns,k,p,rfl,_⟩;rfl
theorem nF: ∀ds Q,cD ds Q->fW {nx:=λ_=>Q (.pu .non),rt:=Q} (init ["c","m","p","f"] ds):=by
 rintro ds Q ⟨c,n,p,rfl,n1,p0,h⟩;unfold fW;show(aS _ _:US) _ [some (.pu (.int c)),some (.pu (.int (n:Int))),some (.pu (.int p)),none];rw[aI];walk_at "u";refine⟨cmL (by omega) (by omega),c,n*n,p,by rw[Int.natCast_mul],?_,p0,λns hl hn=> ?_⟩
 ·exact le_trans (mul_le_mul n1 n1) (by decide)
 dsimp only;unfold iG;rw[eS,eT,dD];refine uJ (r:=n) (n:=n) hl (by omega) (by omega) (ρ1:=[some (.pu (.int c)),some (.pu (.int (n:Int))),some (.pu (.int p)),some (.pu (eO ns))]) ?_ rfl (h _ (uI hl hn))
 intro Q' q;walk_at "u";refine⟨⟨by omega,by omega⟩,?_⟩
 rw[toNat_natCast];exact q
def dS:Φ:=λds Q=> ∃(c:Int) (r n:Nat) (p:Int),ds=[.int c,.int (r:Int),.int (n:Int),.int p]/\r<=9/\n<=9/\0<p/\ ∀t:List (List Int),oW t r n->Q (.pu (gK t))
def jM:US:=(cY (aK gF (aE (dX [4,2] [none,some 4,some 2,none] 3 (kG (aE (aG 1) aM)) (dC 0) (λρ Q=>Q true ρ) (wT (aG 1) (iT (uOp fP (aG 2) (aG 0))) (iT (uOp eN (uOp fP (aG 2) (aG 0)) (aG 2))))) aM)))
def i3:US:=(aS (cF 4 (aK dE (aE (aG 0) (aE (uOp fP (aG 1) (aG 2)) (aE (aG 3) aM))))) jM)
theorem oE: ∀ds Q,dS ds Q->ds.length=4:=by rintro ds Q ⟨ns,r,k,p,rfl,_⟩;rfl
theorem oX: ∀ds Q,dS ds Q->i3 {nx:=λ_=>Q (.pu .non),rt:=Q} (init ["c","r","m","p","f"] ds):=by
 rintro ds Q ⟨c,r,n,p,rfl,r1,n1,p0,h⟩;unfold i3;show(aS _ _:US) _ [some (.pu (.int c)),some (.pu (.int (r:Int))),some (.pu (.int (n:Int))),some (.pu (.int p)),none];rw[aI];walk_at "u";refine⟨cmL (by omega) (by omega),c,r*n,p,by rw[Int.natCast_mul],?_,p0,λns hl hn=> ?_⟩
 ·exact le_trans (mul_le_mul r1 n1) (by decide)
 dsimp only;unfold jM;rw[eS,eT,dD];refine uJ (r:=r) (n:=n) hl (by omega) (by omega) (ρ1:=[some (.pu (.int c)),some (.pu (.int (r:Int))),some (.pu (.int (n:Int))),some (.pu (.int p)),some (.pu (eO ns))]) ?_ rfl (h _ (uI hl hn))
 intro Q' q;walk_at "u";refine⟨⟨by omega,by omega⟩,?_⟩
 rw[toNat_natCast];exact q
theorem oW.ok {t:List (List Int)}{r n:Nat}(h:oW t r n)(hr:r<=20)(hn:n<=100):lP t:=⟨by rw[h.len];exact hr,λx hx=>⟨by rw[(h.rows x hx).1];exact hn,(h.rows x hx).2⟩⟩
theorem oW.sqr {t:List (List Int)}{n:Nat}(h:oW t n n)(h0:1<=n)(hr:n<=20):Sqr t:=⟨h.ok hr (by omega),λz=>by have:=h.len;rw[z]at this;simp at this;omega,λx hx=>by rw[(h.rows x hx).1,h.len]⟩
theorem oW.tabN {t:List (List Int)}{n:Nat}(h:oW t n n)(hr:n<=20):TabN t n:=⟨h.len,λx hx=>(h.rows x hx).1,hr⟩
structure uK (p:gL):Prop where
 tab: ∃n,1<=n/\n<=4/\oW p.1 n n
 n60:N60 p.2
 lo:1<=p.2
theorem uK.r {p:gL}(h:uK p):xH p:=by
 obtain⟨n,n1,n4,t⟩:=h.tab;exact⟨⟨t.ok (by omega) (by omega),h.n60⟩,t.sqr n1 (by omega),h.lo⟩
structure rC (ps:List gL):Prop where
 few:ps.length<=4
 parts: ∀p∈ps,uK p
theorem rC.ok {ps:List gL}(h:rC ps):kB ps:=⟨by have:=h.few;omega,λp hp=>(h.parts p hp).r.ok⟩
def eU:Φ:=λds Q=> ∃(s:List Int) (k p:Int),ds=[.rol (s.map .int),.int k,.int p]/\s.length<=63/\0<=k/\k<=1000/\0<p/\ ∀ps:List gL,rC ps->Q (.ow (ps.map cZ))
def iH:US:=(qS 4 (v1 (aE (aK cD (aE (aK dL (aE (aG 0) (aE (uOp eN (uOp eN (aG 1) (uC (.int 1))) (aG 5)) aM))) (aE (uOp eN (uIx (aV 3) (uOp eN (uC (.int 1)) (aG 5))) (uC (.int 1))) (aE (aG 2) aM)))) (aE (aK gMax (aE (uC (.int 1)) (aE (aK gAbs (aE (uIx (aV 6) (uC (.int 0))) aM)) aM))) aM))))
def fI:US:=(aS (cF 6 (aK dE (aE (aK dL (aE (aG 0) (aE (uOp eN (uOp eN (aG 1) (uC (.int 5))) (aG 5)) aM))) (aE (uC (.int 1)) (aE (uC (.int 999999739)) aM))))) iH)
def jN:US:=(nW 4)
def jO:US:=(aS (qR (kG (aE (uIx (aV 3) (uC (.int 0))) aM)) (dC 5) fI) jN)
def jP:US:=(aS (cF 4 (lC aM)) jO)
def iR:US:=(aS (cF 3 (aK dY (aE (aK dL (aE (aG 0) (aE (aG 1) aM))) (aE (lC (aE (uC (.int 5)) (aE (uC (.int 4)) (aE (uC (.int 4)) (aE (uC (.int 4)) (aE (uC (.int 4)) aM)))))) (aE (aG 2) aM))))) jP)
theorem oY: ∀ds Q,eU ds Q->ds.length=3:=by rintro ds Q ⟨ns,k,p,rfl,_⟩;rfl
theorem rD: ∀ds Q,eU ds Q->iR {nx:=λ_=>Q (.pu .non),rt:=Q} (init ["s","k","p","d","f","j","a"] ds):=by
 rintro ds Q ⟨s,k,p,rfl,s1,k0,k1,p0,h⟩;unfold iR;show(aS _ _:US) _ [some (.pu (.rol (s.map .int))),some (.pu (.int k)),some (.pu (.int p)),none,none,none,none];rw[aI];walk_at "u";refine⟨s,k,rfl,s1,k0,by omega,λcc=>⟨by decide,cc,[5,4,4,4,4],p,rfl,by decide,p0,by decide,λway hw=> ?_⟩⟩
 obtain⟨w0,w1,w2,w3,w4,rfl⟩: ∃w0 w1 w2 w3 w4,way=[w0,w1,w2,w3,w4]:=by
  match way,hw.1 with
  | [w0,w1,w2,w3,w4],_=>exact⟨w0,w1,w2,w3,w4,rfl⟩
 have b0:=hw.2 0 w0 5 rfl rfl;have wj: ∀j:Nat,j<4-> ∃w,atI ([w0,w1,w2,w3,w4].map D.int) (1+(0+(j:Int)))=some (.int w)/\0<=w/\w<4:=λj hj=>by
  have e:(1+(0+(j:Int)))=((1+j:Nat):Int):=by omega
  rw[e]
  match j,hj with
  | 0,_=>exact⟨w1,bF rfl,(hw.2 1 w1 4 rfl rfl)⟩
  | 1,_=>exact⟨w2,bF rfl,(hw.2 2 w2 4 rfl rfl)⟩
  | 2,_=>exact⟨w3,bF rfl,(hw.2 3 w3 4 rfl rfl)⟩
  | 3,_=>exact⟨w4,bF rfl,(hw.2 4 w4 4 rfl rfl)⟩
 have a0:atI ([w0,w1,w2,w3,w4].map D.int) 0=some (.int w0):=bF (j:=0) rfl;generalize [w0,w1,w2,w3,w4].map D.int=W at a0 wj⊢;try dsimp only
 unfold jP;rw[aI];walk_at "u";refine⟨by decide,?_⟩
 unfold jO;rw[aI];refine fB w0.toNat (λi=> .int (0+i)) [some (.pu (.rol (s.map .int))),some (.pu (.int k)),some (.pu (.int p)),some (.ow W),some (.ow []),none,none] ?_
  (λi ρ=> ∃(ps:List gL) (y5 y6:Option B),ρ=[some (.pu (.rol (s.map .int))),some (.pu (.int k)),some (.pu (.int p)),some (.ow W),some (.ow (ps.map cZ)),y5,y6]/\ps.length=i/\ ∀q∈ps,uK q)
  ⟨[],_,_,rfl,rfl,by simp⟩ ?_ ?_
 ·intro Q' q;walk_at "u";simp only[a0];exact⟨⟨by omega,by omega⟩,q⟩
 ·rintro i ρ hi ⟨ps,y5,y6,rfl,hl,hp⟩;obtain⟨w,aw,wl,wh⟩:=wj i (by omega)
  refine⟨by simp,?_⟩
  show fI _ [some (.pu (.rol (s.map .int))),some (.pu (.int k)),some (.pu (.int p)),some (.ow W),some (.ow (ps.map cZ)),some (.pu (.int (0+(i:Int)))),y6]
  unfold fI;rw[aI];walk_at "u";refine⟨s,_,rfl,s1,by omega,by omega,λc1=>⟨c1,1,_,rfl,by omega,by decide,λns hl1 hn1=> ?_⟩⟩
  obtain⟨f,rfl⟩: ∃f,ns=[f]:=by
   match ns,hl1 with
   | [f],_=>exact⟨f,rfl⟩
  have nf:=hn1 f (by simp)
  try dsimp only
  unfold iH;simp only[eO,map_cons,map_nil];walk_at "u";refine⟨s,_,rfl,s1,by omega,by omega,λc2=> ?_⟩
  simp only[aw];refine⟨c2,(w+1).toNat,p,by rw[toNat_of_nonneg (by omega)],by omega,p0,λt ht=> ?_⟩
  have af:atI [D.int f] 0=some (.int f):=bF (j:=0) rfl;simp only[af];have hz:(ps.map cZ).length<sizeLine:=by rw[length_map];exact lt_of_lt_of_le (show _<10 by omega) (by decide)
  refine⟨by decide,hz,ps++[(t,(if(if f<0 then -f else f)>1 then(if f<0 then -f else f)else 1))],_,_,by rw[map_append];rfl,by simp[hl],λq hq=> ?_⟩
  rcases List.mem_append.mp hq with z|z
  ·exact hp q z
  ·rw[List.mem_singleton.mp z];unfold N60 at nf;refine⟨⟨(w+1).toNat,by omega,by omega,ht⟩,?_,?_⟩
   ·unfold N60;dsimp only;split<;>split<;>omega
   ·dsimp only;split<;>split<;>omega
 ·rintro ρ ⟨ps,y5,y6,rfl,hl,hp⟩;unfold jN;walk_at "u";exact h ps ⟨by omega,hp⟩
def eM:Φ:=λds Q=> ∃ps:List gL,ds=[.lst (ps.map cZ),.lst (ps.map cZ)]/\rC ps/\Q (.pu (.bl true))
def j0:US:=(eF (uOr (kE (cB (aK qU (aE (uIx (aV 2) (uC (.int 0))) (aE (uC (.ty "tuple")) aM))))) (kE (cB (aK e7 (aE (uIx (aV 2) (uC (.int 0))) (aE (j3 (uV (uIx (aV 2) (uC (.int 0))))) aM)))))) (cY (uC (.bl false))) cU)
def fX:US:=(aS (eF (uOr (kE (cB (aK qU (aE (aG 2) (aE (uC (.ty "tuple")) aM))))) (uOr (cB (uOp (fA true) (j3 (aV 2)) (uC (.int 2)))) (kE (cB (aK gJ (aE (uIx (aV 2) (uC (.int 1))) aM)))))) (cY (uC (.bl false))) cU) j0)
def kN:US:=(cY (uOp (t9 false) (aG 0) (aG 1)))
def kO:US:=(aS (qR (fN (aG 0)) (dC 2) fX) kN)
def jQ:US:=(aS (eF (uOr (kE (cB (aK qU (aE (aG 0) (aE (uC (.ty "list")) aM))))) (cB (uOp (fA true) (j3 (aV 0)) (j3 (aV 1))))) (cY (uC (.bl false))) cU) kO)
theorem rE: ∀ds Q,eM ds Q->ds.length=2:=by rintro ds Q ⟨ns,rfl,_⟩;rfl
theorem sH: ∀ds Q,eM ds Q->jQ {nx:=λ_=>Q (.pu .non),rt:=Q} (init ["f","d","p"] ds):=by
 rintro ds Q ⟨ps,rfl,ok,h⟩;unfold jQ;show(aS _ _:US) _ [some (.pu (.lst (ps.map cZ))),some (.pu (.lst (ps.map cZ))),none];rw[aI];walk_at "u";simp only[isI,not_true,if_false,false_eq_true,Bool.not_true];unfold kO;rw[aI];refine fB (ps.map cZ).length (λi=>(ps.map cZ).getD i .non) [some (.pu (.lst (ps.map cZ))),some (.pu (.lst (ps.map cZ))),none] ?_
  (λi ρ=> ∃x,ρ=[some (.pu (.lst (ps.map cZ))),some (.pu (.lst (ps.map cZ))),x]) ⟨_,rfl⟩ ?_ ?_
 ·intro Q' q;walk_at "u";exact q
 ·rintro i ρ hi ⟨x,rfl⟩;rw[length_map]at hi;have o:=ok.parts _ (getElem_mem hi);obtain⟨n,n1,n4,t⟩:=o.tab;rw[fE hi];refine⟨by simp,?_⟩
  show fX _ [some (.pu (.lst (ps.map cZ))),some (.pu (.lst (ps.map cZ))),some (.pu (.tup [gK ps[i].1,.int ps[i].2]))]
  have hl:=t.len;generalize ps[i]=q at *;unfold fX;rw[aI];walk_at "u";simp only[isI,at0,at1,not_true,if_false,false_eq_true,Bool.not_true];rw[if_neg (by decide)]
  refine⟨q.2,rfl,?_⟩
  simp only[Bool.not_true,false_eq_true,if_false];unfold j0;walk_at "u";simp only[at0,gK,isI,gE,not_true,if_false,false_eq_true,Bool.not_true];refine⟨q.1,n,by rw[length_map,hl];rfl,t.tabN (by omega),?_⟩
  simp only[Bool.not_true,false_eq_true,if_false];exact⟨_,rfl⟩
 ·rintro ρ ⟨x,rfl⟩;unfold kN;walk_at "u";exact(Pdk.parts ps).same (by decide) h
def pM:US:=(cY (uOp (fA false) (aK cN (aE (aK nN (aE (aG 11) aM)) aM)) (aK d6 (aE (aG 11) aM))))
def pN:US:=(aS (eF (kH (uOr (cB (uOp (fA true) (aK bB (aE (aG 9) aM)) (aK bL (aE (aG 9) aM)))) (cB (uOp (fA true) (aK bB (aE (aG 10) aM)) (aK bL (aE (aG 10) aM)))))) (cY (uC (.bl false))) cU) pM)
def pO:US:=(aS (cF 11 (lC (aE (v1 (aE (aG 9) (aE (uOp eN (uC (.int 1)) (uIx (aV 1) (uC (.int 1)))) aM))) (aE (v1 (aE (aG 10) (aE (uOp qT (uC (.int 10)) (uC (.int 20))) aM))) aM)))) pN)
def pP:US:=(aS (cF 10 (aK dS (aE (aK dL (aE (aG 0) (aE (uC (.int 16)) aM))) (aE (uOp eN (uC (.int 1)) (uIx (aV 1) (uC (.int 2)))) (aE (uOp eN (uC (.int 1)) (uIx (aV 1) (uC (.int 3)))) (aE (uC (.int 999999739)) aM)))))) pO)
def pQ:US:=(aS (cF 9 (aK dS (aE (aK dL (aE (aG 0) (aE (uC (.int 15)) aM))) (aE (uOp eN (uC (.int 1)) (uIx (aV 1) (uC (.int 0)))) (aE (uOp eN (uC (.int 1)) (uIx (aV 1) (uC (.int 1)))) (aE (uC (.int 999999751)) aM)))))) pP)
def mL:US:=(aS (cF 1 (aK dY (aE (aK dL (aE (aG 0) (aE (uC (.int 14)) aM))) (aE (lC (aE (uC (.int 4)) (aE (uC (.int 6)) (aE (uC (.int 4)) (aE (uC (.int 6)) aM))))) (aE (uC (.int 999999757)) aM))))) pQ)
def pR:US:=(aS (eF (kH (kE (cB (aK eM (aE (aK cV (aE (aG 4) aM)) (aE (aG 6) aM)))))) (cY (uC (.bl false))) cU) mL)
def pS:US:=(aS (qS 8 (uC (.int 0))) pR)
def pT:US:=(aS (eF (kH (kE (cB (aK eM (aE (aG 8) (aE (aG 6) aM)))))) (cY (uC (.bl false))) cU) pS)
def pU:US:=(aS (cF 8 (aK cV (aE (aG 4) aM))) pT)
def pV:US:=(aS (eF (kH (uOr (cB (uOp (fA true) (aK cN (aE (aG 7) aM)) (aG 4))) (cB (uOp (t9 true) (aG 7) (aG 6))))) (cY (uC (.bl false))) cU) pU)
def pW:US:=(aS (cF 7 (aK nN (aE (aG 6) aM))) pV)
def pX:US:=(aS (cF 4 (aK d6 (aE (aG 6) aM))) pW)
def pY:US:=(aS (cF 6 (aK eU (aE (aG 0) (aE (uC (.int 4)) (aE (uC (.int 999999761)) aM))))) pX)
def pZ:US:=(aS (eF (kH (uOr (cB (uOp (fA true) (aK bB (aE (aG 5) aM)) (aG 4))) (uOr (kE (cB (aK e7 (aE (aK bP (aE (aG 4) aM)) (aE (aG 2) aM))))) (cB (uOp (t9 true) (aK bP (aE (aG 4) aM)) (aG 5)))))) (cY (uC (.bl false))) cU) pY)
def qA:US:=(aS (cF 4 (aK bL (aE (aG 5) aM))) pZ)
def oF:US:=(aS (cF 5 (aK cD (aE (aK dL (aE (aG 0) (aE (uC (.int 3)) aM))) (aE (aG 2) (aE (uC (.int 999999797)) aM))))) qA)
def sI:US:=(aS (eF (kH (cB (uOp (fA false) (uIx (aV 1) (uC (.int 1))) (uC (.int 7))))) (cF 2 (uOp eN (uC (.int 5)) (uIx (aV 1) (uC (.int 2))))) cU) oF)
def sJ:US:=(aS (cF 2 (uOp eN (uC (.int 1)) (uIx (aV 1) (uC (.int 0))))) sI)
def sK:US:=(aS (cF 1 (aK dY (aE (aK dL (aE (aG 0) (aE (uC (.int 2)) aM))) (aE (lC (aE (uC (.int 4)) (aE (uC (.int 8)) (aE (uC (.int 5)) aM)))) (aE (uC (.int 999999883)) aM))))) sJ)
def sL:US:=(aS (eF (kH (uOr (cB (uOp (fA true) (aK cQ (aE (aG 3) aM)) (aG 4))) (uOr (kE (cB (aK kZ (aE (aK cJ (aE (aG 4) aM)) (aE (aG 2) aM))))) (cB (uOp (t9 true) (aK cJ (aE (aG 4) aM)) (aG 3)))))) (cY (uC (.bl false))) cU) sK)
def sM:US:=(aS (cF 4 (aK dG (aE (aG 3) aM))) sL)
def oG:US:=(aS (cF 3 (aK dE (aE (aK dL (aE (aG 0) (aE (uC (.int 1)) aM))) (aE (aG 2) (aE (uC (.int 999999893)) aM))))) sM)
def sN:US:=(aS (eF (kH (cB (uOp (fA false) (uIx (aV 1) (uC (.int 1))) (uC (.int 7))))) (cF 2 (uOp eN (uC (.int 1)) (uIx (aV 1) (uC (.int 2))))) cU) oG)
def sO:US:=(aS (cF 2 (uOp eN (uC (.int 1)) (uIx (aV 1) (uC (.int 0))))) sN)
def rF:US:=(aS (cF 1 (aK dY (aE (aK dL (aE (aG 0) (aE (uC (.int 0)) aM))) (aE (lC (aE (uC (.int 8)) (aE (uC (.int 8)) (aE (uC (.int 30)) aM)))) (aE (uC (.int 999999937)) aM))))) sO)
theorem xL {Q:B->Prop}{ns:List Int}{s1 s2 s3 s4 s5 s6 s7 s8:Option B}(hl:ns.length<=63)(hQ:Q (.pu (.bl true))) :
  mL {nx:=λ_=>Q (.pu .non),rt:=Q} [some (.pu (.rol (ns.map .int))),s1,s2,s3,s4,s5,s6,s7,s8,none,none,none]:=by
 unfold mL;rw[aI];walk_at "u";refine⟨ns,14,rfl,hl,by decide,by decide,λcc=>⟨by decide,cc,[4,6,4,6],_,rfl,by decide,by decide,by decide,λway hw=> ?_⟩⟩
 obtain⟨w0,w1,w2,w3,rfl⟩: ∃w0 w1 w2 w3,way=[w0,w1,w2,w3]:=by
  match way,hw.1 with
  | [w0,w1,w2,w3],_=>exact⟨w0,w1,w2,w3,rfl⟩
 have b0:=hw.2 0 w0 4 rfl rfl;have b1:=hw.2 1 w1 6 rfl rfl;have b2:=hw.2 2 w2 4 rfl rfl;have b3:=hw.2 3 w3 6 rfl rfl;have a0:atI ([w0,w1,w2,w3].map D.int) 0=some (.int w0):=bF (j:=0) rfl;have a1:atI ([w0,w1,w2,w3].map D.int) 1=some (.int w1):=bF (j:=1) rfl;have a2:atI ([w0,w1,w2,w3].map D.int) 2=some (.int w2):=bF (j:=2) rfl;have a3:atI ([w0,w1,w2,w3].map D.int) 3=some (.int w3):=bF (j:=3) rfl
 generalize [w0,w1,w2,w3].map D.int=W at a0 a1 a2 a3⊢;try dsimp only
 unfold pQ;rw[aI];walk_at "u";refine⟨ns,15,rfl,hl,by decide,by decide,λc1=> ?_⟩
 simp only[a0,a1];refine⟨c1,(1+w0).toNat,(1+w1).toNat,_,by rw[toNat_of_nonneg (by omega),toNat_of_nonneg (by omega)],by omega,by omega,by decide,λt1 h1=> ?_⟩
 try dsimp only
 unfold pP;rw[aI];walk_at "u";refine⟨ns,16,rfl,hl,by decide,by decide,λc2=> ?_⟩
 simp only[a2,a3];refine⟨c2,(1+w2).toNat,(1+w3).toNat,_,by rw[toNat_of_nonneg (by omega),toNat_of_nonneg (by omega)],by omega,by omega,by decide,λt2 h2=> ?_⟩
 have o1:=h1.ok (by omega) (by omega)
 have o2:=h2.ok (by omega) (by omega)
 try dsimp only
 unfold pO;rw[aI];walk_at "u";simp only[a1];refine⟨by decide,cpl (by decide) (by decide) (by decide),by decide,by decide,?_⟩
 have ep:([.tup [gK t1,.int (1+w1)],.tup [gK t2,.int ((10:Int)^(20:Int).toNat)]]:List D)=[(t1,1+w1),(t2,(10:Int)^(20:Int).toNat)].map cZ:=rfl;have op:kB [(t1,1+w1),(t2,(10:Int)^(20:Int).toNat)]:=by
  refine⟨by simp,λp hp=> ?_⟩
  rcases List.mem_cons.mp hp with rfl|hp
  ·exact⟨o1,by unfold N60;dsimp only;omega⟩
  ·rw[List.mem_singleton.mp hp];exact⟨o2,by unfold N60;dsimp only;decide⟩
 rw[ep];generalize [(t1,1+w1),(t2,(10:Int)^(20:Int).toNat)]=ps at op;unfold pN;rw[aI];walk_at "u";refine⟨t1,rfl,o1,t1,rfl,o1,?_⟩;simp only[not_true,if_false,decide_eq_true_eq];refine⟨t2,rfl,o2,t2,rfl,o2,?_⟩;simp only[not_true,if_false,decide_eq_true_eq];unfold pM;walk_at "u";refine⟨ps,rfl,op,ps,rfl,op,?_⟩;simp only[decide_true];exact hQ
theorem uL {Q:B->Prop}{ns:List Int}{n:Nat}{s1 s3 s4:Option B}(hl:ns.length<=63)(n1:1<=n)(n9:n<=9)(hQ:Q (.pu (.bl true))) :
  oF {nx:=λ_=>Q (.pu .non),rt:=Q} [some (.pu (.rol (ns.map .int))),s1,some (.pu (.int (n:Int))),s3,s4,none,none,none,none,none,none,none]:=by
 unfold oF;rw[aI];walk_at "u";refine⟨ns,3,rfl,hl,by decide,by decide,λcc=>⟨cc,n,_,rfl,n9,by decide,λt ht=> ?_⟩⟩
 have ok:=ht.ok (by omega) (by omega)
 have sq:=ht.sqr n1 (by omega)
 have tn:=ht.tabN (by omega)
 try dsimp only
 unfold qA;rw[aI];walk_at "u";refine⟨t,rfl,ok,?_⟩;try dsimp only
 unfold pZ;rw[aI];walk_at "u";refine⟨t,rfl,ok,?_⟩;simp only[not_true,if_false,decide_eq_true_eq];refine⟨t,rfl,sq,t,n,rfl,tn,?_⟩;simp only[Bool.not_true,false_eq_true,if_false];refine⟨t,rfl,sq,(Pdk.tab t).same (by decide) ?_⟩
 simp only[true_xor,Bool.not_true,false_eq_true,if_false];unfold pY;rw[aI];walk_at "u";refine⟨ns,4,_,rfl,hl,by decide,by decide,by decide,λps hp=> ?_⟩
 have op:=hp.ok;have rp:=λp h=>(hp.parts p h).r
 try dsimp only
 unfold pX;rw[aI];walk_at "u";refine⟨ps,rfl,op,?_⟩;try dsimp only
 unfold pW;rw[aI];walk_at "u";try dsimp only
 unfold pV;rw[aI];walk_at "u";refine⟨ps,rfl,op,?_⟩;simp only[not_true,if_false,decide_eq_true_eq];refine(Pdk.parts ps).same (by decide) ?_
 simp only[true_xor,Bool.not_true,false_eq_true,if_false];unfold pU;rw[aI];walk_at "u";refine⟨ps,rfl,op,rp,?_⟩;try dsimp only
 unfold pT;rw[aI];walk_at "u";refine⟨ps,rfl,hp,?_⟩;simp only[Bool.not_true,false_eq_true,if_false];unfold pS;rw[aI];walk_at "u";refine⟨by rw[length_map];exact Nat.lt_of_le_of_lt hp.few (by decide),?_⟩
 unfold pR;rw[aI];walk_at "u";refine⟨ps,rfl,op,rp,ps,rfl,hp,?_⟩;simp only[Bool.not_true,false_eq_true,if_false];exact xL hl hQ
theorem uM {Q:B->Prop}{ns:List Int}{n:Nat}{s1:Option B}(hl:ns.length<=63)(n1:1<=n)(n30:n<=30)(hQ:Q (.pu (.bl true))) :
  oG {nx:=λ_=>Q (.pu .non),rt:=Q} [some (.pu (.rol (ns.map .int))),s1,some (.pu (.int (n:Int))),none,none,none,none,none,none,none,none,none]:=by
 unfold oG;rw[aI];walk_at "u";refine⟨ns,1,rfl,hl,by decide,by decide,λcc=>⟨cc,n,_,rfl,by omega,by decide,λr hr hn=> ?_⟩⟩
 have ok:lN r:=⟨by omega,hn⟩
 have r0:r≠[]:=λz=>by rw[z]at hr;simp at hr;omega
 try dsimp only
 unfold sM;rw[aI];walk_at "u";refine⟨r,rfl,ok,?_⟩;try dsimp only
 unfold sL;rw[aI];walk_at "u";refine⟨r,rfl,ok,?_⟩;simp only[not_true,if_false,decide_eq_true_eq];refine⟨r,rfl,ok,r0,r,by rw[hr],by omega,?_⟩
 simp only[Bool.not_true,false_eq_true,if_false];refine⟨r,rfl,ok,r0,(Pdk.row r).same (by decide) ?_⟩
 simp only[true_xor,Bool.not_true,false_eq_true,if_false];unfold sK;rw[aI];walk_at "u";refine⟨ns,2,rfl,hl,by decide,by decide,λc2=>⟨by decide,c2,[4,8,5],_,rfl,by decide,by decide,by decide,λway hw=> ?_⟩⟩
 obtain⟨w0,w1,w2,rfl⟩: ∃w0 w1 w2,way=[w0,w1,w2]:=by
  match way,hw.1 with
  | [w0,w1,w2],_=>exact⟨w0,w1,w2,rfl⟩
 have b0:=hw.2 0 w0 4 rfl rfl;have b2:=hw.2 2 w2 5 rfl rfl;have a0:atI ([w0,w1,w2].map D.int) 0=some (.int w0):=bF (j:=0) rfl;have a1:atI ([w0,w1,w2].map D.int) 1=some (.int w1):=bF (j:=1) rfl;have a2:atI ([w0,w1,w2].map D.int) 2=some (.int w2):=bF (j:=2) rfl;generalize [w0,w1,w2].map D.int=W at a0 a1 a2⊢;try dsimp only
 unfold sJ;rw[aI];walk_at "u";simp only[a0];unfold sI;rw[aI];walk_at "u";simp only[a1,a2];split
 ·have:=uL (Q:=Q) (n:=(5+w2).toNat) (s1:=some (.ow W)) (s3:=some (.pu (eO r))) (s4:=some (.pu (.str (kF r)))) hl (by omega) (by omega) hQ
  rw[toNat_of_nonneg (by omega)]at this
  exact this
 ·have:=uL (Q:=Q) (n:=(1+w0).toNat) (s1:=some (.ow W)) (s3:=some (.pu (eO r))) (s4:=some (.pu (.str (kF r)))) hl (by omega) (by omega) hQ
  rw[toNat_of_nonneg (by omega)]at this
  exact this
theorem rd_law: ∀ds Q,pE ds Q->rF {nx:=λ_=>Q (.pu .non),rt:=Q} (init ["s","d","m","r","t","a","p","h","o","x","y","z"] ds):=by
 rintro ds Q ⟨ns,rfl,hl,hQ⟩;unfold rF;show(aS _ _:US) _ [some (.pu (.rol (ns.map .int))),none,none,none,none,none,none,none,none,none,none,none];rw[aI];walk_at "u";refine⟨ns,0,rfl,hl,by decide,by decide,λc2=>⟨by decide,c2,[8,8,30],_,rfl,by decide,by decide,by decide,λway hw=> ?_⟩⟩
 obtain⟨w0,w1,w2,rfl⟩: ∃w0 w1 w2,way=[w0,w1,w2]:=by
  match way,hw.1 with
  | [w0,w1,w2],_=>exact⟨w0,w1,w2,rfl⟩
 have b0:=hw.2 0 w0 8 rfl rfl;have b2:=hw.2 2 w2 30 rfl rfl;have a0:atI ([w0,w1,w2].map D.int) 0=some (.int w0):=bF (j:=0) rfl;have a1:atI ([w0,w1,w2].map D.int) 1=some (.int w1):=bF (j:=1) rfl;have a2:atI ([w0,w1,w2].map D.int) 2=some (.int w2):=bF (j:=2) rfl;generalize [w0,w1,w2].map D.int=W at a0 a1 a2⊢;try dsimp only
 unfold sO;rw[aI];walk_at "u";simp only[a0];unfold sN;rw[aI];walk_at "u";simp only[a1,a2];split
 ·have:=uM (Q:=Q) (n:=(1+w2).toNat) (s1:=some (.ow W)) hl (by omega) (by omega) hQ
  rw[toNat_of_nonneg (by omega)]at this
  exact this
 ·have:=uM (Q:=Q) (n:=(1+w0).toNat) (s1:=some (.ow W)) hl (by omega) (by omega) hQ
  rw[toNat_of_nonneg (by omega)]at this
  exact this
theorem tP:bootBuiltins "str"=some (.type "str"):=by decide +kernel
end M
end
namespace M
open PySem PySem.Spec PyProof.Rows L2
set_option maxHeartbeats 4000000
def top (i:Nat):Stmt:=PySem.Challenge.pw_ringhouse_k86_written.main.body.getD i (.Pass ⟨0,0,0,0⟩)
abbrev bV:Stmt:=top 7
abbrev bH:Stmt:=top 8
abbrev bI:Stmt:=top 9
abbrev bW:Stmt:=top 10
abbrev bE:Stmt:=top 11
abbrev bN:Stmt:=top 12
abbrev cK:Stmt:=top 13
abbrev bX:Stmt:=top 14
abbrev jR:Stmt:=top 16
abbrev gW:Stmt:=top 17
abbrev gX:Stmt:=top 18
abbrev gY:Stmt:=top 19
abbrev lY:Stmt:=top 20
abbrev dM:Stmt:=top 21
abbrev fQ:Stmt:=top 22
abbrev bO:Stmt:=top 23
abbrev dH:Stmt:=top 24
abbrev dN:Stmt:=top 25
abbrev cG:Stmt:=top 26
abbrev cH:Stmt:=top 27
abbrev e8:Stmt:=top 28
abbrev cI:Stmt:=top 29
abbrev jS:Stmt:=top 30
theorem oH:b9 ["row"] ["row"] (aB bV):=⟨rfl,rfl,rfl,by decide +kernel,rfl,by decide +kernel,by decide +kernel⟩
theorem mM:b9 ["table"] ["table"] (aB bH):=⟨rfl,rfl,rfl,by decide +kernel,rfl,by decide +kernel,by decide +kernel⟩
theorem mN:b9 ["parts"] ["parts"] (aB bI):=⟨rfl,rfl,rfl,by decide +kernel,rfl,by decide +kernel,by decide +kernel⟩
theorem kP:b9 ["text","words"] ["text"] (aB bW):=⟨rfl,rfl,rfl,by decide +kernel,rfl,by decide +kernel,by decide +kernel⟩
theorem j1:b9 ["text","rows"] ["text"] (aB bE):=⟨rfl,rfl,rfl,by decide +kernel,rfl,by decide +kernel,by decide +kernel⟩
theorem nG:b9 ["text"] ["text"] (aB bN):=⟨rfl,rfl,rfl,by decide +kernel,rfl,by decide +kernel,by decide +kernel⟩
theorem jT:b9 ["text","sides"] ["text"] (aB cK):=⟨rfl,rfl,rfl,by decide +kernel,rfl,by decide +kernel,by decide +kernel⟩
theorem jU:b9 ["word","figures"] ["word"] (aB bX):=⟨rfl,rfl,rfl,by decide +kernel,rfl,by decide +kernel,by decide +kernel⟩
theorem zA:b9 ["_law_script","_law_k"] ["_law_script","_law_k"] (aB jR):=⟨rfl,rfl,rfl,by decide +kernel,rfl,by decide +kernel,by decide +kernel⟩
theorem oI:b9 ["_law_cell_here","_law_k","_law_prime","_law_far"] ["_law_cell_here","_law_k","_law_prime"] (aB gW):=⟨rfl,rfl,rfl,by decide +kernel,rfl,by decide +kernel,by decide +kernel⟩
theorem iI:b9 ["_law_cell_here","_law_widths","_law_prime","_law_left","_law_found","_law_k"] ["_law_cell_here","_law_widths","_law_prime"] (aB gX):=⟨rfl,rfl,rfl,by decide +kernel,rfl,by decide +kernel,by decide +kernel⟩
theorem xM:b9 ["_law_found"] ["_law_found"] (aB gY):=⟨rfl,rfl,rfl,by decide +kernel,rfl,by decide +kernel,by decide +kernel⟩
theorem sc_row:b9 ["_law_found","_law_many"] ["_law_found","_law_many"] (aB lY):=⟨rfl,rfl,rfl,by decide +kernel,rfl,by decide +kernel,by decide +kernel⟩
theorem sP:b9 ["_law_found","_law_many"] ["_law_found","_law_many"] (aB dM):=⟨rfl,rfl,rfl,by decide +kernel,rfl,by decide +kernel,by decide +kernel⟩
theorem bT:b9 ["_law_cell_here","_law_many","_law_prime","_law_found","_law_row_here","_law_k","_law_part","_law_far","_law_low","_law_place","_law_j"] ["_law_cell_here","_law_many","_law_prime"] (aB fQ):=⟨rfl,rfl,rfl,by decide +kernel,rfl,by decide +kernel,by decide +kernel⟩
theorem j2:b9 ["_law_cell_here","_law_many","_law_prime","_law_found"] ["_law_cell_here","_law_many","_law_prime"] (aB bO):=⟨rfl,rfl,rfl,by decide +kernel,rfl,by decide +kernel,by decide +kernel⟩
theorem eV:b9 ["_law_script","_law_k","_law_prime","_law_deep","_law_found","_law_j","_law_far"] ["_law_script","_law_k","_law_prime"] (aB dH):=⟨rfl,rfl,rfl,by decide +kernel,rfl,by decide +kernel,by decide +kernel⟩
theorem sQ:b9 ["_law_row_here"] ["_law_row_here"] (aB dN):=⟨rfl,rfl,rfl,by decide +kernel,rfl,by decide +kernel,by decide +kernel⟩
theorem oZ:b9 ["_law_table"] ["_law_table"] (aB cG):=⟨rfl,rfl,rfl,by decide +kernel,rfl,by decide +kernel,by decide +kernel⟩
theorem p4:b9 ["_law_parts"] ["_law_parts"] (aB cH):=⟨rfl,rfl,rfl,by decide +kernel,rfl,by decide +kernel,by decide +kernel⟩
theorem mY:b9 ["_law_found","_law_due","_law_pair"] ["_law_found","_law_due"] (aB e8):=⟨rfl,rfl,rfl,by decide +kernel,rfl,by decide +kernel,by decide +kernel⟩
theorem kQ:b9 ["_law_cell_here","_law_rows","_law_many","_law_prime","_law_found"] ["_law_cell_here","_law_rows","_law_many","_law_prime"] (aB cI):=⟨rfl,rfl,rfl,by decide +kernel,rfl,by decide +kernel,by decide +kernel⟩
theorem dO:b9 ["_law_script","_law_deep","_law_many","_law_row_here","_law_text","_law_table","_law_parts","_law_handed","_law_told","_law_one","_law_two","_law_pairs"] ["_law_script"] (aB jS):=⟨rfl,rfl,rfl,by decide +kernel,rfl,by decide +kernel,by decide +kernel⟩
section
variable {P:Program}{w:World}{K:Frag}{mg:Str->Option Value}{base:Heap}
theorem nH (iJ:mg "str"=none){f:Addr}{cdv:Value}{A:Around}{outer:List Env}{s:Shared}{H:Hp}{E:XK}(hr:cL 0 (A.deeper (envOfC "shown_row" (aB bV) s.heap.objs.size f cdv))) :
  eE (eI CX0 P w K mg base ["row"] "shown_row" (aB bV) f cdv A outer s H E).nox (aL bV) jG:=
 (aN (aW (gH PySem.F.slot_str_join PySem.F.type_str_join jY eA (aA (cE (js:=[]) (N:=["c",".acc"]) (cap:=[none,none]) (last:=1) (esc:=(aB bV).names) (XN:=["row"]) rfl rfl (by decide +kernel) (by decide) (by decide) rfl (eJ (aC 0 (pv 0))) (λ_ _ _ _ _ _=>(bU 0 (bM (show Nodup (["c",".acc"]:List Str)by decide +kernel) rfl (Or.inl rfl)))) (λ_ _ _ _ _ _=>d9) (λ_ _ _ _ _ _=>(cM tF rfl iJ tP (aA (aC 0 (pv 0)) aD)))) aD))))
theorem lZ (dU:Fn P w K mg base "shown_row" ["row"] 1 cQ){f:Addr}{cdv:Value}{A:Around}{outer:List Env}{s:Shared}{H:Hp}{E:XK}(hr:cL 1 (A.deeper (envOfC "shown_table" (aB bH) s.heap.objs.size f cdv))) :
  eE (eI CX0 P w K mg base ["table"] "shown_table" (aB bH) f cdv A outer s H E).nox (aL bH) iE:=
 (aN (aW (gH PySem.F.slot_str_join PySem.F.type_str_join jY eA (aA (cE (js:=[]) (N:=["row",".acc"]) (cap:=[none,none]) (last:=1) (esc:=(aB bH).names) (XN:=["table"]) rfl rfl (by decide +kernel) (by decide) (by decide) rfl (eJ (aC 0 (pv 0))) (λ_ _ _ _ _ _=>(bU 0 (bM (show Nodup (["row",".acc"]:List Str)by decide +kernel) rfl (Or.inl rfl)))) (λ_ _ _ _ _ _=>d9) (λ_ _ _ _ _ _=>(aT dU hr (by decide) rfl (aA (aC 0 (pv 0)) aD)))) aD))))
theorem m3 (bK:mg "len"=none){gP:Tok}(d7:mg "NO_PARTS"=some (.str "one" gP))(bQ:Fn P w K mg base "shown_table" ["table"] 2 bB){f:Addr}{cdv:Value}{A:Around}{outer:List Env}{s:Shared}{H:Hp}{E:XK}(hr:cL 2 (A.deeper (envOfC "shown_parts" (aB bI) s.heap.objs.size f cdv))) :
  eE (eI CX0 P w K mg base ["parts"] "shown_parts" (aB bI) f cdv A outer s H E).nox (aL bI) fF:=
 (aH (d8 (aX j7 (eK (aQ 0 (pv 0)) rfl bK) aF (bC _)) (aN (aW (qZ rfl d7))) bS) (aN (aW (gH PySem.F.slot_str_join PySem.F.type_str_join jY eA (aA (cE (js:=[]) (N:=["table","often",".acc"]) (cap:=[none,none,none]) (last:=2) (esc:=(aB bI).names) (XN:=["parts"]) rfl rfl (by decide +kernel) (by decide) (by decide) rfl (eJ (aC 0 (pv 0))) (λ_ _ _ _ _ _=>(ug_tup rfl (rR 0 (bM (show Nodup (["table","often",".acc"]:List Str)by decide +kernel) rfl (Or.inl rfl)) (rR 1 (bM (show Nodup (["table","often",".acc"]:List Str)by decide +kernel) rfl (Or.inl rfl)) yF)) (pG (pG wR)))) (λ_ _ _ _ _ _=>d9) (λ_ _ _ _ _ _=>(pu_fmt (aT bQ hr (by decide) rfl (aA (aC 0 (pv 0)) aD)) (aC 1 (pv 1))))) aD)))))
theorem oJ (fY:mg "all"=none)(b8:mg "tuple"=none)(gZ:mg "int"=none)(dW:Fn P w K mg base "is_number" ["word"] 1 cR){f:Addr}{cdv:Value}{A:Around}{outer:List Env}{s:Shared}{H:Hp}{E:XK}(hr:cL 1 (A.deeper (envOfC "read_row" (aB bW) s.heap.objs.size f cdv))) :
  eE (eI CX0 P w K mg base ["text","words"] "read_row" (aB bW) f cdv A outer s H E).nox (aL bW) hV:=
 (aH (aU 1 kP.nd rfl (Or.inl rfl) (gH PySem.F.slot_str_split PySem.F.type_str_split lK (aC 0 (pv 0)) (aA eA aD)) (hl:=il (n:=2) rfl (by decide))) (aH (d8 (e9 (gC (cP (qW rfl) rfl fY qX (aA (cE (js:=[]) (N:=["word",".acc"]) (cap:=[none,none]) (last:=1) (esc:=(aB bW).names) (XN:=["text","words"]) rfl rfl (by decide +kernel) (by decide) (by decide) rfl (eJ (aC 1 (pv 1))) (λ_ _ _ _ _ _=>(bU 0 (bM (show Nodup (["word",".acc"]:List Str)by decide +kernel) rfl (Or.inl rfl)))) (λ_ _ _ _ _ _=>d9) (λ_ _ _ _ _ _=>(aT dW hr (by decide) rfl (aA (aC 0 (pv 0)) aD)))) aD)))) (aN nX) bS) (aN (aW (cM jA rfl b8 eR (aA (cE (js:=[]) (N:=["word",".acc"]) (cap:=[none,none]) (last:=1) (esc:=(aB bW).names) (XN:=["text","words"]) rfl rfl (by decide +kernel) (by decide) (by decide) rfl (eJ (aC 1 (pv 1))) (λ_ _ _ _ _ _=>(bU 0 (bM (show Nodup (["word",".acc"]:List Str)by decide +kernel) rfl (Or.inl rfl)))) (λ_ _ _ _ _ _=>d9) (λ_ _ _ _ _ _=>(cM qY rfl gZ r8 (aA (aC 0 (pv 0)) aD)))) aD))))))
theorem mO (b8:mg "tuple"=none)(oO:mg "any"=none)(bK:mg "len"=none)(dP:Fn P w K mg base "read_row" ["text"] 2 cJ){f:Addr}{cdv:Value}{A:Around}{outer:List Env}{s:Shared}{H:Hp}{E:XK}(hr:cL 2 (A.deeper (envOfC "read_table" (aB bE) s.heap.objs.size f cdv))) :
  eE (eI CX0 P w K mg base ["text","rows"] "read_table" (aB bE) f cdv A outer s H E).nox (aL bE) fT:=
 (aH (aU 1 j1.nd rfl (Or.inr rfl) (cM jA rfl b8 eR (aA (cE (js:=[]) (N:=["part",".acc"]) (cap:=[none,none]) (last:=1) (esc:=(aB bE).names) (XN:=["text","rows"]) rfl rfl (by decide +kernel) (by decide) (by decide) rfl (eJ (gH PySem.F.slot_str_split PySem.F.type_str_split lK (aC 0 (pv 0)) (aA eA aD))) (λ_ _ _ _ _ _=>(bU 0 (bM (show Nodup (["part",".acc"]:List Str)by decide +kernel) rfl (Or.inl rfl)))) (λ_ _ _ _ _ _=>d9) (λ_ _ _ _ _ _=>(aT dP hr (by decide) rfl (aA (aC 0 (pv 0)) aD)))) aD)) (hl:=il (n:=2) rfl (by decide))) (aH (d8 (gC (cP (cu_any rfl) rfl oO bt_any (aA (cE (js:=[]) (N:=["row","rows",".acc"]) (cap:=[none,some 1,none]) (last:=2) (esc:=(aB bE).names) (XN:=["text","rows"]) rfl rfl (by decide +kernel) (by decide) (by decide) rfl (eJ (aC 1 (pv 1))) (λ_ _ _ _ _ _=>(bU 0 (bM (show Nodup (["row","rows",".acc"]:List Str)by decide +kernel) rfl (Or.inl rfl)))) (λ_ _ _ _ _ _=>d9) (λ_ _ _ _ _ _=>(qO j8 (eK (aQ 0 (pv 0)) rfl bK) (eK (aQ 1 (pv 1)) rfl bK) (bC _)))) aD))) (aN nX) bS) (aN (qQ 1 (pv 1)))))
theorem mP {gP:Tok}(d7:mg "NO_PARTS"=some (.str "one" gP))(i4:Fn P w K mg base "read_part" ["text"] 4 e6){f:Addr}{cdv:Value}{A:Around}{outer:List Env}{s:Shared}{H:Hp}{E:XK}(hr:cL 4 (A.deeper (envOfC "read_parts" (aB bN) s.heap.objs.size f cdv))) :
  eE (eI CX0 P w K mg base ["text"] "read_parts" (aB bN) f cdv A outer s H E).nox (aL bN) fV:=
 (aH (d8 (aX j7 (aC 0 (pv 0)) (qZ rfl d7) (bC _)) (aN (aW (gD aD))) bS) (aN (aW (cE (js:=[]) (N:=["part",".acc"]) (cap:=[none,none]) (last:=1) (esc:=(aB bN).names) (XN:=["text"]) rfl rfl (by decide +kernel) (by decide) (by decide) rfl (eJ (gH PySem.F.slot_str_split PySem.F.type_str_split lK (aC 0 (pv 0)) (aA eA aD))) (λ_ _ _ _ _ _=>(bU 0 (bM (show Nodup (["part",".acc"]:List Str)by decide +kernel) rfl (Or.inl rfl)))) (λ_ _ _ _ _ _=>d9) (λ_ _ _ _ _ _=>(aT i4 hr (by decide) rfl (aA (aC 0 (pv 0)) aD)))))))
theorem nI (bK:mg "len"=none)(gZ:mg "int"=none)(dW:Fn P w K mg base "is_number" ["word"] 1 cR)(cS:Fn P w K mg base "read_table" ["text"] 3 bP){f:Addr}{cdv:Value}{A:Around}{outer:List Env}{s:Shared}{H:Hp}{E:XK}(hr:cL 3 (A.deeper (envOfC "read_part" (aB cK) s.heap.objs.size f cdv))) :
  eE (eI CX0 P w K mg base ["text","sides"] "read_part" (aB cK) f cdv A outer s H E).nox (aL cK) gO:=
 (aH (aU 1 jT.nd rfl (Or.inl rfl) (gH PySem.F.slot_str_split PySem.F.type_str_split lK (aC 0 (pv 0)) (aA eA aD)) (hl:=il (n:=2) rfl (by decide))) (aH (d8 (PUW.pt (eB (aX j8 (eK (aQ 1 (pv 1)) rfl bK) aF (bC _)) (eB (e9 (gC (aT dW hr (by decide) rfl (aA (bY (aQ 1 (pv 1)) aF (λ_ _=>rfl)) aD)))) (eP (aX wL (cM qY rfl gZ r8 (aA (bY (aQ 1 (pv 1)) aF (λ_ _=>rfl)) aD)) aF (bC _)))))) (aN nX) bS) (aN (aW (qP (aA (aT cS hr (by decide) rfl (aA (bY (aQ 1 (pv 1)) aF (λ_ _=>rfl)) aD)) (aA (cM qY rfl gZ r8 (aA (bY (aQ 1 (pv 1)) aF (λ_ _=>rfl)) aD)) aD)))))))
theorem nJ (bK:mg "len"=none)(fY:mg "all"=none){gQ:Tok}(cT:mg "MOST_FIGURES"=some (.int 60 gQ)){mR:Tok}(fJ:mg "FIGURES"=some (.str "0123456789" mR)){f:Addr}{cdv:Value}{A:Around}{outer:List Env}{s:Shared}{H:Hp}{E:XK}(hr:cL 0 (A.deeper (envOfC "is_number" (aB bX) s.heap.objs.size f cdv))) :
  eE (eI CX0 P w K mg base ["word","figures"] "is_number" (aB bX) f cdv A outer s H E).nox (aL bX) gM:=
 (aH (d8 (aX j7 (aC 0 (pv 0)) eA (bC _)) (aN (aW i7)) bS) (aH (aU 1 jU.nd rfl (Or.inl rfl) (wE (gC (gH PySem.F.slot_str_startswith PySem.F.type_str_startswith v9 (aC 0 (pv 0)) (aA eA aD))) (v8 (aC 0 (pv 0)) (fO aF) rT) (aC 0 (pv 0))) (hl:=il (n:=2) rfl (by decide))) (aH (d8 (PUW.pt (eB (aX j7 (aC 1 (pv 1)) eA (bC _)) (eB (aX j7 (pu_ixS (aC 1 (pv 1)) aF (λ_ _=>rfl)) eA (bC _)) (eP (aX wM (cP yV rfl bK bt_len (aA (aC 1 (pv 1)) aD)) (yR rfl cT) (bC _)))))) (aN (aW i7)) bS) (aN (aW (cP (qW rfl) rfl fY qX (aA (cE (js:=[]) (N:=["sign",".acc"]) (cap:=[none,none]) (last:=1) (esc:=(aB bX).names) (XN:=["word","figures"]) rfl rfl (by decide +kernel) (by decide) (by decide) rfl (ui_str (aC 1 (pv 1))) (λ_ _ _ _ _ _=>(bU 0 (bM (show Nodup (["sign",".acc"]:List Str)by decide +kernel) rfl (Or.inl rfl)))) (λ_ _ _ _ _ _=>d9) (λ_ _ _ _ _ _=>(qO ou_inS (aC 0 (pv 0)) (qZ rfl fJ) rfl))) aD)))))))
theorem xN (bK:mg "len"=none){f:Addr}{cdv:Value}{A:Around}{outer:List Env}{s:Shared}{H:Hp}{E:XK}(hr:cL 0 (A.deeper (envOfC "_law_cell" (aB jR) s.heap.objs.size f cdv))) :
  eE (eI CX0 P w K mg base ["_law_script","_law_k"] "_law_cell" (aB jR) f cdv A outer s H E).nox (aL jR) r6:=
 (aH (d8 (aX j7 (eK (aQ 0 (pv 0)) rfl bK) aF (bC _)) (aN (aW (aP d4 aF (aP bZ (aC 1 (pv 1)) aF)))) bS) (aH (d8 (aX wL (aC 1 (pv 1)) (eK (aQ 0 (pv 0)) rfl bK) (bC _)) (aN (aW (bY (aQ 0 (pv 0)) (aC 1 (pv 1)) (λ_ _=>rfl)))) bS) (aN (aW (aP bZ (bY (aQ 0 (pv 0)) (aP kS (aC 1 (pv 1)) (eK (aQ 0 (pv 0)) rfl bK)) (λ_ _=>rfl)) (aP d4 aF (aC 1 (pv 1))))))))
theorem vJ {f:Addr}{cdv:Value}{A:Around}{outer:List Env}{s:Shared}{H:Hp}{E:XK}(hr:cL 0 (A.deeper (envOfC "_law_mixed" (aB gW) s.heap.objs.size f cdv))) :
  eE (eI CX0 P w K mg base ["_law_cell_here","_law_k","_law_prime","_law_far"] "_law_mixed" (aB gW) f cdv A outer s H E).nox (aL gW) o3:=
 (aH (aU 3 oI.nd rfl (Or.inl rfl) (aP kS (aP d4 (aP bZ (aP bZ (aP bZ (aC 0 (pv 0)) (aP d4 (aP d4 aF (aC 1 (pv 1))) (aC 1 (pv 1)))) (aP d4 aF (aC 1 (pv 1)))) aF) aF) aF) (hl:=il (n:=4) rfl (by decide))) (aH (aU 3 oI.nd rfl (Or.inl rfl) (aP kS (aP d4 (aC 3 (pv 3)) (aC 3 (pv 3))) aF) (hl:=il (n:=4) rfl (by decide))) (aN (aW (aP kS (aP d4 (aC 3 (pv 3)) aF) (aC 2 (pv 2)))))))
theorem vK (cA:mg "range"=none)(bK:mg "len"=none)(rK:Fn P w K mg base "_law_mixed" ["_law_cell_here","_law_k","_law_prime"] 1 iC){f:Addr}{cdv:Value}{A:Around}{outer:List Env}{s:Shared}{H:Hp}{E:XK}(hr:cL 1 (A.deeper (envOfC "_law_draws" (aB gX) s.heap.objs.size f cdv))) :
  eE (eI CX0 P w K mg base ["_law_cell_here","_law_widths","_law_prime","_law_left","_law_found","_law_k"] "_law_draws" (aB gX) f cdv A outer s H E).nox (aL gX) o4:=
 (aH (aU 3 iI.nd rfl (Or.inl rfl) aF (hl:=il (n:=6) rfl (by decide))) (aH (d8 (aX ou_ge (aC 0 (pv 0)) (aP kT aF aF) (bC _)) (aN (aU 3 iI.nd rfl (Or.inl rfl) (aP m7 (aC 0 (pv 0)) (aP kT aF aF)) (hl:=il (n:=6) rfl (by decide)))) bS) (aH (aU 4 iI.nd rfl (Or.inl rfl) (gD aD) (hl:=il (n:=6) rfl (by decide))) (aH (m5 PassesOwn.never rfl (g8 rfl cA (aA (eK (aQ 1 (pv 1)) rfl bK) aD)) (bU 5 (bM iI.nd rfl (Or.inl rfl))) (aN (d8 (aX wM (aC 3 (pv 3)) aF (bC _)) (aH (i9 4 (pv 4) (aP kS (aC 3 (pv 3)) (bY (aQ 1 (pv 1)) (aC 5 (pv 5)) (λ_ _=>rfl)))) (aN (aU 3 iI.nd rfl (Or.inl rfl) (aP ou_div (aC 3 (pv 3)) (bY (aQ 1 (pv 1)) (aC 5 (pv 5)) (λ_ _=>rfl))) (hl:=il (n:=6) rfl (by decide))))) (aN (i9 4 (pv 4) (aP kS (aT rK hr (by decide) rfl (aA (aC 0 (pv 0)) (aA (aC 5 (pv 5)) (aA (aC 2 (pv 2)) aD)))) (bY (aQ 1 (pv 1)) (aC 5 (pv 5)) (λ_ _=>rfl)))))))) (aN (qQ 4 (pv 4)))))))
theorem vL (aR:mg "isinstance"=none)(gZ:mg "int"=none)(lB:mg "bool"=none){f:Addr}{cdv:Value}{A:Around}{outer:List Env}{s:Shared}{H:Hp}{E:XK}(hr:cL 0 (A.deeper (envOfC "_law_whole" (aB gY) s.heap.objs.size f cdv))) :
  eE (eI CX0 P w K mg base ["_law_found"] "_law_whole" (aB gY) f cdv A outer s H E).nox (aL gY) o6:=
 (aN (aW (pu_and (cP kW rfl aR d5 (aA (aC 0 (pv 0)) (aA (nZ rfl gZ r8) aD))) (pu_one (pu_not (cP kW rfl aR d5 (aA (aC 0 (pv 0)) (aA (nZ rfl lB yX) aD))))))))
theorem zB (aR:mg "isinstance"=none)(b8:mg "tuple"=none)(bK:mg "len"=none)(fY:mg "all"=none)(kD:Fn P w K mg base "_law_whole" ["_law_found"] 1 gJ){f:Addr}{cdv:Value}{A:Around}{outer:List Env}{s:Shared}{H:Hp}{E:XK}(hr:cL 1 (A.deeper (envOfC "_law_row" (aB lY) s.heap.objs.size f cdv))) :
  eE (eI CX0 P w K mg base ["_law_found","_law_many"] "_law_row" (aB lY) f cdv A outer s H E).nox (aL lY) tN:=
 (aH (d8 (PUW.pt (eB (e9 (gC (cP kW rfl aR d5 (aA (aC 0 (pv 0)) (aA (nZ rfl b8 eR) aD))))) (eP (aX j8 (eK (aQ 0 (pv 0)) rfl bK) (aC 1 (pv 1)) (bC _))))) (aN (aW i7)) bS) (aN (aW (cP (qW rfl) rfl fY qX (aA (cE (js:=[]) (N:=["_law_place",".acc"]) (cap:=[none,none]) (last:=1) (esc:=(aB lY).names) (XN:=["_law_found","_law_many"]) rfl rfl (by decide +kernel) (by decide) (by decide) rfl (eJ (aC 0 (pv 0))) (λ_ _ _ _ _ _=>(bU 0 (bM (show Nodup (["_law_place",".acc"]:List Str)by decide +kernel) rfl (Or.inl rfl)))) (λ_ _ _ _ _ _=>d9) (λ_ _ _ _ _ _=>(aT kD hr (by decide) rfl (aA (aC 0 (pv 0)) aD)))) aD)))))
theorem rG (aR:mg "isinstance"=none)(b8:mg "tuple"=none)(bK:mg "len"=none)(fY:mg "all"=none)(qB:Fn P w K mg base "_law_row" ["_law_found","_law_many"] 2 kZ){f:Addr}{cdv:Value}{A:Around}{outer:List Env}{s:Shared}{H:Hp}{E:XK}(hr:cL 2 (A.deeper (envOfC "_law_is_table" (aB dM) s.heap.objs.size f cdv))) :
  eE (eI CX0 P w K mg base ["_law_found","_law_many"] "_law_is_table" (aB dM) f cdv A outer s H E).nox (aL dM) jL:=
 (aH (d8 (PUW.pt (eB (e9 (gC (cP kW rfl aR d5 (aA (aC 0 (pv 0)) (aA (nZ rfl b8 eR) aD))))) (eP (aX j8 (eK (aQ 0 (pv 0)) rfl bK) (aC 1 (pv 1)) (bC _))))) (aN (aW i7)) bS) (aN (aW (cP (qW rfl) rfl fY qX (aA (cE (js:=[1]) (N:=["_law_row_here","_law_many",".acc"]) (cap:=[none,some 1,none]) (last:=2) (esc:=(aB dM).names) (XN:=["_law_found","_law_many"]) rfl rfl (by decide +kernel) (by decide) (by decide) rfl (eJ (aC 0 (pv 0))) (λ_ _ _ _ _ _=>(bU 0 (bM (show Nodup (["_law_row_here","_law_many",".acc"]:List Str)by decide +kernel) rfl (Or.inl rfl)))) (λ_ _ _ _ _ _=>d9) (λ_ _ _ _ _ _=>(aT qB hr (by decide) rfl (aA (aC 0 (pv 0)) (aA (aC 1 (pv 1)) aD))))) aD)))))
theorem tQ (cA:mg "range"=none)(b8:mg "tuple"=none)(eW:Fn P w K mg base "_law_draws" ["_law_cell_here","_law_widths","_law_prime"] 2 dY){f:Addr}{cdv:Value}{A:Around}{outer:List Env}{s:Shared}{H:Hp}{E:XK}(hr:cL 2 (A.deeper (envOfC "_law_places" (aB fQ) s.heap.objs.size f cdv))) :
  eE (eI CX0 P w K mg base ["_law_cell_here","_law_many","_law_prime","_law_found","_law_row_here","_law_k","_law_part","_law_far","_law_low","_law_place","_law_j"] "_law_places" (aB fQ) f cdv A outer s H E).nox (aL fQ) mJ:=
 (aH (aU 3 bT.nd rfl (Or.inl rfl) (aT eW hr (by decide) rfl (aA (aC 0 (pv 0)) (aA (aP d4 (aP bZ (gD (aA aF (aA aF (aA aF (aA aF aD))))) (aP d4 (gD (aA (aP kT aF aF) aD)) aF)) (aC 1 (pv 1))) (aA (aC 2 (pv 2)) aD)))) (hl:=il (n:=11) rfl (by decide))) (aH (aU 4 bT.nd rfl (Or.inl rfl) (gD aD) (hl:=il (n:=11) rfl (by decide))) (aH (m5 PassesOwn.never rfl (g8 rfl cA (aA (aC 1 (pv 1)) aD)) (bU 5 (bM bT.nd rfl (Or.inl rfl))) (aH (aU 6 bT.nd rfl (Or.inl rfl) (rV (aQ 3 (pv 3)) (fO (aP d4 aF (aC 5 (pv 5)))) (fO (aP bZ (aP d4 aF (aC 5 (pv 5))) aF))) (hl:=il (n:=11) rfl (by decide))) (aH (aU 7 bT.nd rfl (Or.inl rfl) aF (hl:=il (n:=11) rfl (by decide))) (aH (m5 PassesOwn.never rfl (eJ (rV (aQ 6 (pv 6)) (fO aF) rT)) (bU 8 (bM bT.nd rfl (Or.inl rfl))) (aN (aU 7 bT.nd rfl (Or.inl rfl) (aP bZ (aP d4 (aC 7 (pv 7)) (aP kT aF aF)) (aC 8 (pv 8))) (hl:=il (n:=11) rfl (by decide))))) (aH (aU 9 bT.nd rfl (Or.inl rfl) (aP m7 (aP kS (aC 7 (pv 7)) (aP m7 (aP d4 aF (aP kT aF aF)) aF)) (aP m7 (aP kT aF aF) aF)) (hl:=il (n:=11) rfl (by decide))) (aH (d8 (aX wL (bY (aQ 6 (pv 6)) aF (λ_ _=>rfl)) aF (bC _)) (aN (aU 9 bT.nd rfl (Or.inl rfl) (aP m7 (bY (aQ 6 (pv 6)) aF (λ_ _=>rfl)) aF) (hl:=il (n:=11) rfl (by decide)))) bS) (aH (d8 (aX wM (bY (aQ 6 (pv 6)) aF (λ_ _=>rfl)) aF (bC _)) (aH (aU 9 bT.nd rfl (Or.inl rfl) aF (hl:=il (n:=11) rfl (by decide))) (aH (m5 PassesOwn.never rfl (g8 rfl cA (aA (bY (aQ 6 (pv 6)) aF (λ_ _=>rfl)) aD)) (bU 10 (bM bT.nd rfl (Or.inl rfl))) (aN (aU 9 bT.nd rfl (Or.inl rfl) (aP d4 (aC 9 (pv 9)) aF) (hl:=il (n:=11) rfl (by decide))))) (aN (aU 9 bT.nd rfl (Or.inl rfl) (aP m7 (aP bZ (aC 9 (pv 9)) (bY (aQ 6 (pv 6)) aF (λ_ _=>rfl))) aF) (hl:=il (n:=11) rfl (by decide)))))) bS) (aH (d8 (aX j7 (bY (aQ 6 (pv 6)) aF (λ_ _=>rfl)) aF (bC _)) (aN (aU 9 bT.nd rfl (Or.inl rfl) (pu_neg (aC 9 (pv 9))) (hl:=il (n:=11) rfl (by decide)))) bS) (aN (i9 4 (pv 4) (aC 9 (pv 9)))))))))))) (aN (aW (cM jA rfl b8 eR (aA (aC 4 (pv 4)) aD)))))))
theorem mQ (b8:mg "tuple"=none)(cA:mg "range"=none)(dR:Fn P w K mg base "_law_places" ["_law_cell_here","_law_many","_law_prime"] 3 dE){f:Addr}{cdv:Value}{A:Around}{outer:List Env}{s:Shared}{H:Hp}{E:XK}(hr:cL 3 (A.deeper (envOfC "_law_square_table" (aB bO) s.heap.objs.size f cdv))) :
  eE (eI CX0 P w K mg base ["_law_cell_here","_law_many","_law_prime","_law_found"] "_law_square_table" (aB bO) f cdv A outer s H E).nox (aL bO) fW:=
 (aH (aU 3 j2.nd rfl (Or.inr rfl) (aT dR hr (by decide) rfl (aA (aC 0 (pv 0)) (aA (aP d4 (aC 1 (pv 1)) (aC 1 (pv 1))) (aA (aC 2 (pv 2)) aD)))) (hl:=il (n:=4) rfl (by decide))) (aN (aW (cM jA rfl b8 eR (aA (cE (js:=[3,1]) (N:=["_law_k","_law_found","_law_many",".acc"]) (cap:=[none,some 3,some 1,none]) (last:=3) (esc:=(aB bO).names) (XN:=["_law_cell_here","_law_many","_law_prime","_law_found"]) rfl rfl (by decide +kernel) (by decide) (by decide) rfl (g8 rfl cA (aA (aC 1 (pv 1)) aD)) (λ_ _ _ _ _ _=>(bU 0 (bM (show Nodup (["_law_k","_law_found","_law_many",".acc"]:List Str)by decide +kernel) rfl (Or.inl rfl)))) (λ_ _ _ _ _ _=>d9) (λ_ _ _ _ _ _=>(pH (aC 1 (pv 1)) (fO (aP d4 (aC 2 (pv 2)) (aC 0 (pv 0)))) (fO (aP bZ (aP d4 (aC 2 (pv 2)) (aC 0 (pv 0))) (aC 2 (pv 2))))))) aD)))))
theorem p5 (cA:mg "range"=none)(oP:mg "max"=none)(oQ:mg "abs"=none)(eW:Fn P w K mg base "_law_draws" ["_law_cell_here","_law_widths","_law_prime"] 2 dY)(eX:Fn P w K mg base "_law_cell" ["_law_script","_law_k"] 1 dL)(dR:Fn P w K mg base "_law_places" ["_law_cell_here","_law_many","_law_prime"] 3 dE)(dF:Fn P w K mg base "_law_square_table" ["_law_cell_here","_law_many","_law_prime"] 4 cD){f:Addr}{cdv:Value}{A:Around}{outer:List Env}{s:Shared}{H:Hp}{E:XK}(hr:cL 4 (A.deeper (envOfC "_law_few_parts" (aB dH) s.heap.objs.size f cdv))) :
  eE (eI CX0 P w K mg base ["_law_script","_law_k","_law_prime","_law_deep","_law_found","_law_j","_law_far"] "_law_few_parts" (aB dH) f cdv A outer s H E).nox (aL dH) iR:=
 (aH (aU 3 eV.nd rfl (Or.inl rfl) (aT eW hr (by decide) rfl (aA (aT eX hr (by decide) rfl (aA (aC 0 (pv 0)) (aA (aC 1 (pv 1)) aD))) (aA (gD (aA aF (aA aF (aA aF (aA aF (aA aF aD)))))) (aA (aC 2 (pv 2)) aD)))) (hl:=il (n:=7) rfl (by decide))) (aH (aU 4 eV.nd rfl (Or.inl rfl) (gD aD) (hl:=il (n:=7) rfl (by decide))) (aH (m5 PassesOwn.never rfl (g8 rfl cA (aA (bY (aQ 3 (pv 3)) aF (λ_ _=>rfl)) aD)) (bU 5 (bM eV.nd rfl (Or.inl rfl))) (aH (aU 6 eV.nd rfl (Or.inl rfl) (aT dR hr (by decide) rfl (aA (aT eX hr (by decide) rfl (aA (aC 0 (pv 0)) (aA (aP bZ (aP bZ (aC 1 (pv 1)) aF) (aC 5 (pv 5))) aD))) (aA aF (aA aF aD)))) (hl:=il (n:=7) rfl (by decide))) (aN (i9 4 (pv 4) (qP (aA (aT dF hr (by decide) rfl (aA (aT eX hr (by decide) rfl (aA (aC 0 (pv 0)) (aA (aP bZ (aP bZ (aC 1 (pv 1)) aF) (aC 5 (pv 5))) aD))) (aA (aP bZ (bY (aQ 3 (pv 3)) (aP bZ aF (aC 5 (pv 5))) (λ_ _=>rfl)) aF) (aA (aC 2 (pv 2)) aD)))) (aA (cP (cu_max rfl) rfl oP bt_max (aA aF (aA (cP cu_abs rfl oQ bt_abs (aA (bY (aQ 6 (pv 6)) aF (λ_ _=>rfl)) aD)) aD))) aD))))))) (aN (qQ 4 (pv 4))))))
theorem rH (iJ:mg "str"=none){f:Addr}{cdv:Value}{A:Around}{outer:List Env}{s:Shared}{H:Hp}{E:XK}(hr:cL 0 (A.deeper (envOfC "_law_row_text" (aB dN) s.heap.objs.size f cdv))) :
  eE (eI CX0 P w K mg base ["_law_row_here"] "_law_row_text" (aB dN) f cdv A outer s H E).nox (aL dN) jF:=
 (aN (aW (gH PySem.F.slot_str_join PySem.F.type_str_join jY eA (aA (cE (js:=[]) (N:=["_law_place",".acc"]) (cap:=[none,none]) (last:=1) (esc:=(aB dN).names) (XN:=["_law_row_here"]) rfl rfl (by decide +kernel) (by decide) (by decide) rfl (eJ (aC 0 (pv 0))) (λ_ _ _ _ _ _=>(bU 0 (bM (show Nodup (["_law_place",".acc"]:List Str)by decide +kernel) rfl (Or.inl rfl)))) (λ_ _ _ _ _ _=>d9) (λ_ _ _ _ _ _=>(cM tF rfl iJ tP (aA (aC 0 (pv 0)) aD)))) aD))))
theorem oK (fK:Fn P w K mg base "_law_row_text" ["_law_row_here"] 1 dG){f:Addr}{cdv:Value}{A:Around}{outer:List Env}{s:Shared}{H:Hp}{E:XK}(hr:cL 1 (A.deeper (envOfC "_law_table_text" (aB cG) s.heap.objs.size f cdv))) :
  eE (eI CX0 P w K mg base ["_law_table"] "_law_table_text" (aB cG) f cdv A outer s H E).nox (aL cG) hR:=
 (aN (aW (gH PySem.F.slot_str_join PySem.F.type_str_join jY eA (aA (cE (js:=[]) (N:=["_law_row_here",".acc"]) (cap:=[none,none]) (last:=1) (esc:=(aB cG).names) (XN:=["_law_table"]) rfl rfl (by decide +kernel) (by decide) (by decide) rfl (eJ (aC 0 (pv 0))) (λ_ _ _ _ _ _=>(bU 0 (bM (show Nodup (["_law_row_here",".acc"]:List Str)by decide +kernel) rfl (Or.inl rfl)))) (λ_ _ _ _ _ _=>d9) (λ_ _ _ _ _ _=>(aT fK hr (by decide) rfl (aA (aC 0 (pv 0)) aD)))) aD))))
theorem oM (bK:mg "len"=none)(iJ:mg "str"=none)(d3:Fn P w K mg base "_law_table_text" ["_law_table"] 2 bL){f:Addr}{cdv:Value}{A:Around}{outer:List Env}{s:Shared}{H:Hp}{E:XK}(hr:cL 2 (A.deeper (envOfC "_law_parts_text" (aB cH) s.heap.objs.size f cdv))) :
  eE (eI CX0 P w K mg base ["_law_parts"] "_law_parts_text" (aB cH) f cdv A outer s H E).nox (aL cH) hU:=
 (aH (d8 (aX j7 (eK (aQ 0 (pv 0)) rfl bK) aF (bC _)) (aN (aW eA)) bS) (aN (aW (gH PySem.F.slot_str_join PySem.F.type_str_join jY eA (aA (cE (js:=[]) (N:=["_law_pair",".acc"]) (cap:=[none,none]) (last:=1) (esc:=(aB cH).names) (XN:=["_law_parts"]) rfl rfl (by decide +kernel) (by decide) (by decide) rfl (eJ (aC 0 (pv 0))) (λ_ _ _ _ _ _=>(bU 0 (bM (show Nodup (["_law_pair",".acc"]:List Str)by decide +kernel) rfl (Or.inl rfl)))) (λ_ _ _ _ _ _=>d9) (λ_ _ _ _ _ _=>(aP u7 (aP u7 (aT d3 hr (by decide) rfl (aA (bY (aQ 0 (pv 0)) aF (λ_ _=>rfl)) aD)) eA) (cM tF rfl iJ tP (aA (bY (aQ 0 (pv 0)) aF (λ_ _=>rfl)) aD))))) aD)))))
theorem rJ (aR:mg "isinstance"=none)(gR:mg "list"=none)(bK:mg "len"=none)(b8:mg "tuple"=none)(kD:Fn P w K mg base "_law_whole" ["_law_found"] 1 gJ)(fL:Fn P w K mg base "_law_is_table" ["_law_found","_law_many"] 3 e7){f:Addr}{cdv:Value}{A:Around}{outer:List Env}{s:Shared}{H:Hp}{E:XK}(hr:cL 3 (A.deeper (envOfC "_law_is_parts" (aB e8) s.heap.objs.size f cdv))) :
  eE (eI CX0 P w K mg base ["_law_found","_law_due","_law_pair"] "_law_is_parts" (aB e8) f cdv A outer s H E).nox (aL e8) jQ:=
 (aH (d8 (PUW.pt (eB (e9 (gC (cP kW rfl aR d5 (aA (aC 0 (pv 0)) (aA (nZ rfl gR r9) aD))))) (eP (aX j8 (eK (aQ 0 (pv 0)) rfl bK) (eK (aQ 1 (pv 1)) rfl bK) (bC _))))) (aN (aW i7)) bS) (aH (m5 PassesOwn.never rfl (eJ (aC 0 (pv 0))) (bU 2 (bM mY.nd rfl (Or.inl rfl))) (aH (d8 (PUW.pt (eB (e9 (gC (cP kW rfl aR d5 (aA (aC 2 (pv 2)) (aA (nZ rfl b8 eR) aD))))) (eB (aX j8 (eK (aQ 2 (pv 2)) rfl bK) aF (bC _)) (eP (e9 (gC (aT kD hr (by decide) rfl (aA (bY (aQ 2 (pv 2)) aF (λ_ _=>rfl)) aD)))))))) (aN (aW i7)) bS) (aN (d8 (PUW.pt (eB (e9 (gC (cP kW rfl aR d5 (aA (bY (aQ 2 (pv 2)) aF (λ_ _=>rfl)) (aA (nZ rfl b8 eR) aD))))) (eP (e9 (gC (aT fL hr (by decide) rfl (aA (bY (aQ 2 (pv 2)) aF (λ_ _=>rfl)) (aA (eK (pv_of (bY (aQ 2 (pv 2)) aF (λ_ _=>rfl))) rfl bK) aD)))))))) (aN (aW i7)) bS)))) (aN (aW (qO (ou_eqD hr.units) (aC 0 (pv 0)) (aC 1 (pv 1)) (bC _))))))
theorem oN (b8:mg "tuple"=none)(cA:mg "range"=none)(dR:Fn P w K mg base "_law_places" ["_law_cell_here","_law_many","_law_prime"] 3 dE){f:Addr}{cdv:Value}{A:Around}{outer:List Env}{s:Shared}{H:Hp}{E:XK}(hr:cL 3 (A.deeper (envOfC "_law_wide_table" (aB cI) s.heap.objs.size f cdv))) :
  eE (eI CX0 P w K mg base ["_law_cell_here","_law_rows","_law_many","_law_prime","_law_found"] "_law_wide_table" (aB cI) f cdv A outer s H E).nox (aL cI) i3:=
 (aH (aU 4 kQ.nd rfl (Or.inr rfl) (aT dR hr (by decide) rfl (aA (aC 0 (pv 0)) (aA (aP d4 (aC 1 (pv 1)) (aC 2 (pv 2))) (aA (aC 3 (pv 3)) aD)))) (hl:=il (n:=5) rfl (by decide))) (aN (aW (cM jA rfl b8 eR (aA (cE (js:=[4,2]) (N:=["_law_k","_law_found","_law_many",".acc"]) (cap:=[none,some 4,some 2,none]) (last:=3) (esc:=(aB cI).names) (XN:=["_law_cell_here","_law_rows","_law_many","_law_prime","_law_found"]) rfl rfl (by decide +kernel) (by decide) (by decide) rfl (g8 rfl cA (aA (aC 1 (pv 1)) aD)) (λ_ _ _ _ _ _=>(bU 0 (bM (show Nodup (["_law_k","_law_found","_law_many",".acc"]:List Str)by decide +kernel) rfl (Or.inl rfl)))) (λ_ _ _ _ _ _=>d9) (λ_ _ _ _ _ _=>(pH (aC 1 (pv 1)) (fO (aP d4 (aC 2 (pv 2)) (aC 0 (pv 0)))) (fO (aP bZ (aP d4 (aC 2 (pv 2)) (aC 0 (pv 0))) (aC 2 (pv 2))))))) aD)))))
theorem zC (gR:mg "list"=none)(eW:Fn P w K mg base "_law_draws" ["_law_cell_here","_law_widths","_law_prime"] 2 dY)(eX:Fn P w K mg base "_law_cell" ["_law_script","_law_k"] 1 dL)(dR:Fn P w K mg base "_law_places" ["_law_cell_here","_law_many","_law_prime"] 3 dE)(fK:Fn P w K mg base "_law_row_text" ["_law_row_here"] 1 dG)(dU:Fn P w K mg base "shown_row" ["row"] 1 cQ)(qB:Fn P w K mg base "_law_row" ["_law_found","_law_many"] 2 kZ)(dP:Fn P w K mg base "read_row" ["text"] 2 cJ)(dF:Fn P w K mg base "_law_square_table" ["_law_cell_here","_law_many","_law_prime"] 4 cD)(d3:Fn P w K mg base "_law_table_text" ["_law_table"] 2 bL)(bQ:Fn P w K mg base "shown_table" ["table"] 2 bB)(fL:Fn P w K mg base "_law_is_table" ["_law_found","_law_many"] 3 e7)(cS:Fn P w K mg base "read_table" ["text"] 3 bP)(jV:Fn P w K mg base "_law_few_parts" ["_law_script","_law_k","_law_prime"] 5 eU)(fZ:Fn P w K mg base "_law_parts_text" ["_law_parts"] 3 d6)(eH:Fn P w K mg base "shown_parts" ["parts"] 3 cN)(eY:Fn P w K mg base "read_parts" ["text"] 5 cV)(iS:Fn P w K mg base "_law_is_parts" ["_law_found","_law_due"] 4 eM)(g0:Fn P w K mg base "_law_wide_table" ["_law_cell_here","_law_rows","_law_many","_law_prime"] 4 dS){f:Addr}{cdv:Value}{A:Around}{outer:List Env}{s:Shared}{H:Hp}{E:XK}(hr:cL 5 (A.deeper (envOfC "law" (aB jS) s.heap.objs.size f cdv))) :
  eE (eI CX0 P w K mg base ["_law_script","_law_deep","_law_many","_law_row_here","_law_text","_law_table","_law_parts","_law_handed","_law_told","_law_one","_law_two","_law_pairs"] "law" (aB jS) f cdv A outer s H E).nox (aL jS) rF:=
 (aH (aU 1 dO.nd rfl (Or.inl rfl) (aT eW hr (by decide) rfl (aA (aT eX hr (by decide) rfl (aA (aC 0 (pv 0)) (aA aF aD))) (aA (gD (aA aF (aA aF (aA aF aD)))) (aA aF aD)))) (hl:=il (n:=12) rfl (by decide))) (aH (aU 2 dO.nd rfl (Or.inl rfl) (aP bZ aF (bY (aQ 1 (pv 1)) aF (λ_ _=>rfl))) (hl:=il (n:=12) rfl (by decide))) (aH (d8 (gT (aX j7 (bY (aQ 1 (pv 1)) aF (λ_ _=>rfl)) aF (bC _))) (aN (aU 2 dO.nd rfl (Or.inl rfl) (aP bZ aF (bY (aQ 1 (pv 1)) aF (λ_ _=>rfl))) (hl:=il (n:=12) rfl (by decide)))) bS) (aH (aU 3 dO.nd rfl (Or.inl rfl) (aT dR hr (by decide) rfl (aA (aT eX hr (by decide) rfl (aA (aC 0 (pv 0)) (aA aF aD))) (aA (aC 2 (pv 2)) (aA aF aD)))) (hl:=il (n:=12) rfl (by decide))) (aH (aU 4 dO.nd rfl (Or.inl rfl) (aT fK hr (by decide) rfl (aA (aC 3 (pv 3)) aD)) (hl:=il (n:=12) rfl (by decide))) (aH (d8 (gT (PUW.pt (eB (aX j8 (aT dU hr (by decide) rfl (aA (aC 3 (pv 3)) aD)) (aC 4 (pv 4)) (bC _)) (eB (e9 (gC (aT qB hr (by decide) rfl (aA (aT dP hr (by decide) rfl (aA (aC 4 (pv 4)) aD)) (aA (aC 2 (pv 2)) aD))))) (eP (aX (tD hr.units) (aT dP hr (by decide) rfl (aA (aC 4 (pv 4)) aD)) (aC 3 (pv 3)) (bC _))))))) (aN (aW i7)) bS) (aH (aU 1 dO.nd rfl (Or.inl rfl) (aT eW hr (by decide) rfl (aA (aT eX hr (by decide) rfl (aA (aC 0 (pv 0)) (aA aF aD))) (aA (gD (aA aF (aA aF (aA aF aD)))) (aA aF aD)))) (hl:=il (n:=12) rfl (by decide))) (aH (aU 2 dO.nd rfl (Or.inl rfl) (aP bZ aF (bY (aQ 1 (pv 1)) aF (λ_ _=>rfl))) (hl:=il (n:=12) rfl (by decide))) (aH (d8 (gT (aX j7 (bY (aQ 1 (pv 1)) aF (λ_ _=>rfl)) aF (bC _))) (aN (aU 2 dO.nd rfl (Or.inl rfl) (aP bZ aF (bY (aQ 1 (pv 1)) aF (λ_ _=>rfl))) (hl:=il (n:=12) rfl (by decide)))) bS) (aH (aU 5 dO.nd rfl (Or.inl rfl) (aT dF hr (by decide) rfl (aA (aT eX hr (by decide) rfl (aA (aC 0 (pv 0)) (aA aF aD))) (aA (aC 2 (pv 2)) (aA aF aD)))) (hl:=il (n:=12) rfl (by decide))) (aH (aU 4 dO.nd rfl (Or.inl rfl) (aT d3 hr (by decide) rfl (aA (aC 5 (pv 5)) aD)) (hl:=il (n:=12) rfl (by decide))) (aH (d8 (gT (PUW.pt (eB (aX j8 (aT bQ hr (by decide) rfl (aA (aC 5 (pv 5)) aD)) (aC 4 (pv 4)) (bC _)) (eB (e9 (gC (aT fL hr (by decide) rfl (aA (aT cS hr (by decide) rfl (aA (aC 4 (pv 4)) aD)) (aA (aC 2 (pv 2)) aD))))) (eP (aX (tD hr.units) (aT cS hr (by decide) rfl (aA (aC 4 (pv 4)) aD)) (aC 5 (pv 5)) (bC _))))))) (aN (aW i7)) bS) (aH (aU 6 dO.nd rfl (Or.inl rfl) (aT jV hr (by decide) rfl (aA (aC 0 (pv 0)) (aA aF (aA aF aD)))) (hl:=il (n:=12) rfl (by decide))) (aH (aU 4 dO.nd rfl (Or.inl rfl) (aT fZ hr (by decide) rfl (aA (aC 6 (pv 6)) aD)) (hl:=il (n:=12) rfl (by decide))) (aH (aU 7 dO.nd rfl (Or.inl rfl) (cM u4 rfl gR r9 (aA (aC 6 (pv 6)) aD)) (hl:=il (n:=12) rfl (by decide))) (aH (d8 (gT (PUW.pt (eB (aX j8 (aT eH hr (by decide) rfl (aA (aC 7 (pv 7)) aD)) (aC 4 (pv 4)) (bC _)) (eP (aX (tD hr.units) (aC 7 (pv 7)) (aC 6 (pv 6)) (bC _)))))) (aN (aW i7)) bS) (aH (aU 8 dO.nd rfl (Or.inl rfl) (aT eY hr (by decide) rfl (aA (aC 4 (pv 4)) aD)) (hl:=il (n:=12) rfl (by decide))) (aH (d8 (gT (e9 (gC (aT iS hr (by decide) rfl (aA (aC 8 (pv 8)) (aA (aC 6 (pv 6)) aD)))))) (aN (aW i7)) bS) (aH (i9 8 (pv 8) aF) (aH (d8 (gT (e9 (gC (aT iS hr (by decide) rfl (aA (aT eY hr (by decide) rfl (aA (aC 4 (pv 4)) aD)) (aA (aC 6 (pv 6)) aD)))))) (aN (aW i7)) bS) (aH (aU 1 dO.nd rfl (Or.inl rfl) (aT eW hr (by decide) rfl (aA (aT eX hr (by decide) rfl (aA (aC 0 (pv 0)) (aA aF aD))) (aA (gD (aA aF (aA aF (aA aF (aA aF aD))))) (aA aF aD)))) (hl:=il (n:=12) rfl (by decide))) (aH (aU 9 dO.nd rfl (Or.inl rfl) (aT g0 hr (by decide) rfl (aA (aT eX hr (by decide) rfl (aA (aC 0 (pv 0)) (aA aF aD))) (aA (aP bZ aF (bY (aQ 1 (pv 1)) aF (λ_ _=>rfl))) (aA (aP bZ aF (bY (aQ 1 (pv 1)) aF (λ_ _=>rfl))) (aA aF aD))))) (hl:=il (n:=12) rfl (by decide))) (aH (aU 10 dO.nd rfl (Or.inl rfl) (aT g0 hr (by decide) rfl (aA (aT eX hr (by decide) rfl (aA (aC 0 (pv 0)) (aA aF aD))) (aA (aP bZ aF (bY (aQ 1 (pv 1)) aF (λ_ _=>rfl))) (aA (aP bZ aF (bY (aQ 1 (pv 1)) aF (λ_ _=>rfl))) (aA aF aD))))) (hl:=il (n:=12) rfl (by decide))) (aH (aU 11 dO.nd rfl (Or.inl rfl) (gD (aA (qP (aA (aC 9 (pv 9)) (aA (aP bZ aF (bY (aQ 1 (pv 1)) aF (λ_ _=>rfl))) aD))) (aA (qP (aA (aC 10 (pv 10)) (aA (aP kT aF aF) aD))) aD))) (hl:=il (n:=12) rfl (by decide))) (aH (d8 (gT (PUW.pt (eB (aX j8 (aT bQ hr (by decide) rfl (aA (aC 9 (pv 9)) aD)) (aT d3 hr (by decide) rfl (aA (aC 9 (pv 9)) aD)) (bC _)) (eP (aX j8 (aT bQ hr (by decide) rfl (aA (aC 10 (pv 10)) aD)) (aT d3 hr (by decide) rfl (aA (aC 10 (pv 10)) aD)) (bC _)))))) (aN (aW i7)) bS) (aN (aW (qO j7 (aT eH hr (by decide) rfl (aA (cM u4 rfl gR r9 (aA (aC 11 (pv 11)) aD)) aD)) (aT fZ hr (by decide) rfl (aA (aC 11 (pv 11)) aD)) (bC _)))))))))))))))))))))))))))))
end
theorem all_mk {l:PySem.W.OpenLaw}{w:World}{K:Frag}{h:Heap}{mg:Str->Option Value}{fa f1 f2 f3 f4 f5 f6 f7 f8 f9 f10 f11 f12 f13 f14 f15 f16 f17 f18 f19 f20 f21 f22 f23:Addr}(X:K.In h)(G:h.Ns mainGlobals mg)(hfa:mg "law"=some (.ref fa))
  {od1 an1 od2 an2 od3 an3 od4 an4 od5 an5 od6 an6 od7 an7 od8 an8 od9 an9 od10 an10 od11 an11 od12 an12 od13 an13 od14 an14 od15 an15 od16 an16 od17 an17 od18 an18 od19 an19 od20 an20 od21 an21 od22 an22 od23 an23:Option Addr} {sl1 sl2 sl3 sl4 sl5 sl6 sl7 sl8 sl9 sl10 sl11 sl12 sl13 sl14 sl15 sl16 sl17 sl18 sl19 sl20 sl21 sl22 sl23:Array (Option Value)} {oc1 kV1 dc1 pm1 cd1 ct1 oc2 kV2 dc2 pm2 cd2 ct2 oc3 kV3 dc3 pm3 cd3 ct3 oc4 kV4 dc4 pm4 cd4 ct4 oc5 kV5 dc5 pm5 cd5 ct5 oc6 kV6 dc6 pm6 cd6 ct6 oc7 kV7 dc7 pm7 cd7 ct7 oc8 kV8 dc8 pm8 cd8 ct8 oc9 kV9 dc9 pm9 cd9 ct9 oc10 kV10 dc10 pm10 cd10 ct10 oc11 kV11 dc11 pm11 cd11 ct11 oc12 kV12 dc12 pm12 cd12 ct12 oc13 kV13 dc13 pm13 cd13 ct13 oc14 kV14 dc14 pm14 cd14 ct14 oc15 kV15 dc15 pm15 cd15 ct15 oc16 kV16 dc16 pm16 cd16 ct16 oc17 kV17 dc17 pm17 cd17 ct17 oc18 kV18 dc18 pm18 cd18 ct18 oc19 kV19 dc19 pm19 cd19 ct19 oc20 kV20 dc20 pm20 cd20 ct20 oc21 kV21 dc21 pm21 cd21 ct21 oc22 kV22 dc22 pm22 cd22 ct22 oc23 kV23 dc23 pm23 cd23 ct23:Value}
  (a1:nsIn K mainGlobals "shown_row"=some (some (.ref f1))) (l1:K.lookup f1=some ⟨oc1,od1,.func (fnOf "shown_row" "shown_row" (bA bV) (aL bV) (aB bV) .none kV1 dc1 pm1 an1 cd1 ct1),sl1⟩) (c1:codeIn K cd1 "shown_row"=true) (k1:keepIn K (.ref f1)=true)
  (a2:nsIn K mainGlobals "shown_table"=some (some (.ref f2))) (l2:K.lookup f2=some ⟨oc2,od2,.func (fnOf "shown_table" "shown_table" (bA bH) (aL bH) (aB bH) .none kV2 dc2 pm2 an2 cd2 ct2),sl2⟩) (c2:codeIn K cd2 "shown_table"=true) (k2:keepIn K (.ref f2)=true)
  (a3:nsIn K mainGlobals "shown_parts"=some (some (.ref f3))) (l3:K.lookup f3=some ⟨oc3,od3,.func (fnOf "shown_parts" "shown_parts" (bA bI) (aL bI) (aB bI) .none kV3 dc3 pm3 an3 cd3 ct3),sl3⟩) (c3:codeIn K cd3 "shown_parts"=true) (k3:keepIn K (.ref f3)=true)
  (a4:nsIn K mainGlobals "read_row"=some (some (.ref f4))) (l4:K.lookup f4=some ⟨oc4,od4,.func (fnOf "read_row" "read_row" (bA bW) (aL bW) (aB bW) .none kV4 dc4 pm4 an4 cd4 ct4),sl4⟩) (c4:codeIn K cd4 "read_row"=true) (k4:keepIn K (.ref f4)=true)
  (a5:nsIn K mainGlobals "read_table"=some (some (.ref f5))) (l5:K.lookup f5=some ⟨oc5,od5,.func (fnOf "read_table" "read_table" (bA bE) (aL bE) (aB bE) .none kV5 dc5 pm5 an5 cd5 ct5),sl5⟩) (c5:codeIn K cd5 "read_table"=true) (k5:keepIn K (.ref f5)=true)
  (a6:nsIn K mainGlobals "read_parts"=some (some (.ref f6))) (l6:K.lookup f6=some ⟨oc6,od6,.func (fnOf "read_parts" "read_parts" (bA bN) (aL bN) (aB bN) .none kV6 dc6 pm6 an6 cd6 ct6),sl6⟩) (c6:codeIn K cd6 "read_parts"=true) (k6:keepIn K (.ref f6)=true)
  (a7:nsIn K mainGlobals "read_part"=some (some (.ref f7))) (l7:K.lookup f7=some ⟨oc7,od7,.func (fnOf "read_part" "read_part" (bA cK) (aL cK) (aB cK) .none kV7 dc7 pm7 an7 cd7 ct7),sl7⟩) (c7:codeIn K cd7 "read_part"=true) (k7:keepIn K (.ref f7)=true)
  (a8:nsIn K mainGlobals "is_number"=some (some (.ref f8))) (l8:K.lookup f8=some ⟨oc8,od8,.func (fnOf "is_number" "is_number" (bA bX) (aL bX) (aB bX) .none kV8 dc8 pm8 an8 cd8 ct8),sl8⟩) (c8:codeIn K cd8 "is_number"=true) (k8:keepIn K (.ref f8)=true)
  (a9:nsIn K mainGlobals "_law_cell"=some (some (.ref f9))) (l9:K.lookup f9=some ⟨oc9,od9,.func (fnOf "_law_cell" "_law_cell" (bA jR) (aL jR) (aB jR) .none kV9 dc9 pm9 an9 cd9 ct9),sl9⟩) (c9:codeIn K cd9 "_law_cell"=true) (k9:keepIn K (.ref f9)=true)
  (a10:nsIn K mainGlobals "_law_mixed"=some (some (.ref f10))) (l10:K.lookup f10=some ⟨oc10,od10,.func (fnOf "_law_mixed" "_law_mixed" (bA gW) (aL gW) (aB gW) .none kV10 dc10 pm10 an10 cd10 ct10),sl10⟩) (c10:codeIn K cd10 "_law_mixed"=true) (k10:keepIn K (.ref f10)=true)
  (a11:nsIn K mainGlobals "_law_draws"=some (some (.ref f11))) (l11:K.lookup f11=some ⟨oc11,od11,.func (fnOf "_law_draws" "_law_draws" (bA gX) (aL gX) (aB gX) .none kV11 dc11 pm11 an11 cd11 ct11),sl11⟩) (c11:codeIn K cd11 "_law_draws"=true) (k11:keepIn K (.ref f11)=true)
  (a12:nsIn K mainGlobals "_law_whole"=some (some (.ref f12))) (l12:K.lookup f12=some ⟨oc12,od12,.func (fnOf "_law_whole" "_law_whole" (bA gY) (aL gY) (aB gY) .none kV12 dc12 pm12 an12 cd12 ct12),sl12⟩) (c12:codeIn K cd12 "_law_whole"=true) (k12:keepIn K (.ref f12)=true)
  (a13:nsIn K mainGlobals "_law_row"=some (some (.ref f13))) (l13:K.lookup f13=some ⟨oc13,od13,.func (fnOf "_law_row" "_law_row" (bA lY) (aL lY) (aB lY) .none kV13 dc13 pm13 an13 cd13 ct13),sl13⟩) (c13:codeIn K cd13 "_law_row"=true) (k13:keepIn K (.ref f13)=true)
  (a14:nsIn K mainGlobals "_law_is_table"=some (some (.ref f14))) (l14:K.lookup f14=some ⟨oc14,od14,.func (fnOf "_law_is_table" "_law_is_table" (bA dM) (aL dM) (aB dM) .none kV14 dc14 pm14 an14 cd14 ct14),sl14⟩) (c14:codeIn K cd14 "_law_is_table"=true) (k14:keepIn K (.ref f14)=true)
  (a15:nsIn K mainGlobals "_law_places"=some (some (.ref f15))) (l15:K.lookup f15=some ⟨oc15,od15,.func (fnOf "_law_places" "_law_places" (bA fQ) (aL fQ) (aB fQ) .none kV15 dc15 pm15 an15 cd15 ct15),sl15⟩) (c15:codeIn K cd15 "_law_places"=true) (k15:keepIn K (.ref f15)=true)
  (a16:nsIn K mainGlobals "_law_square_table"=some (some (.ref f16))) (l16:K.lookup f16=some ⟨oc16,od16,.func (fnOf "_law_square_table" "_law_square_table" (bA bO) (aL bO) (aB bO) .none kV16 dc16 pm16 an16 cd16 ct16),sl16⟩) (c16:codeIn K cd16 "_law_square_table"=true) (k16:keepIn K (.ref f16)=true)
  (a17:nsIn K mainGlobals "_law_few_parts"=some (some (.ref f17))) (l17:K.lookup f17=some ⟨oc17,od17,.func (fnOf "_law_few_parts" "_law_few_parts" (bA dH) (aL dH) (aB dH) .none kV17 dc17 pm17 an17 cd17 ct17),sl17⟩) (c17:codeIn K cd17 "_law_few_parts"=true) (k17:keepIn K (.ref f17)=true)
  (a18:nsIn K mainGlobals "_law_row_text"=some (some (.ref f18))) (l18:K.lookup f18=some ⟨oc18,od18,.func (fnOf "_law_row_text" "_law_row_text" (bA dN) (aL dN) (aB dN) .none kV18 dc18 pm18 an18 cd18 ct18),sl18⟩) (c18:codeIn K cd18 "_law_row_text"=true) (k18:keepIn K (.ref f18)=true)
  (a19:nsIn K mainGlobals "_law_table_text"=some (some (.ref f19))) (l19:K.lookup f19=some ⟨oc19,od19,.func (fnOf "_law_table_text" "_law_table_text" (bA cG) (aL cG) (aB cG) .none kV19 dc19 pm19 an19 cd19 ct19),sl19⟩) (c19:codeIn K cd19 "_law_table_text"=true) (k19:keepIn K (.ref f19)=true)
  (a20:nsIn K mainGlobals "_law_parts_text"=some (some (.ref f20))) (l20:K.lookup f20=some ⟨oc20,od20,.func (fnOf "_law_parts_text" "_law_parts_text" (bA cH) (aL cH) (aB cH) .none kV20 dc20 pm20 an20 cd20 ct20),sl20⟩) (c20:codeIn K cd20 "_law_parts_text"=true) (k20:keepIn K (.ref f20)=true)
  (a21:nsIn K mainGlobals "_law_is_parts"=some (some (.ref f21))) (l21:K.lookup f21=some ⟨oc21,od21,.func (fnOf "_law_is_parts" "_law_is_parts" (bA e8) (aL e8) (aB e8) .none kV21 dc21 pm21 an21 cd21 ct21),sl21⟩) (c21:codeIn K cd21 "_law_is_parts"=true) (k21:keepIn K (.ref f21)=true)
  (a22:nsIn K mainGlobals "_law_wide_table"=some (some (.ref f22))) (l22:K.lookup f22=some ⟨oc22,od22,.func (fnOf "_law_wide_table" "_law_wide_table" (bA cI) (aL cI) (aB cI) .none kV22 dc22 pm22 an22 cd22 ct22),sl22⟩) (c22:codeIn K cd22 "_law_wide_table"=true) (k22:keepIn K (.ref f22)=true)
  (a23:nsIn K mainGlobals "law"=some (some (.ref f23))) (l23:K.lookup f23=some ⟨oc23,od23,.func (fnOf "law" "law" (bA jS) (aL jS) (aB jS) .none kV23 dc23 pm23 an23 cd23 ct23),sl23⟩) (c23:codeIn K cd23 "law"=true) (k23:keepIn K (.ref f23)=true)
  (iJ:nsIn K mainGlobals "str"=some none)
  (bK:nsIn K mainGlobals "len"=some none)
  (fY:nsIn K mainGlobals "all"=some none)
  (b8:nsIn K mainGlobals "tuple"=some none)
  (gZ:nsIn K mainGlobals "int"=some none)
  (oO:nsIn K mainGlobals "any"=some none)
  (cA:nsIn K mainGlobals "range"=some none)
  (aR:nsIn K mainGlobals "isinstance"=some none)
  (lB:nsIn K mainGlobals "bool"=some none)
  (oP:nsIn K mainGlobals "max"=some none)
  (oQ:nsIn K mainGlobals "abs"=some none)
  (gR:nsIn K mainGlobals "list"=some none)
  {gP:Tok} (d7:nsIn K mainGlobals "NO_PARTS"=some (some (.str "one" gP)))
  {gQ:Tok} (cT:nsIn K mainGlobals "MOST_FIGURES"=some (some (.int 60 gQ)))
  {mR:Tok} (fJ:nsIn K mainGlobals "FIGURES"=some (some (.str "0123456789" mR))) :
  ∃fd:FuncData,(∀(s:Shared) (v:Value),BindsTo s fd ⟨[v],[]⟩ [("_law_script",v)])/\ ∀base:Heap,K.In base->base.Ns mainGlobals mg->j5 l.prog w K mg base CX0 6 fa fd ["_law_script"] (spP K pE):=by
 have e:=hfa.symm.trans (mg_of X G a23);cases e;have iJ:=mg_none_of X G iJ;have bK:=mg_none_of X G bK;have fY:=mg_none_of X G fY;have b8:=mg_none_of X G b8;have gZ:=mg_none_of X G gZ;have oO:=mg_none_of X G oO;have cA:=mg_none_of X G cA;have aR:=mg_none_of X G aR;have lB:=mg_none_of X G lB;have oP:=mg_none_of X G oP;have oQ:=mg_none_of X G oQ;have gR:=mg_none_of X G gR;have d7:=mg_of X G d7
 have cT:=mg_of X G cT;have fJ:=mg_of X G fJ;have U1:=cO (st:=bV) l1 c1 k1;have U2:=cO (st:=bH) l2 c2 k2;have U3:=cO (st:=bI) l3 c3 k3;have U4:=cO (st:=bW) l4 c4 k4;have U5:=cO (st:=bE) l5 c5 k5;have U6:=cO (st:=bN) l6 c6 k6;have U7:=cO (st:=cK) l7 c7 k7;have U8:=cO (st:=bX) l8 c8 k8;have U9:=cO (st:=jR) l9 c9 k9;have U10:=cO (st:=gW) l10 c10 k10;have U11:=cO (st:=gX) l11 c11 k11
 have U12:=cO (st:=gY) l12 c12 k12;have U13:=cO (st:=lY) l13 c13 k13;have U14:=cO (st:=dM) l14 c14 k14;have U15:=cO (st:=fQ) l15 c15 k15;have U16:=cO (st:=bO) l16 c16 k16;have U17:=cO (st:=dH) l17 c17 k17;have U18:=cO (st:=dN) l18 c18 k18;have U19:=cO (st:=cG) l19 c19 k19;have U20:=cO (st:=cH) l20 c20 k20;have U21:=cO (st:=e8) l21 c21 k21;have U22:=cO (st:=cI) l22 c22 k22
 have U23:=cO (st:=jS) l23 c23 k23;refine⟨fnOf "law" "law" (bA jS) (aL jS) (aB jS) .none kV23 dc23 pm23 an23 cd23 ct23,λs v=> .of_eq rfl,λbase _ _=> ?_⟩
 have dU:Fn l.prog w K mg base "shown_row" ["row"] 1 cQ:=Fn.mk' U1 (mg_of X G a1) (U1.binds (ps:=["row"]) λ_ _ _ _ _ _ us hl=>match us,hl with| [_],_=>rfl) oH n6 (λcdv A outer s H E hr=>nH iJ hr) o9
 have bQ:Fn l.prog w K mg base "shown_table" ["table"] 2 bB:=Fn.mk' U2 (mg_of X G a2) (U2.binds (ps:=["table"]) λ_ _ _ _ _ _ us hl=>match us,hl with| [_],_=>rfl) mM lU (λcdv A outer s H E hr=>lZ dU hr) mF
 have eH:Fn l.prog w K mg base "shown_parts" ["parts"] 3 cN:=Fn.mk' U3 (mg_of X G a3) (U3.binds (ps:=["parts"]) λ_ _ _ _ _ _ us hl=>match us,hl with| [_],_=>rfl) mN lW (λcdv A outer s H E hr=>m3 bK d7 bQ hr) mG
 have dW:Fn l.prog w K mg base "is_number" ["word"] 1 cR:=Fn.mk' U8 (mg_of X G a8) (U8.binds (ps:=["word"]) λ_ _ _ _ _ _ us hl=>match us,hl with| [_],_=>rfl) jU n8 (λcdv A outer s H E hr=>nJ bK fY cT fJ hr) oB
 have dP:Fn l.prog w K mg base "read_row" ["text"] 2 cJ:=Fn.mk' U4 (mg_of X G a4) (U4.binds (ps:=["text"]) λ_ _ _ _ _ _ us hl=>match us,hl with| [_],_=>rfl) kP oC (λcdv A outer s H E hr=>oJ fY b8 gZ dW hr) oV
 have cS:Fn l.prog w K mg base "read_table" ["text"] 3 bP:=Fn.mk' U5 (mg_of X G a5) (U5.binds (ps:=["text"]) λ_ _ _ _ _ _ us hl=>match us,hl with| [_],_=>rfl) j1 mH (λcdv A outer s H E hr=>mO b8 oO bK dP hr) nA
 have i4:Fn l.prog w K mg base "read_part" ["text"] 4 e6:=Fn.mk' U7 (mg_of X G a7) (U7.binds (ps:=["text"]) λ_ _ _ _ _ _ us hl=>match us,hl with| [_],_=>rfl) jT nB (λcdv A outer s H E hr=>nI bK gZ dW cS hr) oD
 have eY:Fn l.prog w K mg base "read_parts" ["text"] 5 cV:=Fn.mk' U6 (mg_of X G a6) (U6.binds (ps:=["text"]) λ_ _ _ _ _ _ us hl=>match us,hl with| [_],_=>rfl) nG mI (λcdv A outer s H E hr=>mP d7 i4 hr) nE
 have eX:Fn l.prog w K mg base "_law_cell" ["_law_script","_law_k"] 1 dL:=Fn.mk' U9 (mg_of X G a9) (U9.binds (ps:=["_law_script","_law_k"]) λ_ _ _ _ _ _ us hl=>match us,hl with| [_,_],_=>rfl) zA xC (λcdv A outer s H E hr=>xN bK hr) yW
 have rK:Fn l.prog w K mg base "_law_mixed" ["_law_cell_here","_law_k","_law_prime"] 1 iC:=Fn.mk' U10 (mg_of X G a10) (U10.binds (ps:=["_law_cell_here","_law_k","_law_prime"]) λ_ _ _ _ _ _ us hl=>match us,hl with| [_,_,_],_=>rfl) oI vB (λcdv A outer s H E hr=>vJ hr) x5
 have eW:Fn l.prog w K mg base "_law_draws" ["_law_cell_here","_law_widths","_law_prime"] 2 dY:=Fn.mk' U11 (mg_of X G a11) (U11.binds (ps:=["_law_cell_here","_law_widths","_law_prime"]) λ_ _ _ _ _ _ us hl=>match us,hl with| [_,_,_],_=>rfl) iI vC (λcdv A outer s H E hr=>vK cA bK rK hr) x6
 have kD:Fn l.prog w K mg base "_law_whole" ["_law_found"] 1 gJ:=Fn.mk' U12 (mg_of X G a12) (U12.binds (ps:=["_law_found"]) λ_ _ _ _ _ _ us hl=>match us,hl with| [_],_=>rfl) xM vD (λcdv A outer s H E hr=>vL aR gZ lB hr) xB
 have qB:Fn l.prog w K mg base "_law_row" ["_law_found","_law_many"] 2 kZ:=Fn.mk' U13 (mg_of X G a13) (U13.binds (ps:=["_law_found","_law_many"]) λ_ _ _ _ _ _ us hl=>match us,hl with| [_,_],_=>rfl) sc_row z3 (λcdv A outer s H E hr=>zB aR b8 bK fY kD hr) rd_row
 have fL:Fn l.prog w K mg base "_law_is_table" ["_law_found","_law_many"] 3 e7:=Fn.mk' U14 (mg_of X G a14) (U14.binds (ps:=["_law_found","_law_many"]) λ_ _ _ _ _ _ us hl=>match us,hl with| [_,_],_=>rfl) sP rB (λcdv A outer s H E hr=>rG aR b8 bK fY qB hr) sF
 have dR:Fn l.prog w K mg base "_law_places" ["_law_cell_here","_law_many","_law_prime"] 3 dE:=Fn.mk' U15 (mg_of X G a15) (U15.binds (ps:=["_law_cell_here","_law_many","_law_prime"]) λ_ _ _ _ _ _ us hl=>match us,hl with| [_,_,_],_=>rfl) bT tO (λcdv A outer s H E hr=>tQ cA b8 eW hr) vI
 have dF:Fn l.prog w K mg base "_law_square_table" ["_law_cell_here","_law_many","_law_prime"] 4 cD:=Fn.mk' U16 (mg_of X G a16) (U16.binds (ps:=["_law_cell_here","_law_many","_law_prime"]) λ_ _ _ _ _ _ us hl=>match us,hl with| [_,_,_],_=>rfl) j2 mK (λcdv A outer s H E hr=>mQ b8 cA dR hr) nF
 have jV:Fn l.prog w K mg base "_law_few_parts" ["_law_script","_law_k","_law_prime"] 5 eU:=Fn.mk' U17 (mg_of X G a17) (U17.binds (ps:=["_law_script","_law_k","_law_prime"]) λ_ _ _ _ _ _ us hl=>match us,hl with| [_,_,_],_=>rfl) eV oY (λcdv A outer s H E hr=>p5 cA oP oQ eW eX dR dF hr) rD
 have fK:Fn l.prog w K mg base "_law_row_text" ["_law_row_here"] 1 dG:=Fn.mk' U18 (mg_of X G a18) (U18.binds (ps:=["_law_row_here"]) λ_ _ _ _ _ _ us hl=>match us,hl with| [_],_=>rfl) sQ lR (λcdv A outer s H E hr=>rH iJ hr) mU
 have d3:Fn l.prog w K mg base "_law_table_text" ["_law_table"] 2 bL:=Fn.mk' U19 (mg_of X G a19) (U19.binds (ps:=["_law_table"]) λ_ _ _ _ _ _ us hl=>match us,hl with| [_],_=>rfl) oZ jH (λcdv A outer s H E hr=>oK fK hr) kI
 have fZ:Fn l.prog w K mg base "_law_parts_text" ["_law_parts"] 3 d6:=Fn.mk' U20 (mg_of X G a20) (U20.binds (ps:=["_law_parts"]) λ_ _ _ _ _ _ us hl=>match us,hl with| [_],_=>rfl) p4 jJ (λcdv A outer s H E hr=>oM bK iJ d3 hr) oU
 have iS:Fn l.prog w K mg base "_law_is_parts" ["_law_found","_law_due"] 4 eM:=Fn.mk' U21 (mg_of X G a21) (U21.binds (ps:=["_law_found","_law_due"]) λ_ _ _ _ _ _ us hl=>match us,hl with| [_,_],_=>rfl) mY rE (λcdv A outer s H E hr=>rJ aR gR bK b8 kD fL hr) sH
 have g0:Fn l.prog w K mg base "_law_wide_table" ["_law_cell_here","_law_rows","_law_many","_law_prime"] 4 dS:=Fn.mk' U22 (mg_of X G a22) (U22.binds (ps:=["_law_cell_here","_law_rows","_law_many","_law_prime"]) λ_ _ _ _ _ _ us hl=>match us,hl with| [_,_,_,_],_=>rfl) kQ oE (λcdv A outer s H E hr=>oN b8 cA dR hr) oX
 exact u5 U23 dO yY (λcdv A outer s H E hr=>⟨rF,zC gR eW eX dR fK dU qB dP dF d3 bQ fL cS jV fZ eH eY iS g0 hr,rd_law⟩)
end M
open PySem PySem.W PyProof.Rows
namespace PySem.W.Fast
def tw13858604170589125821:=()
def tw16699354749336723093:=()
def tw15973453177858473231:=()
def tw4400245694300531224:=()
def tw10865505724635598199:=()
def tw12158125648683446530:=()
def tw1648311818772377401:=()
def tw1425027344705873976:=()
def tw6585543260865882383:=()
def tw17063820480977837898:=()
def tw18267784044643343469:=()
def tw10376476851179928111:=()
def tw11267146112426493017:=()
def tw8811211861903235313:=()
def tw5741914448474633500:=()
def tw3234173143178428461:=()
def tw3010230084855659817:=()
def tw6161334659983598654:=()
def tw12826689409475852962:=()
def tw13968379081133201879:=()
def tw9930621877387197878:=()
def tw882615088449803086:=()
def tw6751630875138524418:=()
def tw6518449341978413267:=()
def tw4919720094489998833:=()
def tw13132565394466793266:=()
def tw13898179699029363806:=()
def tw8328895113014769200:=()
def tw6829834584210437072:=()
def tw1446284374285108820:=()
def tw15615239280914337619:=()
def tw4114076676990863208:=()
def tw10824417070874377457:=()
def tw15656527858450677301:=()
def tw11396006500422835526:=()
def tw3817145135385718777:=()
def tw9204822647221445619:=()
def tw11665206841813959691:=()
def tw4735493868757332777:=()
def tw9723214467749831315:=()
def tw470230079055644859:=()
def tw5960073125561435741:=()
def tw15996997248418826797:=()
def tw7458704169401572655:=()
end PySem.W.Fast
set_option maxRecDepth 100000 in
set_option maxHeartbeats 0 in
theorem PySem.Challenge.cw_ringhouse_k86_written_holds : PySem.Challenge.rw_ringhouse_k86_written.Holds := by
 w_on;o_law;k_head;(case hw=>w_witness2)
 k_fill
 refine M.walkM (l:=PySem.Challenge.rw_ringhouse_k86_written) (k:=6) (x:="_law_script") rfl rfl ⟨rfl,by decide,by decide⟩ (λw h Y=>PySem.W.kIn_of Y) ?F
 case F=>
  intro w mg fa h KX G hmg
  refine' M.all_mk KX G hmg ?a1 ?l1 ?c1 ?k1 ?a2 ?l2 ?c2 ?k2 ?a3 ?l3 ?c3 ?k3 ?a4 ?l4 ?c4 ?k4 ?a5 ?l5 ?c5 ?k5 ?a6 ?l6 ?c6 ?k6 ?a7 ?l7 ?c7 ?k7 ?a8 ?l8 ?c8 ?k8 ?a9 ?l9 ?c9 ?k9 ?a10 ?l10 ?c10 ?k10 ?a11 ?l11 ?c11 ?k11 ?a12 ?l12 ?c12 ?k12 ?a13 ?l13 ?c13 ?k13 ?a14 ?l14 ?c14 ?k14 ?a15 ?l15 ?c15 ?k15 ?a16 ?l16 ?c16 ?k16 ?a17 ?l17 ?c17 ?k17 ?a18 ?l18 ?c18 ?k18 ?a19 ?l19 ?c19 ?k19 ?a20 ?l20 ?c20 ?k20 ?a21 ?l21 ?c21 ?k21 ?a22 ?l22 ?c22 ?k22 ?a23 ?l23 ?c23 ?k23 ?iJ ?bK ?fY ?b8 ?gZ ?oO ?cA ?aR ?lB ?oP ?oQ ?gR ?d7 ?cT ?fJ
  (case a1=>k_is);(case l1=>k_is);(case c1=>k_is);(case k1=>k_is);(case a2=>k_is);(case l2=>k_is);(case c2=>k_is);(case k2=>k_is);(case a3=>k_is);(case l3=>k_is);(case c3=>k_is);(case k3=>k_is);(case a4=>k_is);(case l4=>k_is);(case c4=>k_is);(case k4=>k_is);(case a5=>k_is);(case l5=>k_is);(case c5=>k_is);(case k5=>k_is);(case a6=>k_is);(case l6=>k_is);(case c6=>k_is);(case k6=>k_is);(case a7=>k_is);(case l7=>k_is);(case c7=>k_is);(case k7=>k_is);(case a8=>k_is);(case l8=>k_is);(case c8=>k_is);(case k8=>k_is);(case a9=>k_is);(case l9=>k_is);(case c9=>k_is);(case k9=>k_is);(case a10=>k_is);(case l10=>k_is);(case c10=>k_is);(case k10=>k_is);(case a11=>k_is);(case l11=>k_is);(case c11=>k_is);(case k11=>k_is);(case a12=>k_is);(case l12=>k_is);(case c12=>k_is);(case k12=>k_is);(case a13=>k_is);(case l13=>k_is);(case c13=>k_is);(case k13=>k_is);(case a14=>k_is);(case l14=>k_is);(case c14=>k_is);(case k14=>k_is);(case a15=>k_is);(case l15=>k_is);(case c15=>k_is);(case k15=>k_is);(case a16=>k_is);(case l16=>k_is);(case c16=>k_is);(case k16=>k_is);(case a17=>k_is);(case l17=>k_is);(case c17=>k_is);(case k17=>k_is);(case a18=>k_is);(case l18=>k_is);(case c18=>k_is);(case k18=>k_is);(case a19=>k_is);(case l19=>k_is);(case c19=>k_is);(case k19=>k_is);(case a20=>k_is);(case l20=>k_is);(case c20=>k_is);(case k20=>k_is);(case a21=>k_is);(case l21=>k_is);(case c21=>k_is);(case k21=>k_is);(case a22=>k_is);(case l22=>k_is);(case c22=>k_is);(case k22=>k_is);(case a23=>k_is);(case l23=>k_is);(case c23=>k_is);(case k23=>k_is);(case iJ=>k_is);(case bK=>k_is);(case fY=>k_is);(case b8=>k_is);(case gZ=>k_is);(case oO=>k_is);(case cA=>k_is);(case aR=>k_is);(case lB=>k_is);(case oP=>k_is);(case oQ=>k_is);(case gR=>k_is);(case d7=>k_is);(case cT=>k_is);(case fJ=>k_is)
