import PyProof.Rows.All
import Wide.All
import OpenK.AllK
import Wide.FinOn
import Lean
import PyProof.EqAt
import PyProof.EqKinds
import PyProof.TupleCall
import PySem.Challenge.RW_ringhouse_k87_read_or_refused
set_option Elab.async false
set_option linter.all false
open PySem.W (instObj methodObj of_hideAll lookIn keepIn cellsFrom_some fnOf codeIn excIn nsIn kitOne kitAny mg_of mg_none_of)
open List (range filterMap_cons mem_cons_self mem_cons_of_mem getElem?_set_self getElem?_set_ne mem_append_right append_nil of_mem_zip replicate length length_take getElem?_append_left getElem?_map length_append length_map size_toArray length_drop reverse_cons replicate_succ flatten_cons foldl foldl_cons map_nil map_cons length_cons getElem?_set length_set getD_eq_getElem?_getD getElem?_eq_getElem lookup_cons all_eq_true mem_cons not_mem_nil ext_getElem? getElem?_eq_none length_reverse getElem_mem map_append take_of_length_le mem_append map_map all_cons map_take map_drop mem_of_mem_drop all_map take_succ any_map forall_mem_cons Nodup)
open Nat (lt_of_lt_of_le lt_irrefl ne_of_lt le_trans le_of_lt ne_of_gt le_refl succ_mul mul_comm zero_le mul_le_mul toDigits zero_lt_succ mul_succ mul_le_mul_right)
open Int (toNat_natCast emod_nonneg emod_lt_of_pos toNat_of_nonneg toNat)
open Bool (and_eq_true false_xor beq_eq_decide_eq true_xor false_eq_true)
open PySem.Heap (lt_size get?_none_of_le SameBut get?_push_of_some get?_push_size size_push FlyingW HeldW)
open Option (getD_none map_some bind_some)
open Array (length_toList toList toList_append all_toList)
set_option maxRecDepth 100000
namespace L2
open PySem PySem.Spec PyProof.Rows
abbrev Key:=Sum Int Str
def b76:Key->Value->Bool
 | .inl k,v=>Value.isInt k v
 | .inr x,v=>Value.isStrOf x v
def keyH (w:World):Key->Int
 | .inl k=>hashInt k
 | .inr x=>hashStr w x
theorem cP: ∀{k:Key} {v:Value},b76 k v=true->(∃i t,k=Sum.inl i/\v=Value.int i t)\/(∃x t,k=Sum.inr x/\v=Value.str x t)
 | .inl i,v,h=>by
  obtain⟨t,e⟩:=Value.isInt_shape (k:=i) (v:=v) h;exact .inl ⟨i,t,rfl,e⟩
 | .inr x,v,h=>by
  obtain⟨t,e⟩:=Value.isStrOf_shape (x:=x) (v:=v) h;exact .inr ⟨x,t,rfl,e⟩
theorem key_ll (a b:Int):decide ((Sum.inl a:Key)=Sum.inl b)=(a==b):=by
 by_cases e:a=b
 ·subst e;simp
 ·have h: ¬(Sum.inl a:Key)=Sum.inl b:=λq=>e (Sum.inl.inj q)
  rw[decide_eq_false h];exact(beq_eq_false_iff_ne.mpr e).symm
theorem key_rr (a b:Str):decide ((Sum.inr a:Key)=Sum.inr b)=decide (a=b):=by
 by_cases e:a=b
 ·subst e;simp
 ·have h: ¬(Sum.inr a:Key)=Sum.inr b:=λq=>e (Sum.inr.inj q)
  rw[decide_eq_false h,decide_eq_false e]
theorem key_lr (a:Int)(b:Str):decide ((Sum.inl a:Key)=Sum.inr b)=false:=decide_eq_false (λq=>nomatch q)
theorem key_rl (a:Str)(b:Int):decide ((Sum.inr a:Key)=Sum.inl b)=false:=decide_eq_false (λq=>nomatch q)
def aF8 (prog:Program)(w:World):PySem.KeyKind prog w Key where
 is:=b76
 hash:=keyH w
 inj:=λv a b ha hb=>by
  rcases cP ha with⟨i,t,rfl,rfl⟩| ⟨x,t,rfl,rfl⟩
  ·rcases cP hb with⟨j,u,rfl,e⟩| ⟨y,u,rfl,e⟩
   ·injection e with e1 _;rw[e1]
   ·exact nomatch e
  ·rcases cP hb with⟨j,u,rfl,e⟩| ⟨y,u,rfl,e⟩
   ·exact nomatch e
   ·injection e with e1 _;rw[e1]
 byValue:=λk v h=>by
  rcases cP h with⟨i,t,rfl,rfl⟩| ⟨x,t,rfl,rfl⟩<;>rfl
 pyHash:=λhv h=>by
  rcases cP hv with⟨i,t,rfl,rfl⟩| ⟨x,t,rfl,rfl⟩
  ·exact wpAny_pyHash_int h
  ·exact wpAny_pyHash_str h
 eqBool:=λhu hv h=>by
  rcases cP hu with⟨i,t,rfl,rfl⟩| ⟨x,t,rfl,rfl⟩
  ·rcases cP hv with⟨j,u,rfl,rfl⟩| ⟨y,u,rfl,rfl⟩
   ·rw[key_ll]at h;exact wpAny_eqBool_int h
   ·rw[key_lr]at h;exact SeqAt.EqAt.int_str i t y u _ _ _ _ h
  ·rcases cP hv with⟨j,u,rfl,rfl⟩| ⟨y,u,rfl,rfl⟩
   ·rw[key_rl]at h;exact SeqAt.EqAt.str_int x t j u _ _ _ _ h
   ·rw[key_rr]at h;exact wpAny_eqBool_str h
 «strs» :=λk x t v h=>by
  rcases cP h with⟨i,u,rfl,e⟩| ⟨y,u,rfl,e⟩
  ·exact nomatch e
  ·injection e with e1 _
   subst e1;cases v<;>rfl
end L2
namespace L2
open PySem PySem.Spec PyProof.Rows
inductive V where
 | non|bl (b:Bool)|int (i:Int)|str (x:Str)|byt (b:Array UInt8)|flt (b:UInt64)|ref (a:Addr)|ty (n:String)
 deriving DecidableEq
def RelV:V->Value->Prop
 | .non,u=>u=Value.none
 | .bl b,u=>u=Value.bool b
 | .int i,u=> ∃t,u=Value.int i t
 | .str x,u=> ∃t,u=Value.str x t
 | .byt b,u=> ∃t,u=Value.bytes b t
 | .flt b,u=> ∃t,u=Value.float b t
 | .ref a,u=>u=Value.ref a
 | .ty n,u=>u=Value.type n
abbrev aZ:List V->List Value->Prop:=Paired RelV
theorem aZ.length {xs:List V}{us:List Value}(r:aZ xs us):xs.length=us.length:=Paired.length r
theorem aZ.get: ∀{xs:List V} {us:List Value} {i:Nat} {x:V},aZ xs us->xs[i]? =some x-> ∃u,us[i]? =some u/\RelV x u
 | _,_,_,_,.nil,e=>by simp at e
 | _,_,0,_,.cons r _,e=>by simp at e;subst e;exact⟨_,rfl,r⟩
 | _,_,i+1,x,.cons _ t,e=>by
  obtain⟨u,h1,h2⟩:=aZ.get (i:=i) (x:=x) t (by simpa using e)
  exact⟨u,by simpa using h1,h2⟩
theorem aZ.set {x:V}{u:Value}(r:RelV x u): ∀{xs:List V} {us:List Value} (i:Nat),aZ xs us->aZ (xs.set i x) (us.set i u)
 | _,_,_,.nil=> .nil
 | _,_,0,.cons _ t=> .cons r t
 | _,_,i+1,.cons q t=> .cons q (aZ.set r i t)
theorem aZ.append: ∀{xs ys:List V} {us ws:List Value},aZ xs us->aZ ys ws->aZ (xs++ys) (us++ws)
 | _,_,_,_,.nil,s=>s
 | _,_,_,_,.cons r t,s=> .cons r (aZ.append t s)
theorem aZ.take: ∀{xs:List V} {us:List Value} (n:Nat),aZ xs us->aZ (xs.take n) (us.take n)
 | _,_,0,_=> .nil
 | _,_,_+1,.nil=> .nil
 | _,_,n+1,.cons r t=> .cons r (aZ.take n t)
theorem aZ.drop: ∀{xs:List V} {us:List Value} (n:Nat),aZ xs us->aZ (xs.drop n) (us.drop n)
 | _,_,0,r=>r
 | _,_,_+1,.nil=> .nil
 | _,_,n+1,.cons _ t=>aZ.drop n t
theorem aZ.none_of: ∀{xs:List V} {us:List Value} {i:Nat},aZ xs us->xs[i]? =none->us[i]? =none:=λ{xs us i} r e=>by
 have h1:=r.length;have h2:xs.length<=i:=List.getElem?_eq_none_iff.mp e;exact List.getElem?_eq_none_iff.mpr (by lia)
def aZ1:Option V->Option Value->Prop
 | some v,some u=>RelV v u
 | none,none=>True
 | _,_=>False
def KV {κ:Type}:List (κ×V)->List (κ×Value)->Prop:=Paired fun(p:κ×V) (q:κ×Value)=>p.1=q.1/\RelV p.2 q.2
def kV:Key->V
 | .inl i=> .int i
 | .inr x=> .str x
inductive HO where
 | lst (xs:List V)
 | tup (xs:List V)
 | dK (kvs:List (Key×V))|dT (kvs:List (List Key×V))
 | set (S:Int->Bool) (n:Nat)
 | ins (C dx:Addr) (fs:List (Str×V))
 | own (x:Addr)
 | xd (fs:List (Str×V))
 | met (f x:Addr)
 | rng (lo hi:Int)
 | frz (o:Obj) (u:HO)
 | tbl (ps:Array Value)
 | ext (φ:Heap->Prop)
abbrev Hp:=Addr->Option HO
def upd (H:Hp)(a:Addr)(o:HO):Hp:=λb=>if b=a then some o else H b
theorem lN {H:Hp}{a:Addr}{o:HO}:upd H a o a=some o:=by unfold upd;rw[if_pos rfl]
theorem cU {H:Hp}{a b:Addr}{o:HO}(h:b≠a):upd H a o b=H b:=by unfold upd;rw[if_neg h]
theorem gQ {H:Hp}{a b:Addr}{o:HO}(h:H a=some o)(h':H b=none):a≠b:=by
 intro e;subst e;rw[h]at h';cases h'
section
variable (P:Program)(w:World)
def kK (H:Hp)(h:Heap)(a:Addr):HO->Prop
 | .lst xs=>xs.length<=sizeLine/\ ∃(its:List Value) (n:Nat),aZ xs its/\h.get? a=some {cls:= .type "list",data:= .seq its.toArray n}
 | .tup xs=>xs.length<=sizeLine/\ ∃its:List Value,aZ xs its/\IsTup h a its.toArray
 | .dK kvs=>kvs.length<=sizeLine/\(a==sysModules)=false/\ ∃vs,KV kvs vs/\h.DictOf (aF8 P w) a vs
 | .dT kvs=>kvs.length<=sizeLine/\(a==sysModules)=false/\ ∃xs:List (List Key×Addr×Value),
   Paired (fun(p:List Key×V) (q:List Key×Addr×Value)=>p.1=q.1/\H q.2.1=some (.tup (p.1.map kV))/\RelV p.2 q.2.2) kvs xs/\
   ∃o es ep,h.get? a=some o/\o.ExactDict/\o.data= .dict es ep/\es.toList=xs.map (entryOfKey (tupleKind (aF8 P w)))/\(xs.map (·.1)).Nodup
 | .set S n=>h.SetOf (intKind P w) a S n
 | .ins C dx fs=>H dx=some (.own a)/\fs.length<=1000/\dx≠a/\h.get? a=some (instObj C dx)/\
   ∃mA,h.Ns1 dx mA/\(∀f,aZ1 (fs.lookup f) (mA f))/\PySem.Within mA (fs.map (·.1))
 | .own _=> ∃o,h.get? a=some o
 | .xd fs=> ∃mA,h.Ns1 a mA/\ ∀f,aZ1 (fs.lookup f) (mA f)
 | .rng lo hi=> ∃t u v,h.get? a=some {cls:= .type "range",data:= .fields #[.int lo t,.int hi u,.int 1 v]}
 | .frz o u=>h.get? a=some o/\kK H h a u
 | .tbl ps=>h.get? a=some {cls:= .none,data:= .fields ps}
 | .met f x=>h.get? a=some (methodObj (.ref f) (.ref x))
 | .ext φ=>φ h/\(∃o,h.get? a=some o)/\ ∀h1 h2:Heap,φ h1->(∀o,h1.get? a=some o->h2.get? a=some o)->φ h2
def HOk (H:Hp)(h:Heap):Prop:= ∀a o,H a=some o->kK P w H h a o
end
section
variable {P:Program}{w:World}{H H':Hp}{h h':Heap}{a:Addr}{o:HO}
theorem kK.lt (x:kK P w H h a o):a<h.objs.size:=by
 cases o with
 | lst xs=>obtain⟨_,_,_,_,e⟩:=x;exact lt_size e
 | tup xs=>obtain⟨_,_,_,p⟩:=x;exact p.lt
 | dK kvs=>obtain⟨_,_,_,_,o,_,_,e,_⟩:=x;exact lt_size e
 | dT kvs=>obtain⟨_,_,_,_,o,_,_,e,_⟩:=x;exact lt_size e
 | set S n=>obtain⟨o,_,_,_,e,_⟩:=x;exact lt_size e
 | ins C dx fs=>obtain⟨_,_,_,e,_⟩:=x;exact lt_size e
 | own y=>obtain⟨_,e⟩:=x;exact lt_size e
 | xd fs=>obtain⟨_,⟨_,_,_,e,_⟩,_⟩:=x;exact lt_size e
 | rng lo hi=>obtain⟨_,_,_,e⟩:=x;exact lt_size e
 | frz ob u=>obtain⟨e,_⟩:=x;exact lt_size e
 | tbl ps=>exact lt_size (show h.get? a=some _ from x)
 | met f y=>exact lt_size (show h.get? a=some _ from x)
 | ext φ=>obtain⟨_,⟨_,e⟩,_⟩:=x;exact lt_size e
theorem Paired.mapP {α β:Type}{F G:α->β->Prop}: ∀{l₁:List α} {l₂:List β},Paired F l₁ l₂->(∀a b,F a b->G a b)->Paired G l₁ l₂
 | _,_,.nil,_=> .nil
 | _,_,.cons r t,f=> .cons (f _ _ r) (Paired.mapP t f)
theorem kK.stay (x:kK P w H h a o)(k: ∀b u,(b=a\/H b=some (.own a))->h.get? b=some u->h'.get? b=some u)
  (ho: ∀b,H b=some (.own a)->H' b=some (.own a)) (ht: ∀b xs,H b=some (.tup xs)->H' b=some (.tup xs)):kK P w H' h' a o:=by
 induction o with
 | lst xs=>obtain⟨z,its,n,r,e⟩:=x;exact⟨z,its,n,r,k _ _ (.inl rfl) e⟩
 | tup xs=>obtain⟨z,its,r,ob,e,c⟩:=x;exact⟨z,its,r,ob,k _ _ (.inl rfl) e,c⟩
 | dK kvs=>obtain⟨z,y,vs,r,ob,es,ep,e,c⟩:=x;exact⟨z,y,vs,r,ob,es,ep,k _ _ (.inl rfl) e,c⟩
 | dT kvs=>
  obtain⟨z,y,xs,r,ob,es,ep,e,c⟩:=x;exact⟨z,y,xs,Paired.mapP r λp q z=>⟨z.1,ht _ _ z.2.1,z.2.2⟩,ob,es,ep,k _ _ (.inl rfl) e,c⟩
 | set S n=>obtain⟨ob,es,ep,t,e,c⟩:=x;exact⟨ob,es,ep,t,k _ _ (.inl rfl) e,c⟩
 | ins C dx fs=>
  obtain⟨d,z,ne,e,mA,⟨od,es,ep,e2,c⟩,r⟩:=x;exact⟨ho _ d,z,ne,k _ _ (.inl rfl) e,mA,⟨od,es,ep,k _ _ (.inr d) e2,c⟩,r⟩
 | own y=>obtain⟨ob,e⟩:=x;exact⟨ob,k _ _ (.inl rfl) e⟩
 | xd fs=>obtain⟨mA,⟨od,es,ep,e,c⟩,r⟩:=x;exact⟨mA,⟨od,es,ep,k _ _ (.inl rfl) e,c⟩,r⟩
 | rng lo hi=>obtain⟨t,u,v,e⟩:=x;exact⟨t,u,v,k _ _ (.inl rfl) e⟩
 | frz ob u ih=>obtain⟨e,q⟩:=x;exact⟨k _ _ (.inl rfl) e,ih q⟩
 | tbl ps=>
  have e:h.get? a=some {cls:= .none,data:= .fields ps}:=x;show h'.get? a=some {cls:= .none,data:= .fields ps};exact k a _ (.inl rfl) e
 | met f y=>
  have e:h.get? a=some (methodObj (.ref f) (.ref y)):=x;show h'.get? a=some (methodObj (.ref f) (.ref y));exact k a _ (.inl rfl) e
 | ext φ=>obtain⟨p,⟨o,e⟩,st⟩:=x;exact⟨st _ _ p λo q=>k _ _ (.inl rfl) q,⟨o,k _ _ (.inl rfl) e⟩,st⟩
theorem HOk.lt (x:HOk P w H h)(e:H a=some o):a<h.objs.size:=(x a o e).lt
theorem HOk.fresh (x:HOk P w H h)(e:h.objs.size<=a):H a=none:=by
 cases q:H a with
 | none=>rfl
 | some u=>exact absurd (lt_of_lt_of_le (x.lt q) e) (lt_irrefl _)
theorem HOk.kept (x:HOk P w H h)(k: ∀b u,h.get? b=some u->h'.get? b=some u):HOk P w H h':=λa o e=>
 (x a o e).stay (λb u _ q=>k b u q) (λ_ q=>q) λ_ _ q=>q
theorem HOk.laid (x:HOk P w H h)(k: ∀b u,h.get? b=some u->h'.get? b=some u)(hp:h.objs.size<=a)(new:kK P w (upd H a o) h' a o):HOk P w (upd H a o) h':=λb u e=>by
 have hn:=x.fresh hp
 by_cases hb:b=a
 ·subst hb;rw[lN]at e;cases e;exact new
 ·rw[cU hb]at e;exact(x b u e).stay (λc v _ q=>k c v q) (λc q=>by rw[cU (gQ q hn)];exact q) λc xs q=>by rw[cU (gQ q hn)];exact q
end
def Rd (H:Hp)(a:Addr)(u:HO):Prop:=H a=some u\/ ∃o,H a=some (.frz o u)
theorem Rd.of {H:Hp}{a:Addr}{u:HO}(h:H a=some u):Rd H a u:= .inl h
theorem Rd.ok {P:Program}{w:World}{H:Hp}{h:Heap}{a:Addr}{u:HO}(r:Rd H a u)(x:HOk P w H h):kK P w H h a u:=by
 rcases r with r| ⟨o,r⟩
 ·exact x a u r
 ·obtain⟨_,q⟩:=x a _ r;exact q
def Mut:Option HO->Prop
 | some (.lst _)=>True
 | some (.dK _)=>True
 | some (.dT _)=>True
 | some (.set _ _)=>True
 | some (.ins _ _ _)=>True
 | some (.ext _)=>True
 | _=>False
section
variable {P:Program}{w:World}{H:Hp}{h h':Heap}{x e:Addr}{o':HO}
theorem HOk.write (ok:HOk P w H h)(mu:Mut (H x))(he:e=x\/H e=some (.own x))(k: ∀b u,b≠e->h.get? b=some u->h'.get? b=some u)(heo: ∃u,h'.get? e=some u)
  (new:kK P w (upd H x o') h' x o'):HOk P w (upd H x o') h':=λb u q=>by
 have nown: ∀c y,H c=some (.own y)->c≠x:=λc y r z=>by subst z;rw[r]at mu;exact mu
 have ntup: ∀c xs,H c=some (.tup xs)->c≠x:=λc xs r z=>by subst z;rw[r]at mu;exact mu
 by_cases hb:b=x
 ·subst hb;rw[lN]at q;cases q;exact new
 ·rw[cU hb]at q
  by_cases hbe:b=e
  ·have q':H b=some (.own x):=by
    rcases he with z|z
    ·exact absurd (hbe.trans z) hb
    ·rw[hbe];exact z
   rw[q]at q';cases q';obtain⟨v,hv⟩:=heo;exact⟨v,by rw[hbe];exact hv⟩
  ·refine(ok b u q).stay (λc v hc r=>k c v ?_ r) (λc r=>by rw[cU (nown c b r)];exact r) λc xs r=>by rw[cU (ntup c xs r)];exact r
   rcases hc with rfl|hc
   ·exact hbe
   ·rintro rfl;rcases he with z|z
    ·exact nown c b hc z
    ·rw[hc]at z;cases z;exact hb rfl
end
structure Un (fs ex:List Addr)(H H':Hp)(h h':Heap):Prop where
 keep: ∀b o,h.get? b=some o->H b=none->b ∉ fs->b ∉ ex->h'.get? b=some o
 slot: ∀b o,h.get? b=some o->H b=none->b∈fs->b ∉ ex-> ∃sl,h'.get? b=some {o with slots:=sl}
 free: ∀b o,h.get? b=some o->H b=none->b ∉ ex->H' b=none
 there: ∀b o,h.get? b=some o->b ∉ ex-> ∃o',h'.get? b=some o'
 tups: ∀b xs,H b=some (.tup xs)->H' b=some (.tup xs)
 frzs: ∀b o u,H b=some (.frz o u)->H' b=some (.frz o u)
 tbls: ∀b ps,H b=some (.tbl ps)-> ∃more,H' b=some (.tbl (ps++more))
section
variable {fs fs' ex ex':List Addr}{H H1 H2:Hp}{h h1 h2 h':Heap}{a x e:Addr}{o:HO}
theorem Un.any (u:Un fs ex H H1 h h1){b:Addr}{ob:Obj}(q:h.get? b=some ob)(n:H b=none)(hx:b ∉ ex): ∃sl,h1.get? b=some {ob with slots:=sl}:=by
 by_cases hb:b∈fs
 ·exact u.slot b ob q n hb hx
 ·exact⟨ob.slots,u.keep b ob q n hb hx⟩
theorem Un.trans (a:Un fs ex H H1 h h1)(b:Un fs ex H1 H2 h1 h2):Un fs ex H H2 h h2 where
 keep:=λc ob q n hc hx=>b.keep c ob (a.keep c ob q n hc hx) (a.free c ob q n hx) hc hx
 slot:=λc ob q n hc hx=>by
  obtain⟨sl,e1⟩:=a.slot c ob q n hc hx;obtain⟨sl',e2⟩:=b.slot c _ e1 (a.free c ob q n hx) hc hx;exact⟨sl',e2⟩
 free:=λc ob q n hx=>by
  obtain⟨o',e1⟩:=a.there c ob q hx;exact b.free c o' e1 (a.free c ob q n hx) hx
 there:=λc ob q hx=>by
  obtain⟨o',e1⟩:=a.there c ob q hx;exact b.there c o' e1 hx
 tups:=λc xs q=>b.tups c xs (a.tups c xs q)
 frzs:=λc ob xs q=>b.frzs c ob xs (a.frzs c ob xs q)
 tbls:=λc ps q=>by
  obtain⟨m1,e1⟩:=a.tbls c ps q;obtain⟨m2,e2⟩:=b.tbls c _ e1;exact⟨m1++m2,by rw[e2,Array.append_assoc]⟩
theorem Un.kept (k: ∀b u,h.get? b=some u->h'.get? b=some u):Un fs ex H H h h':=
 ⟨λb ob q _ _ _=>k b ob q,λb ob q _ _ _=>⟨ob.slots,k b ob q⟩,λ_ _ _ n _=>n,λb ob q _=>⟨ob,k b ob q⟩,λ_ _ q=>q,λ_ _ _ q=>q,λ_ ps q=>⟨#[],by rw[q];simp⟩⟩
theorem Un.refl:Un fs ex H H h h:=Un.kept λ_ _ q=>q
theorem Un.laid (k: ∀b u,h.get? b=some u->h'.get? b=some u)(hp:h.objs.size<=a)(hn:H a=none):Un fs ex H (upd H a o) h h' where
 keep:=λb u q _ _ _=>k b u q
 slot:=λb u q _ _ _=>⟨u.slots,k b u q⟩
 free:=λb u q n _=>by rw[cU (ne_of_lt (lt_of_lt_of_le (lt_size q) hp))];exact n
 there:=λb u q _=>⟨u,k b u q⟩
 tups:=λb xs q=>by rw[cU (gQ q hn)];exact q
 frzs:=λb u xs q=>by rw[cU (gQ q hn)];exact q
 tbls:=λb ps q=>⟨#[],by rw[cU (gQ q hn),q];simp⟩
theorem Un.write (mu:Mut (H x))(he:e=x\/H e=some (.own x))(k: ∀b u,b≠e->h.get? b=some u->h'.get? b=some u)(heo: ∃u,h'.get? e=some u):Un fs ex H (upd H x o) h h':=by
 have hx: ∀b,H b=none->b≠x:=λb n z=>by subst z;rw[n]at mu;exact mu
 have hb: ∀b,H b=none->b≠e:=λb n z=>by
  subst z;rcases he with r|r
  ·exact hx b n r
  ·rw[n]at r;cases r
 have hm: ∀b u,H b=some u-> ¬Mut (some u)->b≠x:=λb u q nm z=>by subst z;rw[q]at mu;exact nm mu
 refine⟨λb u q n _ _=>k b u (hb b n) q,λb u q n _ _=>⟨u.slots,k b u (hb b n) q⟩,λb u q n _=>by rw[cU (hx b n)];exact n,λb u q _=> ?_,
  λb xs q=>by rw[cU (hm b _ q λz=>z)];exact q,λb u xs q=>by rw[cU (hm b _ q λz=>z)];exact q,λb ps q=>⟨#[],by rw[cU (hm b _ q λz=>z),q];simp⟩⟩
 by_cases hbe:b=e
 ·subst hbe;exact heo
 ·exact⟨u,k b u hbe q⟩
theorem Un.mono (u:Un fs ex H H1 h h1)(hs: ∀b∈fs,b∈fs')(hx: ∀b∈ex,b∈ex'):Un fs' ex' H H1 h h1:=
 ⟨λb ob q n hb he=>u.keep b ob q n (λz=>hb (hs b z)) λz=>he (hx b z),λ_ _ q n _ he=>u.any q n λz=>he (hx _ z),λb ob q n he=>u.free b ob q n λz=>he (hx b z),λb ob q he=>u.there b ob q λz=>he (hx b z),u.tups,u.frzs,u.tbls⟩
end
def trk (h:Heap)(H:Hp):List Addr:=(range h.objs.size).filter λa=>(H a).isSome
def zH (h:Heap)(H:Hp):Heap:=PySem.W.hideAll h (trk h H)
theorem aK1 (h:Heap)(H:Hp):(zH h H).objs.size=h.objs.size:=PySem.W.hideAll_size _ _
theorem aO5 {h:Heap}{H:Hp}{b:Addr}{o:Obj}(e:h.get? b=some o)(n:H b=none):(zH h H).get? b=some o:=
 PySem.W.hideAll_get _ e λhm=>by
  have q:(H b).isSome=true:=(List.mem_filter.mp hm).2;rw[n]at q;simp at q
theorem aZ2 {h:Heap}{H:Hp}{b:Addr}{o:Obj}(e:(zH h H).get? b=some o):h.get? b=some o/\H b=none:=by
 have e':h.get? b=some o:=of_hideAll (trk h H) e;refine⟨e',?_⟩;cases q:H b with
 | none=>rfl
 | some x=>
  have hm:b∈trk h H:=List.mem_filter.mpr ⟨List.mem_range.mpr (lt_size e'),by simp[q]⟩
  have z:(zH h H).get? b=none:=PySem.W.hideAll_none (trk h H) hm;rw[z]at e;cases e
def aZ3 (g h:Heap)(L:Addr):List (Addr×Obj):=(range h.objs.size).filterMap λa=>if a=L\/(g.get? a).isSome=true then none else(h.get? a).map λo=>(a,o)
def fY (g h:Heap)(L d:Addr):List (Addr×Obj):=(aZ3 g h L).filter λp=>decide (p.1≠d)
end L2
namespace L2
open PySem PySem.Spec PyProof.Rows
structure Mod (K:PySem.W.Frag)(mg:Str->Option Value)(base:Heap):Prop where
 kin:K.In base
 glob:base.Ns mainGlobals mg
 blt: ∃mb,base.Ns builtinsNs mb/\ ∀x:Str,x≠"__name__"->mb x=bootBuiltins x
 nolimit:base.NoLimit
structure Cx where
 prog:Program
 w:World
 K:PySem.W.Frag
 mg:Str->Option Value
 base:Heap
 A:Around
 N:List Str
 s₀:Shared
 H₀:Hp
 env:Env
 outer:List Env
 stack:List Env
 ex:List Addr
 fn:Str->Bool
 calm:Bool
 pn:List (Addr×Obj)
 xe:Value->Shared->Prop
def frs (l:List Env):List Addr:=l.filterMap (·.frame)
abbrev Cx.fs (X:Cx):List Addr:=frs X.outer
def Vis (sc:Scope)(x:Str):Prop:=sc.names.lookup x=some .local\/sc.names.lookup x=some .cell\/sc.names.lookup x=some .free
def Loc (sc:Scope)(x:Str):Prop:=sc.names.lookup x=some .local\/sc.names.lookup x=some .cell
def Look (env:Env)(h:Heap)(m:Str->Option Value)(x:Str)(u:Value):Prop:=
 (env.kindOf x=some .local/\m x=some u)\/((env.kindOf x=some .cell\/env.kindOf x=some .free)/\ ∃c,env.cells.lookup x=some c/\h.IsCell c (some u))
structure Cx.Ok (X:Cx):Prop where
 mod:Mod X.K X.mg X.base
 kind:X.env.scope.kind= .function
 glob:X.env.globals=mainGlobals
 blt:X.env.builtins=builtinsNs
 above:X.s₀.heap.objs.size<=X.env.locals
 inj: ∀x y c,X.env.cells.lookup x=some c->X.env.cells.lookup y=some c->x=y
 has: ∀x,(X.env.kindOf x=some .cell\/X.env.kindOf x=some .free)-> ∃c,X.env.cells.lookup x=some c
 cab: ∀x c,X.fn x=true->X.env.cells.lookup x=some c->X.s₀.heap.objs.size<=c
 hd:X.calm=true->X.A.handled=none
 frames:X.A.frames=some X.stack
 stk:X.stack=X.outer\/(X.stack=X.env::X.outer/\X.env.frame=some X.env.locals)
 exf: ∀b∈X.ex,b≠X.env.locals/\ ∀x c,X.env.cells.lookup x=some c->c≠b
 bs: ∀b o,X.base.get? b=some o->X.s₀.heap.get? b=some o/\X.H₀ b=none
 bsz:X.base.objs.size<=X.s₀.heap.objs.size
 noex: ∀b o,X.base.get? b=some o->b ∉ X.ex
 exfs: ∀b∈X.ex,b ∉ X.fs
 funs:X.s₀.heap.FunFrames X.base X.outer
 frf: ∀b∈X.fs,X.H₀ b=none
structure Inv (X:Cx)(pins:List (Addr×Obj))(σ:List (Option V))(H:Hp)(s:Shared):Prop where
 ok:X.Ok
 os:s.os=X.s₀.os
 bare:AllBare s.gens
 base:Un X.fs X.ex X.H₀ H X.s₀.heap s.heap
 loc: ∃m,s.heap.Ns X.env.locals m/\ ∀(i:Nat) (x:Str) (v:V),X.N[i]? =some x->σ[i]? =some (some v)->Vis X.env.scope x-> ∃u,RelV v u/\Look X.env s.heap m x u
 cell: ∀x c,X.env.cells.lookup x=some c-> ∃v,s.heap.IsCell c v
 free:H X.env.locals=none
 freeC: ∀x c,X.env.cells.lookup x=some c->H c=none
 pin: ∀p∈X.pn++pins,s.heap.get? p.1=some p.2/\H p.1=none/\p.1≠X.env.locals/\p.1 ∉ X.fs/\ ∀v,p.2.data≠ .cell v
 hok:HOk X.prog X.w H s.heap
 len:σ.length=X.N.length
section
variable {X:Cx}{pins:List (Addr×Obj)}{σ:List (Option V)}{H H':Hp}{s:Shared}{h':Heap}
theorem Cx.Ok.nofr (ok:X.Ok){b:Addr}{o:Obj}(e:X.base.get? b=some o):b ∉ X.fs:=λhb=>by
 have:=(ok.funs.mem hb).1;rw[e]at this;cases this
theorem Inv.bs (I:Inv X pins σ H s): ∀b o,X.base.get? b=some o->s.heap.get? b=some o/\H b=none:=λb o e=>
 ⟨I.base.keep b o (I.ok.bs b o e).1 (I.ok.bs b o e).2 (I.ok.nofr e) (I.ok.noex b o e),I.base.free b o (I.ok.bs b o e).1 (I.ok.bs b o e).2 (I.ok.noex b o e)⟩
theorem Inv.bk (I:Inv X pins σ H s): ∀b o,X.base.get? b=some o->s.heap.get? b=some o:=λb o e=>(I.bs b o e).1
theorem Inv.mod (I:Inv X pins σ H s):Mod X.K X.mg X.base:=I.ok.mod
theorem Inv.kIn (I:Inv X pins σ H s):X.K.In s.heap:=I.ok.mod.kin.keeps I.bk
theorem Inv.nolimit (I:Inv X pins σ H s):s.heap.NoLimit:=I.ok.mod.nolimit.keeps I.bk
theorem Inv.fr (I:Inv X pins σ H s): ∃m,Fr X.base X.env.locals s.heap m:=
 let ⟨m,hn,_⟩:=I.loc
 ⟨m,hn,I.bk,le_trans I.ok.bsz I.ok.above⟩
theorem Inv.lt (I:Inv X pins σ H s):X.env.locals<s.heap.objs.size:=let ⟨_,hn,_⟩:=I.loc;hn.lt
theorem Inv.sz (I:Inv X pins σ H s):X.s₀.heap.objs.size<=s.heap.objs.size:=le_trans I.ok.above (le_of_lt I.lt)
theorem Inv.nofs (I:Inv X pins σ H s){a:Addr}(h:s.heap.objs.size<=a):a ∉ X.fs:=λhb=>by
 obtain⟨_,o,ho,_⟩:=I.ok.funs.mem hb;exact absurd (lt_of_lt_of_le (lt_size ho) (le_trans I.sz h)) (lt_irrefl _)
theorem Inv.cne (I:Inv X pins σ H s): ∀x c,X.env.cells.lookup x=some c->c≠X.env.locals:=λx c e z=>by
 obtain⟨v,o,ho,hd⟩:=I.cell x c e;obtain⟨m,⟨o',es,ep,ho',hd',_⟩,_⟩:=I.loc;rw[z,ho']at ho;cases ho;rw[hd']at hd;cases hd
theorem Inv.funs (I:Inv X pins σ H s):s.heap.FunFrames X.base X.outer:=by
 have all: ∀(l:List Env),(∀b∈frs l,b∈X.fs)->X.s₀.heap.FunFrames X.base l->s.heap.FunFrames X.base l:=by
  intro l
  induction l with
  | nil=>intro _ _;trivial
  | cons env r ih=>
   intro hs hl;obtain⟨hk,⟨L,o,hf,hn,ho,hd⟩,hr⟩:=hl;have hL:L∈X.fs:=hs L (by unfold frs;rw[filterMap_cons,hf];exact mem_cons_self)
   obtain⟨sl,e⟩:=I.base.slot L o ho (I.ok.frf L hL) hL λz=>I.ok.exfs L z hL
   exact⟨hk,⟨L,_,hf,hn,e,hd⟩,ih (λb hb=>hs b (by unfold frs;rw[filterMap_cons,hf];exact mem_cons_of_mem _ hb)) hr⟩
 exact all X.outer (λ_ hb=>hb) I.ok.funs
theorem Inv.stack (I:Inv X pins σ H s):s.heap.FunFrames X.base X.stack:=by
 rcases I.ok.stk with e| ⟨e,hf⟩
 ·rw[e];exact I.funs
 ·rw[e];obtain⟨m,hn,_⟩:=I.loc;refine .cons (by rw[I.ok.kind];decide) hf hn ?_ I.funs
  exact get?_none_of_le (le_trans I.ok.bsz I.ok.above)
theorem Inv.stkSub (I:Inv X pins σ H s): ∀b∈frs X.stack,b∈X.env.locals::X.fs:=λb hb=>by
 rcases I.ok.stk with e| ⟨e,hf⟩
 ·rw[e]at hb;exact mem_cons_of_mem _ hb
 ·rw[e]at hb;unfold frs at hb;rw[filterMap_cons,hf]at hb;exact hb
theorem Inv.stkFree (I:Inv X pins σ H s): ∀b∈frs X.stack,H b=none:=λb hb=>by
 rcases List.mem_cons.mp (I.stkSub b hb)with e|hb
 ·rw[e];exact I.free
 ·obtain⟨_,o,ho,_⟩:=I.ok.funs.mem hb;exact I.base.free b o ho (I.ok.frf b hb) λz=>I.ok.exfs b z hb
theorem Inv.step {g':Array GenState}{t':Nat}{d':Drawn}{ch:List Addr}(I:Inv X pins σ H s)
  (hch: ∀b∈ch,(b∈X.ex\/X.s₀.heap.objs.size<=b)/\b≠X.env.locals/\(∀x c,X.env.cells.lookup x=some c->c≠b)/\ ∀p∈X.pn++pins,p.1≠b)
  (keep: ∀b o,b≠X.env.locals->b ∉ X.fs->b ∉ ch->s.heap.get? b=some o->H b=none->h'.get? b=some o)
  (slot: ∀b o,b≠X.env.locals->b∈X.fs->b ∉ ch->s.heap.get? b=some o->H b=none-> ∃sl,h'.get? b=some {o with slots:=sl}) (free: ∀b o,b ∉ ch->s.heap.get? b=some o->H b=none->H' b=none)
  (there: ∀b o,b ∉ ch->s.heap.get? b=some o-> ∃o',h'.get? b=some o')
  (tups: ∀b xs,H b=some (.tup xs)->H' b=some (.tup xs)) (frzs: ∀b o u,H b=some (.frz o u)->H' b=some (.frz o u)) (tbls: ∀b ps,H b=some (.tbl ps)-> ∃more,H' b=some (.tbl (ps++more)))
  (ns: ∀m,s.heap.Ns X.env.locals m->h'.Ns X.env.locals m) (hok:HOk X.prog X.w H' h') (hg:AllBare g') :
  Inv X pins σ H' {s with heap:=h',gens:=g',drawn:=d',toks:=t'}:=by
 have neL: ∀b o,X.s₀.heap.get? b=some o->b≠X.env.locals:=λb o e=>ne_of_lt (lt_of_lt_of_le (lt_size e) I.ok.above)
 have neC: ∀b o,X.s₀.heap.get? b=some o->b ∉ X.ex->b ∉ ch:=λb o e hx hb=>by
  rcases(hch b hb).1 with z|z
  ·exact hx z
  ·exact absurd (lt_of_lt_of_le (lt_size e) z) (lt_irrefl _)
 have cellK: ∀x c,X.env.cells.lookup x=some c-> ∀v,s.heap.IsCell c v->h'.IsCell c v:=λx c e v ⟨o,ho,hd⟩=>by
  have nch:c ∉ ch:=λz=>(hch c z).2.2.1 x c e rfl
  by_cases hc:c∈X.fs
  ·obtain⟨sl,q⟩:=slot c o (I.cne x c e) hc nch ho (I.freeC x c e);exact⟨_,q,hd⟩
  ·exact⟨o,keep c o (I.cne x c e) hc nch ho (I.freeC x c e),hd⟩
 refine⟨I.ok,I.os,hg,⟨λb o e n hb hx=> ?_,λb o e n hb hx=> ?_,λb o e n hx=> ?_,λb o e hx=> ?_,λb xs e=>tups b xs (I.base.tups b xs e),λb o xs e=>frzs b o xs (I.base.frzs b o xs e),λb ps e=> ?_⟩,?_,λx c e=> ?_,?_,λx c e=> ?_,λp hp=> ?_,hok,I.len⟩
 ·exact keep b o (neL b o e) hb (neC b o e hx) (I.base.keep b o e n hb hx) (I.base.free b o e n hx)
 ·obtain⟨sl,e1⟩:=I.base.slot b o e n hb hx;obtain⟨sl',e2⟩:=slot b _ (neL b o e) hb (neC b o e hx) e1 (I.base.free b o e n hx);exact⟨sl',e2⟩
 ·obtain⟨o',e1⟩:=I.base.there b o e hx;exact free b o' (neC b o e hx) e1 (I.base.free b o e n hx)
 ·obtain⟨o',e1⟩:=I.base.there b o e hx;exact there b o' (neC b o e hx) e1
 ·obtain⟨m1,e1⟩:=I.base.tbls b ps e;obtain⟨m2,e2⟩:=tbls b _ e1;exact⟨m1++m2,by rw[e2,Array.append_assoc]⟩
 ·obtain⟨m,hn,hl⟩:=I.loc;refine⟨m,ns m hn,λi x v e1 e2 e3=> ?_⟩
  obtain⟨u,r,l⟩:=hl i x v e1 e2 e3;refine⟨u,r,?_⟩;rcases l with l| ⟨k,c,e,z⟩
  ·exact .inl l
  ·exact .inr ⟨k,c,e,cellK x c e _ z⟩
 ·obtain⟨v,z⟩:=I.cell x c e;exact⟨v,cellK x c e v z⟩
 ·obtain⟨m,⟨o,_,_,ho,_⟩,_⟩:=I.loc;exact free _ o (λz=>(hch _ z).2.1 rfl) ho I.free
 ·obtain⟨v,o,ho,hd⟩:=I.cell x c e;exact free c o (λz=>(hch c z).2.2.1 x c e rfl) ho (I.freeC x c e)
 ·obtain⟨e,n,ne,nf,d⟩:=I.pin p hp;have nch:p.1 ∉ ch:=λz=>(hch p.1 z).2.2.2 p hp rfl
  exact⟨keep p.1 p.2 ne nf nch e n,free p.1 p.2 nch e n,ne,nf,d⟩
theorem Inv.un {t':Nat}(I:Inv X pins σ H s)(u:Un X.fs [] H H' s.heap h')(hok:HOk X.prog X.w H' h'):Inv X pins σ H' {s with heap:=h',toks:=t'}:=by
 obtain⟨m,⟨o,es,ep,ho,r⟩,_⟩:=id I.loc;obtain⟨sl,hL⟩:=u.any ho I.free (by simp)
 exact I.step (g':=s.gens) (d':=s.drawn) (ch:=[]) (λ_ z=>nomatch z) (λb o _ hb _ e n=>u.keep b o e n hb (by simp)) (λb o _ hb _ e n=>u.slot b o e n hb (by simp)) (λb o _ e n=>u.free b o e n (by simp)) (λb o _ e=>u.there b o e (by simp)) u.tups u.frzs u.tbls (λm' hm=>by
  obtain⟨o',es',ep',ho',r'⟩:=hm;rw[ho]at ho';cases ho';exact⟨_,es',ep',hL,r'⟩) hok I.bare
theorem Inv.call {g':Array GenState}{t':Nat}{d':Drawn}{ch:List Addr}(I:Inv X pins σ H s)(u:Un (frs X.stack) ch H H' s.heap h')(hok:HOk X.prog X.w H' h')(hg:AllBare g')
  (hch: ∀b∈ch,(b∈X.ex\/X.s₀.heap.objs.size<=b)/\b≠X.env.locals/\(∀x c,X.env.cells.lookup x=some c->c≠b)/\ ∀p∈X.pn++pins,p.1≠b) :
  Inv X pins σ H' {s with heap:=h',gens:=g',drawn:=d',toks:=t'}:=by
 obtain⟨m,⟨o,es,ep,ho,r⟩,_⟩:=id I.loc;obtain⟨sl,hL⟩:=u.any ho I.free λz=>(hch _ z).2.1 rfl
 exact I.step (ch:=ch) hch (λb o hL hb hc e n=>u.keep b o e n (λz=>(List.mem_cons.mp (I.stkSub b z)).elim hL hb) hc) (λb o _ _ hc e n=>u.any e n hc) (λb o hc e n=>u.free b o e n hc) (λb o hc e=>u.there b o e hc) u.tups u.frzs u.tbls (λm' hm=>by
  obtain⟨o',es',ep',ho',r'⟩:=hm;rw[ho]at ho';cases ho';exact⟨_,es',ep',hL,r'⟩) hok hg
theorem Inv.turned {t':Nat}{it:Addr}(I:Inv X pins σ H s)(k: ∀b o,b≠it->s.heap.get? b=some o->h'.get? b=some o)(hn:H it=none)(hL:it≠X.env.locals)
  (h1:it∈X.ex\/X.s₀.heap.objs.size<=it) (h2: ∀x c,X.env.cells.lookup x=some c->c≠it) (h3: ∀p∈X.pn++pins,p.1≠it):Inv X pins σ H {s with heap:=h',toks:=t'}:=by
 have nit: ∀b u,H b=some u->b≠it:=λb u e z=>by rw[z,hn]at e;cases e
 refine I.step (g':=s.gens) (d':=s.drawn) (ch:=[it]) (λb hb=> ?_) (λb o _ _ hc e _=>k b o (λz=>hc (by simp[z])) e) (λb o _ _ hc e _=>⟨o.slots,k b o (λz=>hc (by simp[z])) e⟩) (λ_ _ _ _ n=>n)
  (λb o hc e=>⟨o,k b o (λz=>hc (by simp[z])) e⟩) (λ_ _ e=>e) (λ_ _ _ e=>e) (λb ps e=>⟨#[],by rw[e];simp⟩) (λm hm=> ?_) (λb u e=> ?_) I.bare
 ·have e:b=it:=by simpa using hb
  subst e;exact⟨h1,hL,h2,h3⟩
 ·obtain⟨o,es,ep,ho,r⟩:=hm;exact⟨o,es,ep,k _ o (Ne.symm hL) ho,r⟩
 ·refine(I.hok b u e).stay (λc v hc q=>k c v ?_ q) (λ_ q=>q) λ_ _ q=>q
  rcases hc with z|z
  ·rw[z];exact nit b u e
  ·exact nit c _ z
theorem Inv.tok (I:Inv X pins σ H s)(t:Nat):Inv X pins σ H {s with toks:=t}:=I.un (h':=s.heap) (t':=t) Un.refl I.hok
theorem Inv.kept {t':Nat}(I:Inv X pins σ H s)(k: ∀b u,s.heap.get? b=some u->h'.get? b=some u):Inv X pins σ H {s with heap:=h',toks:=t'}:=I.un (Un.kept k) (I.hok.kept k)
theorem Inv.laid {a:Addr}{o:HO}{t':Nat}(I:Inv X pins σ H s)(k: ∀b u,s.heap.get? b=some u->h'.get? b=some u)(hp:s.heap.objs.size<=a)(new:kK X.prog X.w (upd H a o) h' a o) :
  Inv X pins σ (upd H a o) {s with heap:=h',toks:=t'}:=I.un (Un.laid k hp (I.hok.fresh hp)) (I.hok.laid k hp new)
theorem Inv.write {x e:Addr}{o:HO}{t':Nat}(I:Inv X pins σ H s)(mu:Mut (H x))(he:e=x\/H e=some (.own x))(k: ∀b u,b≠e->s.heap.get? b=some u->h'.get? b=some u)(heo: ∃u,h'.get? e=some u)
  (new:kK X.prog X.w (upd H x o) h' x o):Inv X pins σ (upd H x o) {s with heap:=h',toks:=t'}:=I.un (Un.write mu he k heo) (I.hok.write mu he k heo new)
theorem Inv.pins_of {pins':List (Addr×Obj)}(I:Inv X pins σ H s)(h: ∀p∈pins',s.heap.get? p.1=some p.2/\H p.1=none/\p.1≠X.env.locals/\p.1 ∉ X.fs/\ ∀v,p.2.data≠ .cell v):Inv X pins' σ H s:=
 ⟨I.ok,I.os,I.bare,I.base,I.loc,I.cell,I.free,I.freeC,λp hp=>(List.mem_append.mp hp).elim (λz=>I.pin p (List.mem_append_left _ z)) (h p),I.hok,I.len⟩
theorem vT {N:List Str}(hN:N.Nodup){i j:Nat}{x:Str}(a:N[i]? =some x)(b:N[j]? =some x):i=j:=by
 obtain⟨h1,e1⟩:=List.getElem?_eq_some_iff.mp a;obtain⟨h2,e2⟩:=List.getElem?_eq_some_iff.mp b;exact(List.getElem_inj hN).mp (e1.trans e2.symm)
theorem aK2 {M:Model}{A:Around}{E:Value->Shared->Prop}{i:Nat}{x:Str}{v:V}{u:Value}{Q:Unit->Shared->Prop}(I:Inv X pins σ H s)(hN:X.N.Nodup)(hi:X.N[i]? =some x)(hx:Loc X.env.scope x)(r:RelV v u)
  (h: ∀s',Inv X pins (σ.set i (some v)) H s'->(∃a,SameBut a s.heap s'.heap/\(a=X.env.locals\/X.env.cells.lookup x=some a))->Q () s') (hf:X.fn x=true\/X.env.scope.names.lookup x=some .local:=by first|exact .inl rfl|exact .inr rfl|assumption):wpAny M A (storeName X.env x u) Q E s:=by
 obtain⟨m,hn,hl⟩:=id I.loc;have hcls:(X.env.scope.kind== .class||(X.env.scope.kind== .module&&X.env.locals != X.env.globals))=false:=by rw[I.ok.kind];rfl
 have hiσ:i<σ.length:=by rw[I.len];exact(List.getElem?_eq_some_iff.mp hi).1
 have cne:=I.cne;have tracked: ∀{a:Addr} {h':Heap},(∃o,s.heap.get? a=some o/\H a=none)->SameBut a s.heap h'->HOk X.prog X.w H h':=λ{a h'} ha hs b ob e=>by
  obtain⟨_,_,hfree⟩:=ha;refine(I.hok b ob e).stay (λc w' hc q=>(hs.2 c ?_).trans q) (λ_ q=>q) λ_ _ q=>q
  rintro rfl;rcases hc with rfl|hc
  ·rw[hfree]at e;cases e
  ·rw[hfree]at hc;cases hc
 rcases hx with hk|hk
 ·refine wpAny_storeName_local hk hn (λh' hn' hs=> ?_) hcls
  obtain⟨oL,_,_,hoL,_⟩:=id hn;refine h _ ⟨I.ok,I.os,I.bare,⟨λb o e n hb hx=> ?_,λb o e n hb hx=> ?_,I.base.free,λb o e hx=> ?_,I.base.tups,I.base.frzs,I.base.tbls⟩,⟨_,hn',λj y v' e1 e2 e3=> ?_⟩,λy c e=> ?_,I.free,I.freeC,λp hp=> ?_,tracked ⟨oL,hoL,I.free⟩ hs,by simpa using I.len⟩ ⟨_,hs,.inl rfl⟩
  ·exact(hs.2 b (ne_of_lt (lt_of_lt_of_le (lt_size e) I.ok.above))).trans (I.base.keep b o e n hb hx)
  ·obtain⟨sl,e1⟩:=I.base.slot b o e n hb hx;exact⟨sl,(hs.2 b (ne_of_lt (lt_of_lt_of_le (lt_size e) I.ok.above))).trans e1⟩
  ·obtain⟨o',e1⟩:=I.base.there b o e hx;exact⟨o',(hs.2 b (ne_of_lt (lt_of_lt_of_le (lt_size e) I.ok.above))).trans e1⟩
  ·by_cases hj:j=i
   ·subst hj;rw[hi]at e1;cases e1;rw[getElem?_set_self hiσ]at e2;cases e2;exact⟨u,r,.inl ⟨hk,by simp⟩⟩
   ·rw[getElem?_set_ne (Ne.symm hj)]at e2;obtain⟨u',r',q⟩:=hl j y v' e1 e2 e3;refine⟨u',r',?_⟩;rcases q with⟨k,e⟩| ⟨k,c,e,z⟩
    ·refine .inl ⟨k,?_⟩
     have:y≠x:=λe=>hj (vT hN e1 (e▸hi))
     simp[this,e]
    ·exact .inr ⟨k,c,e,z.sameBut hs (cne y c e)⟩
  ·obtain⟨w',z⟩:=I.cell y c e;exact⟨w',z.sameBut hs (cne y c e)⟩
  ·obtain⟨e,n,ne,nf,d⟩:=I.pin p hp;exact⟨(hs.2 p.1 ne).trans e,n,ne,nf,d⟩
 ·have hfn:X.fn x=true:=by
   rcases hf with z|z
   ·exact z
   ·rw[z]at hk;cases hk
  obtain⟨c,hc⟩:=I.ok.has x (.inl hk);obtain⟨w',z⟩:=I.cell x c hc;refine wpAny_storeName_cell I.ok.kind hk hc z (λh' hc' hs=> ?_)
  obtain⟨oc,hoc,hocd⟩:=id z;refine h {s with heap:=h'} ⟨I.ok,I.os,I.bare,⟨λb o e n hb hx=> ?_,λb o e n hb hx=> ?_,I.base.free,λb o e hx=> ?_,I.base.tups,I.base.frzs,I.base.tbls⟩,⟨m,hn.sameBut hs (Ne.symm (cne x c hc)),λj y v' e1 e2 e3=> ?_⟩,λy c' e=> ?_,I.free,I.freeC,λp hp=> ?_,tracked ⟨oc,hoc,I.freeC x c hc⟩ hs,by simpa using I.len⟩ ⟨c,hs,.inr hc⟩
  ·exact(hs.2 b (ne_of_lt (lt_of_lt_of_le (lt_size e) (I.ok.cab x c hfn hc)))).trans (I.base.keep b o e n hb hx)
  ·obtain⟨sl,e1⟩:=I.base.slot b o e n hb hx;exact⟨sl,(hs.2 b (ne_of_lt (lt_of_lt_of_le (lt_size e) (I.ok.cab x c hfn hc)))).trans e1⟩
  ·obtain⟨o',e1⟩:=I.base.there b o e hx;exact⟨o',(hs.2 b (ne_of_lt (lt_of_lt_of_le (lt_size e) (I.ok.cab x c hfn hc)))).trans e1⟩
  ·by_cases hj:j=i
   ·subst hj;rw[hi]at e1;cases e1;rw[getElem?_set_self hiσ]at e2;cases e2;exact⟨u,r,.inr ⟨.inl hk,c,hc,hc'⟩⟩
   ·rw[getElem?_set_ne (Ne.symm hj)]at e2;obtain⟨u',r',q⟩:=hl j y v' e1 e2 e3;refine⟨u',r',?_⟩;rcases q with q| ⟨k,c',e,z'⟩
    ·exact .inl q
    ·refine .inr ⟨k,c',e,z'.sameBut hs ?_⟩
     rintro rfl;exact hj (vT hN e1 (I.ok.inj _ _ _ e hc▸hi))
  ·by_cases hcc:c'=c
   ·subst hcc;exact⟨_,hc'⟩
   ·obtain⟨w2,z2⟩:=I.cell y c' e;exact⟨w2,z2.sameBut hs hcc⟩
  ·obtain⟨e,n,ne,nf,d⟩:=I.pin p hp;refine⟨(hs.2 p.1 ?_).trans e,n,ne,nf,d⟩;intro q;rw[q,hoc]at e;have q':oc=p.2:=Option.some.inj e;exact d w' (by rw[<-q'];exact hocd)
theorem lP {M:Model}{A:Around}{E:Value->Shared->Prop}{i:Nat}{x:Str}{v:V}{u:Value}{Q:Unit->Shared->Prop}(I:Inv X pins σ H s)(hN:X.N.Nodup)(hi:X.N[i]? =some x)(hx:Loc X.env.scope x)(r:RelV v u)
  (h: ∀s',Inv X pins (σ.set i (some v)) H s'->Q () s') (hf:X.fn x=true\/X.env.scope.names.lookup x=some .local:=by first|exact .inl rfl|exact .inr rfl|assumption):wpAny M A (storeName X.env x u) Q E s:=
 aK2 I hN hi hx r (λs' I' _=>h s' I') hf
theorem Inv.call' {s':Shared}{ch:List Addr}(I:Inv X pins σ H s)(ho:s'.os=s.os)(u:Un (frs X.stack) ch H H' s.heap s'.heap)(hok:HOk X.prog X.w H' s'.heap)(hg:AllBare s'.gens)
  (hch: ∀b∈ch,(b∈X.ex\/X.s₀.heap.objs.size<=b)/\b≠X.env.locals/\(∀x c,X.env.cells.lookup x=some c->c≠b)/\ ∀p∈X.pn++pins,p.1≠b):Inv X pins σ H' s':=by
 obtain⟨h',g',d',t',o'⟩:=s';have e:o'=s.os:=ho;subst e;exact I.call (g':=g') (t':=t') (d':=d') u hok hg hch
end
abbrev XK:=Value->Option Addr->Hp->Prop
abbrev St:=List (Option V)
abbrev VK:=V->Hp->Prop
abbrev TE:=St->Hp->VK->Prop
abbrev TT:=St->Hp->(Bool->Hp->Prop)->Prop
abbrev TA:=St->Hp->(List V->Hp->Prop)->Prop
structure rF where
 nx:St->Hp->Prop
 rt:VK
 bk:St->Hp->Prop:=λ_ _=>False
 ct:St->Hp->Prop:=λ_ _=>False
abbrev TS:=rF->St->Hp->Prop
def EP (X:Cx)(pins:List (Addr×Obj))(σ:St)(Q:VK)(u:Value)(s':Shared):Prop:= ∃v H',Inv X pins σ H' s'/\RelV v u/\Q v H'
def TP (X:Cx)(pins:List (Addr×Obj))(σ:St)(Q:Bool->Hp->Prop)(b:Bool)(s':Shared):Prop:= ∃H',Inv X pins σ H' s'/\Q b H'
def AP (X:Cx)(pins:List (Addr×Obj))(σ:St)(Q:List V->Hp->Prop)(us:List Value)(s':Shared):Prop:= ∃vs H',Inv X pins σ H' s'/\aZ vs us/\Q vs H'
def SP (X:Cx)(pins:List (Addr×Obj))(D:rF)(f:Flow)(s':Shared):Prop:=
 match f with
 | .next=> ∃σ' H',Inv X pins σ' H' s'/\D.nx σ' H'
 | .brk=> ∃σ' H',Inv X pins σ' H' s'/\D.bk σ' H'
 | .cont=> ∃σ' H',Inv X pins σ' H' s'/\D.ct σ' H'
 | .ret u=> ∃v σ' H',Inv X pins σ' H' s'/\RelV v u/\D.rt v H'
def PE (X:Cx)(e:Expr)(t:TE):Prop:=
 ∀(pins:List (Addr×Obj)) (s:Shared) (σ:St) (H:Hp) (Q:VK),Inv X pins σ H s->t σ H Q->wpAny (model X.prog X.w) X.A (eval e X.env) (EP X pins σ Q) X.xe s
def PT (X:Cx)(e:Expr)(t:TT):Prop:=
 ∀(pins:List (Addr×Obj)) (s:Shared) (σ:St) (H:Hp) (Q:Bool->Hp->Prop),Inv X pins σ H s->t σ H Q->wpAny (model X.prog X.w) X.A (isTrue e X.env (eval e X.env)) (TP X pins σ Q) X.xe s
def PW (X:Cx)(e:Expr)(t:TT):Prop:=
 ∀(whole:Sem Value) (pins:List (Addr×Obj)) (s:Shared) (σ:St) (H:Hp) (Q:Bool->Hp->Prop),Inv X pins σ H s->t σ H Q->wpAny (model X.prog X.w) X.A (isTrue e X.env whole) (TP X pins σ Q) X.xe s
theorem PW.pt {X:Cx}{e:Expr}{t:TT}(h:PW X e t):PT X e t:=h _
def PA (X:Cx)(es:List Expr)(t:TA):Prop:=
 ∀(pos:Pos) (pins:List (Addr×Obj)) (s:Shared) (σ:St) (H:Hp) (Q:List V->Hp->Prop),Inv X pins σ H s->t σ H Q->wpAny (model X.prog X.w) X.A (spliced (backTo pos (starEach es X.env))) (AP X pins σ Q) X.xe s
def PS (X:Cx)(st:Stmt)(t:TS):Prop:=
 ∀(pins:List (Addr×Obj)) (s:Shared) (σ:St) (H:Hp) (D:rF),Inv X pins σ H s->t D σ H->wpAny (model X.prog X.w) X.A (exec st X.env) (SP X pins D) X.xe s
def PSs (X:Cx)(st:List Stmt)(t:TS):Prop:=
 ∀(pins:List (Addr×Obj)) (s:Shared) (σ:St) (H:Hp) (D:rF),Inv X pins σ H s->t D σ H->wpAny (model X.prog X.w) X.A (execs st X.env) (SP X pins D) X.xe s
theorem thn {α:Type}{t:Sem α}{Q Q':α->Shared->Prop}{M:Model}{A:Around}{E:Value->Shared->Prop}{s:Shared}(h:wpAny M A t Q E s)(hQ: ∀a s,Q a s->Q' a s):wpAny M A t Q' E s:=wpAny_mono h hQ λ_ _ x=>x
end L2
namespace L2
open PySem PySem.Spec PyProof.Rows
section
variable {X:Cx}
def vU (i:Nat):TE:=λσ H Q=> ∃v,σ[i]? =some (some v)/\Q v H
def tC (v:V):TE:=λ_ H Q=>Q v H
theorem pe_var {i:Nat}{x:Str}{pos:Pos}(hN:X.N[i]? =some x)(hv:Vis X.env.scope x)(hd:(x==("__debug__":Str))=false:=by decide)(hcd:(x==("__classdict__":Str))=false:=by decide):PE X (.Name x pos) (vU i):=by
 intro pins s σ H Q I h;obtain⟨v,e,h⟩:=h;obtain⟨m,hn,hl⟩:=I.loc;obtain⟨u,r,l⟩:=hl i x v hN e hv;have fin:EP X pins σ Q u s:=⟨v,H,I,r,h⟩;rcases l with⟨hk,hm⟩| ⟨hk,c,hc,hcell⟩
 ·exact wpAny_Name (wpAny_loadName_local I.ok.kind hk hn hm fin) hd
 ·rcases hk with hk|hk
  ·exact wpAny_Name (wpAny_loadName_cell I.ok.kind hk hc hcell fin) hd
  ·exact wpAny_Name (wpAny_loadName_free I.ok.kind hk hc hcell fin hcd) hd
theorem pe_int {i j pos}:PE X (.Constant (.int i) j pos) (tC (.int i)):=λ_ _ _ H _ I h=>wpAny_Constant_int ⟨.int i,H,I.tok _,⟨_,rfl⟩,h⟩
theorem pe_bl {b j pos}:PE X (.Constant (.bool b) j pos) (tC (.bl b)):=λ_ _ _ H _ I h=>Constant_bool ⟨.bl b,H,I,rfl,h⟩
theorem pe_non {j pos}:PE X (.Constant .none j pos) (tC .non):=λ_ _ _ H _ I h=>Constant_none ⟨.non,H,I,rfl,h⟩
theorem pe_str {x j pos}:PE X (.Constant (.str x) j pos) (tC (.str x)):=λ_ _ _ H _ I h=>Calls.Constant_str ⟨.str x,H,I.tok _,⟨_,rfl⟩,h⟩
def Gl (X:Cx)(x:Str):Prop:=X.env.kindOf x=some .globalImplicit
theorem qC {E:Value->Shared->Prop}{pins:List (Addr×Obj)}{s:Shared}{σ:St}{H:Hp}{x:Str}{u:Value}{pos:Pos}{Q:Value->Shared->Prop}(I:Inv X pins σ H s)(hg:Gl X x)(hm:X.mg x=some u)(h:Q u s)
  (hd:(x==("__debug__":Str))=false:=by decide):wpAny (model X.prog X.w) X.A (eval (.Name x pos) X.env) Q E s:=
 Calls.Name_function_global I.ok.kind hg (Calls.loadGlobal_global (by rw[I.ok.glob];exact I.mod.glob.keeps I.bk) hm h) hd
theorem zI {E:Value->Shared->Prop}{pins:List (Addr×Obj)}{s:Shared}{σ:St}{H:Hp}{x:Str}{u:Value}{pos:Pos}{Q:Value->Shared->Prop}(I:Inv X pins σ H s)(hg:Gl X x)(hm:X.mg x=none)(hv:bootBuiltins x=some u)(h:Q u s)
  (hn:x≠"__name__":=by decide) (hd:(x==("__debug__":Str))=false:=by decide):wpAny (model X.prog X.w) X.A (eval (.Name x pos) X.env) Q E s:=by
 obtain⟨mb,h1,h2⟩:=I.mod.blt;exact Calls.Name_function_global I.ok.kind hg (Calls.loadGlobal_builtin (by rw[I.ok.glob];exact I.mod.glob.keeps I.bk) hm (by rw[I.ok.blt];exact h1.keeps I.bk) ((h2 x hn).trans hv) h) hd
theorem zJ {x:Str}{v:V}{u:Value}{pos:Pos}(hg:Gl X x)(hm:X.mg x=some u)(r:RelV v u)(hd:(x==("__debug__":Str))=false:=by decide):PE X (.Name x pos) (tC v):=
 λ_ _ _ H _ I h=>qC I hg hm ⟨v,H,I,r,h⟩ hd
theorem aZ4 {x:Str}{v:V}{u:Value}{pos:Pos}(hg:Gl X x)(hm:X.mg x=none)(hv:bootBuiltins x=some u)(r:RelV v u)(hn:x≠"__name__":=by decide)(hd:(x==("__debug__":Str))=false:=by decide):PE X (.Name x pos) (tC v):=
 λ_ _ _ H _ I h=>zI I hg hm hv ⟨v,H,I,r,h⟩ hn hd
variable {a b:Expr}{ta tb:TE}{pos:Pos}
def PC (X:Cx)(op:CmpOp)(a b:Expr)(t:TE):Prop:=
 ∀(pins:List (Addr×Obj)) (s:Shared) (σ:St) (H:Hp) (Q:VK),Inv X pins σ H s->t σ H Q->
  wpAny (model X.prog X.w) X.A (eval a X.env) (λv s₁=>wpAny (model X.prog X.w) X.A (eval b X.env) (λu s₂=>wpAny (model X.prog X.w) X.A (compareOp op v u) (EP X pins σ Q) X.xe s₂) X.xe s₁) X.xe s
theorem a52 (b:Expr){op:CmpOp}(h:op≠ .In)(h2:op≠ .NotIn):behindInMarks op b=false:=by
 have e1:(op==CmpOp.In)=false:=by cases op<;>first|rfl|exact absurd rfl h
 have e2:(op==CmpOp.NotIn)=false:=by cases op<;>first|rfl|exact absurd rfl h2
 cases b<;>simp[behindInMarks,e1,e2]
def tIsN (ta:TE):TE:=λσ H Q=>ta σ H λx H1=>Q (.bl (decide (x= .non))) H1
def b77 (ta:TE):TE:=λσ H Q=>ta σ H λx H1=>Q (.bl (!decide (x= .non))) H1
theorem RelV.none_iff {x:V}{v:Value}(r:RelV x v):(v==Value.none)=decide (x= .non):=by
 cases x with
 | non=>cases r;rfl
 | bl _=>cases r;rfl
 | int _=>obtain⟨t,rfl⟩:=r;rfl
 | str _=>obtain⟨t,rfl⟩:=r;rfl
 | byt _=>obtain⟨t,rfl⟩:=r;rfl
 | flt _=>obtain⟨t,rfl⟩:=r;rfl
 | ref _=>cases r;rfl
 | ty _=>cases r;rfl
theorem aO6 {j pos'}(ha:PE X a ta):PC X .Is a (.Constant .none j pos') (tIsN ta):=by
 intro pins s σ H Q I h;refine thn (ha pins s σ H _ I h) λv s1 ⟨x,H1,I1,r1,q1⟩=> ?_
 exact Constant_none (is_none_gen ⟨.bl _,H1,I1,by rw[r1.none_iff];rfl,q1⟩)
theorem aZ5 {j pos'}(ha:PE X a ta):PC X .IsNot a (.Constant .none j pos') (b77 ta):=by
 intro pins s σ H Q I h;refine thn (ha pins s σ H _ I h) λv s1 ⟨x,H1,I1,r1,q1⟩=> ?_
 exact Constant_none (isnot_none_gen ⟨.bl _,H1,I1,by rw[r1.none_iff];rfl,q1⟩)
def tB (t:TE):TT:=λσ H Q=>t σ H λx H1=> ∃c,x= .bl c/\Q c H1
theorem pe_cmp {op:CmpOp}{t:TE}(h:PC X op a b t)(h1:behindInMarks op b=false:=by first|exact a52 _ (by decide) (by decide)|rfl):PE X (.Compare a [op] [b] pos) t:=λpins s σ H Q I hw=>wpAny_Compare1 (h pins s σ H Q I hw) h1
theorem aO7 {op:CmpOp}{t:TE}(h:PC X op a b t)(h1:behindInMarks op b=false:=by first|exact a52 _ (by decide) (by decide)|rfl):PT X (.Compare a [op] [b] pos) (tB t):=by
 intro pins s σ H Q I hw;refine wpAny_isTrue_Compare1 (thn (h pins s σ H _ I hw) λv s1 h1=>thn h1 λu s2 h2=>thn h2 λc s3 ⟨x,H1,I1,r1,q1⟩=> ?_) h1
 obtain⟨d,rfl,q⟩:=q1;cases r1;exact wpAny_truthy_bool ⟨H1,I1,q⟩
theorem pt_val {e:Expr}{t:TE}(h:PE X e t)(he: ∀whole,isTrue e X.env whole=(do let v<-whole;standAt e.pos;holding [v] (truthy v)):=by intro _;rfl):PT X e (tB t):=by
 intro pins s σ H Q I hw;refine isTrue_plain (thn (h pins s σ H _ I hw) λv s1 ⟨x,H1,I1,r1,q1⟩=> ?_) (he _)
 obtain⟨d,rfl,q⟩:=q1;cases r1;exact wpAny_truthy_bool ⟨H1,I1,q⟩
variable {tA tB':TT}{fY:List Expr}
def tAnd (t u:TT):TT:=λσ H Q=>t σ H λc H1=>if c=true then u σ H1 Q else Q false H1
def tOr (t u:TT):TT:=λσ H Q=>t σ H λc H1=>if c=true then Q true H1 else u σ H1 Q
def tNot (t:TT):TT:=λσ H Q=>t σ H λc H1=>Q (!c) H1
theorem aZ6 (ha:PT X a tA):PW X (.BoolOp .And [a] pos) tA:=by
 intro wh pins s σ H Q I h;refine isTrue_and (thn (ha pins s σ H Q I h) λc s1 e=> ?_)
 cases c with
 | true=>exact isTrue_and_nil e
 | false=>exact e
theorem pw_or1 (ha:PT X a tA):PW X (.BoolOp .Or [a] pos) tA:=by
 intro wh pins s σ H Q I h;refine isTrue_or (thn (ha pins s σ H Q I h) λc s1 e=> ?_)
 cases c with
 | false=>exact isTrue_or_nil e
 | true=>exact e
theorem pw_and (ha:PT X a tA)(hb:PW X (.BoolOp .And (b::fY) pos) tB'):PW X (.BoolOp .And (a::b::fY) pos) (tAnd tA tB'):=by
 intro wh pins s σ H Q I h;refine isTrue_and (thn (ha pins s σ H _ I h) λc s1 ⟨H1,I1,q1⟩=> ?_)
 cases c with
 | true=>exact hb wh pins s1 σ H1 Q I1 q1
 | false=>exact⟨H1,I1,q1⟩
theorem pw_or (ha:PT X a tA)(hb:PW X (.BoolOp .Or (b::fY) pos) tB'):PW X (.BoolOp .Or (a::b::fY) pos) (tOr tA tB'):=by
 intro wh pins s σ H Q I h;refine isTrue_or (thn (ha pins s σ H _ I h) λc s1 ⟨H1,I1,q1⟩=> ?_)
 cases c with
 | true=>exact⟨H1,I1,q1⟩
 | false=>exact hb wh pins s1 σ H1 Q I1 q1
theorem pt_not (ha:PT X a tA):PT X (.UnaryOp .Not a pos) (tNot tA):=by
 intro pins s σ H Q I h;exact isTrue_not (ha pins s σ H (λc H1=>Q (!c) H1) I h)
def tAndV (ta tb:TE):TE:=λσ H Q=>ta σ H λx H1=> ∃c,x= .bl c/\if c=true then tb σ H1 Q else Q (.bl false) H1
def tOrV (ta tb:TE):TE:=λσ H Q=>ta σ H λx H1=> ∃c,x= .bl c/\if c=true then Q (.bl true) H1 else tb σ H1 Q
def tNotV (ta:TE):TE:=λσ H Q=>ta σ H λx H1=> ∃c,x= .bl c/\Q (.bl (!c)) H1
theorem pe_one {op}{t:TE}(h:PE X a t):PE X (.BoolOp op [a] pos) t:=λpins s σ H Q I hw=>BoolOp_one (h pins s σ H Q I hw)
theorem pe_and (ha:PE X a ta)(hb:PE X (.BoolOp .And (b::fY) pos) tb):PE X (.BoolOp .And (a::b::fY) pos) (tAndV ta tb):=by
 intro pins s σ H Q I h;refine BoolOp_and (thn (ha pins s σ H _ I h) λv s1 ⟨x,H1,I1,r1,q1⟩=> ?_)
 obtain⟨c,rfl,q1⟩:=q1;cases r1;refine wpAny_truthy_bool ?_;cases c with
 | true=>exact hb pins s1 σ H1 Q I1 q1
 | false=>exact⟨.bl false,H1,I1,rfl,q1⟩
theorem pe_or (ha:PE X a ta)(hb:PE X (.BoolOp .Or (b::fY) pos) tb):PE X (.BoolOp .Or (a::b::fY) pos) (tOrV ta tb):=by
 intro pins s σ H Q I h;refine BoolOp_or (thn (ha pins s σ H _ I h) λv s1 ⟨x,H1,I1,r1,q1⟩=> ?_)
 obtain⟨c,rfl,q1⟩:=q1;cases r1;refine wpAny_truthy_bool ?_;cases c with
 | false=>exact hb pins s1 σ H1 Q I1 q1
 | true=>exact⟨.bl true,H1,I1,rfl,q1⟩
theorem pe_not (ha:PE X a ta):PE X (.UnaryOp .Not a pos) (tNotV ta):=by
 intro pins s σ H Q I h;refine UnaryOp_ (thn (ha pins s σ H _ I h) λv s1 ⟨x,H1,I1,r1,q1⟩=> ?_)
 obtain⟨c,rfl,q1⟩:=q1;cases r1;exact not_of (wpAny_truthy_bool ⟨.bl (!c),H1,I1,rfl,q1⟩)
def tIf (t:TT)(ta tb:TE):TE:=λσ H Q=>t σ H λc H1=>if c=true then ta σ H1 Q else tb σ H1 Q
theorem aO8 {c:Expr}(hc:PT X c tA)(ha:PE X a ta)(hb:PE X b tb):PE X (.IfExp c a b pos) (tIf tA ta tb):=by
 intro pins s σ H Q I h;refine wpAny_IfExp (thn (hc pins s σ H _ I h) λd s1 ⟨H1,I1,q1⟩=> ?_)
 cases d with
 | true=>exact ha pins s1 σ H1 Q I1 q1
 | false=>exact hb pins s1 σ H1 Q I1 q1
end
end L2
namespace L2
open PySem PySem.Spec PyProof.Rows
def SqL (K:PySem.W.Frag)(H:Hp)(a:Addr)(xs:List V):Prop:=
 Rd H a (.lst xs)\/
  ∃(o:Obj) (its:Array Value) (n:Nat),K.lookup a=some o/\o.cls= .type "list"/\o.dict=none/\o.data= .seq its n/\its.size<=sizeLine/\aZ xs its.toList
def SqT (K:PySem.W.Frag)(H:Hp)(a:Addr)(xs:List V):Prop:=
 Rd H a (.tup xs)\/
  ∃(o:Obj) (its:Array Value) (n:Nat),K.lookup a=some o/\o.cls= .type "tuple"/\o.data= .seq its n/\its.size<=sizeLine/\aZ xs its.toList
def absV:Value->Option V
 | .none=>some .non
 | .bool b=>some (.bl b)
 | .int i _=>some (.int i)
 | .str x _=>some (.str x)
 | .bytes b _=>some (.byt b)
 | .float b _=>some (.flt b)
 | .ref a=>some (.ref a)
 | .type n=>some (.ty n)
 | _=>none
theorem RelV.abs {x:V}{u:Value}(r:RelV x u):absV u=some x:=by
 cases x with
 | non=>cases r;rfl
 | bl _=>cases r;rfl
 | int _=>obtain⟨t,rfl⟩:=r;rfl
 | str _=>obtain⟨t,rfl⟩:=r;rfl
 | byt _=>obtain⟨t,rfl⟩:=r;rfl
 | flt _=>obtain⟨t,rfl⟩:=r;rfl
 | ref _=>cases r;rfl
 | ty _=>cases r;rfl
theorem RelV.inj {x y:V}{u:Value}(r:RelV x u)(q:RelV y u):x=y:=Option.some.inj (r.abs.symm.trans q.abs)
theorem aZ.inj: ∀{xs ys:List V} {us:List Value},aZ xs us->aZ ys us->xs=ys
 | _,_,_,.nil,.nil=>rfl
 | _,_,_,.cons r t,.cons r' t'=>by rw[r.inj r',aZ.inj t t']
section
variable {X:Cx}{pins:List (Addr×Obj)}{σ:St}{H:Hp}{s:Shared}{a:Addr}{xs ys:List V}
theorem SqL.of {K:PySem.W.Frag}(h:H a=some (.lst xs)):SqL K H a xs:= .inl (.inl h)
theorem SqT.of {K:PySem.W.Frag}(h:H a=some (.tup xs)):SqT K H a xs:= .inl (.inl h)
theorem Inv.list (I:Inv X pins σ H s)(h:SqL X.K H a xs): ∃its:List Value,aZ xs its/\PlainL s.heap a its.toArray/\xs.length<=sizeLine:=by
 rcases h with h| ⟨o,its,n,hk,hc,hd,hs,hz,r⟩
 ·obtain⟨z,its,n,r,e⟩:=h.ok I.hok;exact⟨its,r,⟨_,n,e,rfl,rfl,rfl⟩,z⟩
 ·refine⟨its.toList,r,⟨o,n,I.kIn a o hk,hc,hd,by simpa using hs⟩,?_⟩
  have e:=r.length;simp only[length_toList]at e
  lia
theorem Inv.tuple (I:Inv X pins σ H s)(h:SqT X.K H a xs): ∃its:List Value,aZ xs its/\IsTup s.heap a its.toArray/\xs.length<=sizeLine:=by
 rcases h with h| ⟨o,its,n,hk,hc,hs,hz,r⟩
 ·obtain⟨z,its,r,p⟩:=h.ok I.hok;exact⟨its,r,p,z⟩
 ·refine⟨its.toList,r,⟨o,I.kIn a o hk,hc,n,by simpa using hs⟩,?_⟩
  have e:=r.length;simp only[length_toList]at e
  lia
theorem Inv.list_inj (I:Inv X pins σ H s)(h:SqL X.K H a xs)(h':SqL X.K H a ys):xs=ys:=by
 obtain⟨its,r,⟨o,n,e,_,_,d⟩,_⟩:=I.list h;obtain⟨its',r',⟨o',n',e',_,_,d'⟩,_⟩:=I.list h';rw[e]at e';cases e';rw[d]at d'
 injection d' with d1 _
 have:its=its':=by simpa using congrArg toList d1
 subst this;exact r.inj r'
theorem Inv.tuple_inj (I:Inv X pins σ H s)(h:SqT X.K H a xs)(h':SqT X.K H a ys):xs=ys:=by
 obtain⟨its,r,⟨o,e,_,n,d⟩,_⟩:=I.tuple h;obtain⟨its',r',⟨o',e',_,n',d'⟩,_⟩:=I.tuple h';rw[e]at e';cases e';rw[d]at d'
 injection d' with d1 _
 have:its=its':=by simpa using congrArg toList d1
 subst this;exact r.inj r'
end
abbrev Cx.wish (X:Cx)(E:Value->Shared->Prop):Cx:={X with xe:=E}
abbrev Cx.nox (X:Cx):Cx:=X.wish λ_ _=>False
theorem Cx.Ok.wish {X:Cx}(ok:X.Ok)(E:Value->Shared->Prop):(X.wish E).Ok:=
 ⟨ok.mod,ok.kind,ok.glob,ok.blt,ok.above,ok.inj,ok.has,ok.cab,ok.hd,ok.frames,ok.stk,ok.exf,ok.bs,ok.bsz,ok.noex,ok.exfs,ok.funs,ok.frf⟩
theorem Cx.Ok.unwish {X:Cx}{E:Value->Shared->Prop}(ok:(X.wish E).Ok):X.Ok:=
 ⟨ok.mod,ok.kind,ok.glob,ok.blt,ok.above,ok.inj,ok.has,ok.cab,ok.hd,ok.frames,ok.stk,ok.exf,ok.bs,ok.bsz,ok.noex,ok.exfs,ok.funs,ok.frf⟩
section
variable {X:Cx}{pins:List (Addr×Obj)}{σ:St}{H:Hp}{s:Shared}{E:Value->Shared->Prop}
theorem Inv.wish (I:Inv X pins σ H s)(E:Value->Shared->Prop):Inv (X.wish E) pins σ H s:=⟨I.ok.wish E,I.os,I.bare,I.base,I.loc,I.cell,I.free,I.freeC,I.pin,I.hok,I.len⟩
theorem Inv.unwish (I:Inv (X.wish E) pins σ H s):Inv X pins σ H s:=⟨I.ok.unwish,I.os,I.bare,I.base,I.loc,I.cell,I.free,I.freeC,I.pin,I.hok,I.len⟩
theorem SP.unwish {D:rF}{f:Flow}{s':Shared}(h:SP (X.wish E) pins D f s'):SP X pins D f s':=by
 cases f with
 | next=>obtain⟨σ',H',I,q⟩:=h;exact⟨σ',H',I.unwish,q⟩
 | brk=>obtain⟨σ',H',I,q⟩:=h;exact⟨σ',H',I.unwish,q⟩
 | cont=>obtain⟨σ',H',I,q⟩:=h;exact⟨σ',H',I.unwish,q⟩
 | ret u=>obtain⟨v,σ',H',I,r,q⟩:=h;exact⟨v,σ',H',I.unwish,r,q⟩
theorem PE.nox {e:Expr}{t:TE}(h:PE X.nox e t):PE X e t:=λpins s σ H Q I hw=>
 wpAny_mono (h pins s σ H Q (I.wish _) hw) (λ_ _ ⟨v,H',I',r,q⟩=>⟨v,H',I'.unwish,r,q⟩) λ_ _ z=>False.elim z
theorem PT.nox {e:Expr}{t:TT}(h:PT X.nox e t):PT X e t:=λpins s σ H Q I hw=>
 wpAny_mono (h pins s σ H Q (I.wish _) hw) (λ_ _ ⟨H',I',q⟩=>⟨H',I'.unwish,q⟩) λ_ _ z=>False.elim z
theorem PSs.nox {st:List Stmt}{t:TS}(h:PSs X.nox st t):PSs X st t:=λpins s σ H D I hw=>
 wpAny_mono (h pins s σ H D (I.wish _) hw) (λ_ _ q=>q.unwish) λ_ _ z=>False.elim z
end
section
variable {X:Cx}{st:Stmt}{fY:List Stmt}{t u:TS}{e:Expr}{te:TE}{pos:Pos}
def tNext:TS:=λD σ H=>D.nx σ H
def tSeq (t u:TS):TS:=λD σ H=>t {D with nx:=u D} σ H
theorem aZ7:PSs X [] tNext:=λ_ _ σ H _ I h=>wpAny_execs_nil ⟨σ,H,I,h⟩
theorem a53 (h1:PS X st t)(h2:PSs X fY u):PSs X (st::fY) (tSeq t u):=by
 intro pins s σ H D I h;refine wpAny_execs_cons (thn (h1 pins s σ H {D with nx:=u D} I h) λf s1 q=> ?_)
 cases f with
 | next=>
  obtain⟨σ',H',I',q⟩:=q;exact h2 pins s1 σ' H' D I' q
 | ret v=>exact q
 | brk=>exact q
 | cont=>exact q
theorem aF9 (h1:PS X st t):PSs X [st] t:=by
 intro pins s σ H D I h;refine wpAny_execs_cons (thn (h1 pins s σ H D I h) λf s1 q=> ?_)
 cases f with
 | next=>exact wpAny_execs_nil q
 | ret v=>exact q
 | brk=>exact q
 | cont=>exact q
theorem Inv.quiet {pins:List (Addr×Obj)}{σ:St}{H:Hp}{s:Shared}(I:Inv X pins σ H s):interactive X.env=false:=by simp[interactive,I.ok.kind]
def tDrop (te:TE):TS:=λD σ H=>te σ H λ_ H1=>D.nx σ H1
theorem aZ8 (he:PE X e te)(hs:swapsWith e none pos.line X.env=pure false:=by rfl):PS X (.Expr e pos) (tDrop te):=by
 intro pins s σ H D I h;exact wpAny_Expr_any (thn (he pins s σ H _ I h) λv s1 ⟨x,H1,I1,r1,q1⟩=>⟨σ,H1,I1,q1⟩) I.quiet hs
def tRet (te:TE):TS:=λD σ H=>te σ H D.rt
theorem aB0 (he:PE X e te):PS X (.Return (some e) pos) (tRet te):=by
 intro pins s σ H D I h;exact wpAny_Return_some (thn (he pins s σ H _ I h) λv s1 ⟨x,H1,I1,r1,q1⟩=>⟨x,σ,H1,I1,r1,q1⟩)
def tIfS (c:TT)(t u:TS):TS:=λD σ H=>c σ H λb H1=>if b=true then t D σ H1 else u D σ H1
theorem b78 {c:Expr}{a b:List Stmt}{tc:TT}(hc:PT X c tc)(ha:PSs X a t)(hb:PSs X b u):PS X (.If c a b pos) (tIfS tc t u):=by
 intro pins s σ H D I h;refine wpAny_If (thn (hc pins s σ H _ I h) λd s1 ⟨H1,I1,q1⟩=> ?_)
 cases d with
 | true=>exact ha pins s1 σ H1 D I1 q1
 | false=>exact hb pins s1 σ H1 D I1 q1
end
abbrev TG:=V->St->Hp->(St->Hp->Prop)->Prop
abbrev TGs:=List V->St->Hp->(St->Hp->Prop)->Prop
def PG (X:Cx)(target:Expr)(t:TG):Prop:=
 ∀(pins:List (Addr×Obj)) (s:Shared) (σ:St) (H:Hp) (v:V) (u:Value) (Q:St->Hp->Prop),Inv X pins σ H s->RelV v u->t v σ H Q->
  wpAny (model X.prog X.w) X.A (assign target X.env u) (λ_ s'=> ∃σ' H',Inv X pins σ' H' s'/\Q σ' H') X.xe s
def PGs (X:Cx)(ts:List Expr)(t:TGs):Prop:=
 ∀(pins:List (Addr×Obj)) (s:Shared) (σ:St) (H:Hp) (vs:List V) (us:List Value) (Q:St->Hp->Prop),Inv X pins σ H s->aZ vs us->t vs σ H Q->
  wpAny (model X.prog X.w) X.A (assignInOrder ((assignEach ts X.env).map (·.2)) us) (λ_ s'=> ∃σ' H',Inv X pins σ' H' s'/\Q σ' H') X.xe s
abbrev TSet:=V->V->V->Hp->(Hp->Prop)->Prop
section
variable {X:Cx}{pos:Pos}
def qO (i:Nat):TG:=λv σ H Q=>Q (σ.set i (some v)) H
theorem bD {i:Nat}{x:Str}(hN:X.N.Nodup)(hi:X.N[i]? =some x)(hx:Loc X.env.scope x)(hf:X.fn x=true\/X.env.scope.names.lookup x=some .local:=by first|exact .inl rfl|exact .inr rfl|assumption):PG X (.Name x pos) (qO i):=by
 intro pins s σ H v u Q I r h;exact wpAny_assign_Name (lP I hN hi hx r (λs' I'=>⟨_,H,I',h⟩) hf)
def gNil:TGs:=λvs σ H Q=>vs=[]/\Q σ H
def gCons (t:TG)(u:TGs):TGs:=λvs σ H Q=> ∃v r,vs=v::r/\t v σ H λσ' H'=>u r σ' H' Q
theorem aZ9:PGs X [] gNil:=by
 intro pins s σ H vs us Q I r h;obtain⟨e,h⟩:=h;subst e;cases r;exact assignInOrder_nil ⟨σ,H,I,h⟩
theorem aO9 {e:Expr}{es:List Expr}{t:TG}{u:TGs}(h1:PG X e t)(h2:PGs X es u)
  (hs:(assignEach (e::es) X.env).map (·.2)=assign e X.env::(assignEach es X.env).map (·.2):=by rfl):PGs X (e::es) (gCons t u):=by
 intro pins s σ H vs us Q I r h;obtain⟨v,vr,e1,h⟩:=h;subst e1;cases r with
 | cons r rr=>
  rw[hs];refine assignInOrder_cons (thn (h1 pins s σ H _ _ _ I r h) λ_ s1 ⟨σ1,H1,I1,q1⟩=> ?_)
  exact h2 pins s1 σ1 H1 _ _ Q I1 rr q1
def gTup (K:PySem.W.Frag)(n:Nat)(t:TGs):TG:=λv σ H Q=> ∃a xs,v= .ref a/\SqT K H a xs/\xs.length=n/\t xs σ H Q
theorem pg_tup {es:List Expr}{k:Nat}{t:TGs}{n:Nat}(hc:X.calm=true)(h:PGs X es t)
  (hn:(assignEach es X.env).length=n:=by rfl) (hst:(assignEach es X.env).findIdx? (·.1)=none:=by rfl):PG X (.Tuple es k pos) (gTup X.K n t):=by
 intro pins s σ H v u Q I r hw;obtain⟨a,xs,e1,hq,hl,hw⟩:=hw;subst e1;cases r;obtain⟨its,rv,ht,hz⟩:=I.tuple hq;refine assign_Tuple_tuple (I.ok.hd hc) ht (by simp[hn,<-hl,rv.length]) hst λh' hx=> ?_
 have I1:Inv X pins σ H {s with heap:=h'}:=I.kept (t':=s.toks) λb o e=>hx b o (ne_of_lt (lt_size e)) e
 exact h pins _ σ H xs _ Q I1 (by simpa using rv) hw
def gSub (to ti:TE)(t:TSet):TG:=λv σ H Q=>to σ H λo H1=>ti σ H1 λi H2=>t o i v H2 λH3=>Q σ H3
def aP0 (te:TE)(g:TG):TS:=λD σ H=>te σ H λx H1=>g x σ H1 D.nx
theorem ps_asg {tg e:Expr}{te:TE}{g:TG}(he:PE X e te)(hg:PG X tg g)(hs:swapsWithSole [tg] e pos.line X.env=pure false:=by rfl)(hw:swappedStores [tg] e X.env=pure none:=by rfl)
  (h1:(assignEach [tg] X.env).map (·.2)=[assign tg X.env]:=by rfl):PS X (.Assign [tg] e pos) (aP0 te g):=by
 intro pins s σ H D I h;refine wpAny_Assign_stores (thn (he pins s σ H _ I h) λv s1 ⟨x,H1,I1,r1,q1⟩=> ?_) hs hw
 rw[h1];exact thn (hg pins s1 σ H1 x v _ I1 r1 q1) λ_ s2 q=>q
theorem aP1 {i:Nat}{x:Str}{e:Expr}{te:TE}{pos':Pos}(hN:X.N.Nodup)(hi:X.N[i]? =some x)(hx:Loc X.env.scope x)(he:PE X e te)(hs:swapsWith e (some (.Name x pos')) pos.line X.env=pure false:=by rfl)(hf:X.fn x=true\/X.env.scope.names.lookup x=some .local:=by first|exact .inl rfl|exact .inr rfl|assumption) :
  PS X (.Assign [.Name x pos'] e pos) (aP0 te (qO i)):=by
 intro pins s σ H D I h;refine wpAny_Assign_Name (thn (he pins s σ H _ I h) λv s1 ⟨y,H1,I1,r1,q1⟩=> ?_) hs
 exact lP I1 hN hi hx r1 (λs2 I2=>⟨_,H1,I2,q1⟩) hf
end
structure It where
 go:Nat->Hp->Prop
 yld:Nat->Hp->V->Hp->Prop
 stop:Nat->Hp->Prop
def rG (X:Cx)(pins:List (Addr×Obj))(H:Hp)(b:Addr):Prop:=
 H b=none/\b≠X.env.locals/\b ∉ X.fs/\(b∈X.ex\/X.s₀.heap.objs.size<=b)/\(∀x c,X.env.cells.lookup x=some c->c≠b)/\ ∀p∈X.pn++pins,p.1≠b
theorem Inv.fpOk {X:Cx}{pins:List (Addr×Obj)}{σ:St}{H H':Hp}{s:Shared}{b:Addr}(I:Inv X pins σ H s)(hb:s.heap.objs.size<=b)(hn:H' b=none):rG X pins H' b:=by
 refine⟨hn,ne_of_gt (lt_of_lt_of_le I.lt hb),I.nofs hb,.inr (le_trans I.sz hb),λx c e z=> ?_,λp hp z=> ?_⟩
 ·obtain⟨v,q⟩:=I.cell x c e;exact absurd (lt_of_lt_of_le q.lt (by rw[z];exact hb)) (lt_irrefl _)
 ·exact absurd (lt_of_lt_of_le (lt_size (I.pin p hp).1) (by rw[z];exact hb)) (lt_irrefl _)
structure aP2 (P:Program)(w:World)(K:PySem.W.Frag)(tg:Expr)(J:It)(fp:List Addr)(it:Addr)(tn:Nat->Heap->Prop):Prop where
 mem:it∈fp
 obj: ∀i h,tn i h-> ∀b∈fp,∃o,h.get? b=some o/\ ∀v,o.data≠ .cell v
 keep: ∀i h h',tn i h->(∀b∈fp,∀o,h.get? b=some o->h'.get? b=some o)->tn i h'
 item: ∀(X:Cx),X.prog=P->X.w=w->X.K=K->X.calm=true-> ∀(i:Nat) (pins:List (Addr×Obj)) (s:Shared) (σ:St) (H:Hp) (E:Value->Shared->Prop),Inv X pins σ H s->(∀b∈fp,rG X pins H b)->tn i s.heap->J.go i H->
  wpAny (model P w) X.A (pyNext (.ref it)) (λr s1=> ∃u,r=some u/\
   wpAny (model P w) X.A (letOwnedTupleGo tg (.ref it) u) (λ_ s2=> ∃x H',Inv X pins σ H' s2/\RelV x u/\J.yld i H x H'/\tn (i+1) s2.heap/\ ∀b∈fp,H' b=none) E s1) E s
 done: ∀(X:Cx),X.prog=P->X.w=w->X.K=K->X.calm=true-> ∀(i:Nat) (pins:List (Addr×Obj)) (s:Shared) (σ:St) (H:Hp) (E:Value->Shared->Prop),Inv X pins σ H s->(∀b∈fp,rG X pins H b)->tn i s.heap->J.stop i H->
  wpAny (model P w) X.A (pyNext (.ref it)) (λr s1=>r=none/\Inv X pins σ H s1) E s
 self: ∀(A:Around) (i:Nat) (s:Shared) (Q:Value->Shared->Prop) (E:Value->Shared->Prop),tn i s.heap->Q (.ref it) s->wpAny (model P w) A (pyIter (.ref it)) Q E s
abbrev TI:=St->Hp->(It->Hp->Prop)->Prop
def PIE (X:Cx)(pins:List (Addr×Obj))(σ:St)(tg:Expr)(R:It->Hp->Prop)(itv:Value)(s2:Shared):Prop:=
 ∃(it:Addr) (fp:List Addr) (tn:Nat->Heap->Prop) (J:It) (H':Hp),itv= .ref it/\Inv X pins σ H' s2/\aP2 X.prog X.w X.K tg J fp it tn/\tn 0 s2.heap/\(∀b∈fp,rG X pins H' b)/\R J H'
def PI (X:Cx)(tg iter:Expr)(wi:TI):Prop:=
 ∀(pins:List (Addr×Obj)) (s:Shared) (σ:St) (H:Hp) (R:It->Hp->Prop),Inv X pins σ H s->wi σ H R->
  wpAny (model X.prog X.w) X.A (eval iter X.env) (λv s1=>wpAny (model X.prog X.w) X.A (pyIter v) (PIE X pins σ tg R) X.xe s1) X.xe s
theorem aG0 {M:Model}{A:Around}{E:Value->Shared->Prop}{s:Shared}{tg:Expr}{it:Addr}{u:Value}{o:Obj}{n:String}{vs:Array Value}{Q:Unit->Shared->Prop}(ho:s.heap.get? it=some o)(hc:o.cls= .type n)(hd:o.data= .fields vs)
  (hn:["enumerate","zip","dict_itemiterator","dict_reverseitemiterator","odict_iterator","itertools.zip_longest","itertools.pairwise"].contains n=false) (hQ:Q () s):wpAny M A (letOwnedTupleGo tg (.ref it) u) Q E s:=by
 unfold letOwnedTupleGo;cases tg<;>first
  | exact wpAny_pure hQ
  | (cases u<;>first
    | exact wpAny_pure hQ
    | (refine wpAny_bind (wpAny_load ho ?_)
       rw[hc,hd];show wpAny M A (if(["enumerate","zip","dict_itemiterator","dict_reverseitemiterator","odict_iterator","itertools.zip_longest","itertools.pairwise"].contains n&&vs[0]? ==some (rawInt _))=true then _ else _) Q E s;rw[if_neg (by intro h;rw[hn,Bool.false_and]at h;cases h)]
       exact wpAny_pure hQ))
def Itl (K:PySem.W.Frag)(a:Addr):It:=
 ⟨λi H=> ∃xs x,SqL K H a xs/\xs[i]? =some x,λi H x H'=>H'=H/\ ∀xs,SqL K H a xs->xs[i]? =some x,λi H=> ∃xs,SqL K H a xs/\xs.length<=i⟩
def Itt (K:PySem.W.Frag)(a:Addr):It:=
 ⟨λi H=> ∃xs x,SqT K H a xs/\xs[i]? =some x,λi H x H'=>H'=H/\ ∀xs,SqT K H a xs->xs[i]? =some x,λi H=> ∃xs,SqT K H a xs/\xs.length<=i⟩
def Itr (lo:Int)(n:Nat):It:=⟨λi _=>i<n,λi H x H'=>H'=H/\x= .int (lo+i),λi _=>n<=i⟩
theorem aK3 {P:Program}{w:World}{K:PySem.W.Frag}{tg:Expr}(a it:Addr):aP2 P w K tg (Itl K a) [it] it (λi h=>h.IsListIter it a i) where
 mem:=by simp
 obj:=λi h st b hb=>by
  have e:b=it:=by simpa using hb
  subst e;obtain⟨o,e,c,d⟩:=st;exact⟨o,e,λv z=>by rw[d]at z;cases z⟩
 keep:=λi h h' st k=>st.at λo e=>k it (by simp) o e
 item:=by
  intro X hP hw hK hc i pins s σ H E I hf st hg;subst hP hw hK;obtain⟨xs,x,hq,hx⟩:=hg;obtain⟨its,rv,p,hz⟩:=I.list hq;obtain⟨u,hu,ru⟩:=rv.get hx;obtain⟨f0,f1,f2,f3,f4,f5⟩:=hf it (by simp)
  refine wpAny_pyNext_list_item st p.isList (x:=u) (by simpa using hu) λh' st' sb=> ?_
  have I1:Inv X pins σ H {s with heap:=h'}:=I.turned (t':=s.toks) (λb o hb e=>(sb.2 b hb).trans e) f0 f1 f3 f4 f5
  obtain⟨o,e,c,d⟩:=id st';exact⟨u,rfl,aG0 (s:={s with heap:=h'}) e c d (by decide) ⟨x,H,I1,ru,⟨rfl,λys hy=>by rw[I.list_inj hy hq];exact hx⟩,st',λb hb=>(hf b hb).1⟩⟩
 done:=by
  intro X hP hw hK hc i pins s σ H E I hf st hg;subst hP hw hK;obtain⟨xs,hq,hx⟩:=hg;obtain⟨its,rv,p,hz⟩:=I.list hq;obtain⟨f0,f1,f2,f3,f4,f5⟩:=hf it (by simp)
  have hl:=rv.length;exact wpAny_pyNext_list_end (I.ok.hd hc) st p.isList (by simp;lia) λh' eb=>⟨rfl,I.turned (t':=s.toks) (λb o hb e=>eb b o hb e) f0 f1 f3 f4 f5⟩
 self:=λ_ _ _ _ _ st h=>wpAny_pyIter_listiter st h
theorem aB1 {P:Program}{w:World}{K:PySem.W.Frag}{tg:Expr}(a it:Addr):aP2 P w K tg (Itt K a) [it] it (λi h=>h.IsTupleIter it a i) where
 mem:=by simp
 obj:=λi h st b hb=>by
  have e:b=it:=by simpa using hb
  subst e;obtain⟨o,e,c,d⟩:=st;exact⟨o,e,λv z=>by rw[d]at z;cases z⟩
 keep:=λi h h' st k=>st.at λo e=>k it (by simp) o e
 item:=by
  intro X hP hw hK hc i pins s σ H E I hf st hg;subst hP hw hK;obtain⟨xs,x,hq,hx⟩:=hg;obtain⟨its,rv,p,hz⟩:=I.tuple hq;obtain⟨u,hu,ru⟩:=rv.get hx;obtain⟨f0,f1,f2,f3,f4,f5⟩:=hf it (by simp)
  refine wpAny_pyNext_tuple_item st (show s.heap.IsTuple a its.toArray from p) (x:=u) (by simpa using hu) λh' st' sb=> ?_
  have I1:Inv X pins σ H {s with heap:=h'}:=I.turned (t':=s.toks) (λb o hb e=>(sb.2 b hb).trans e) f0 f1 f3 f4 f5
  obtain⟨o,e,c,d⟩:=id st';exact⟨u,rfl,aG0 (s:={s with heap:=h'}) e c d (by decide) ⟨x,H,I1,ru,⟨rfl,λys hy=>by rw[I.tuple_inj hy hq];exact hx⟩,st',λb hb=>(hf b hb).1⟩⟩
 done:=by
  intro X hP hw hK hc i pins s σ H E I hf st hg;subst hP hw hK;obtain⟨xs,hq,hx⟩:=hg;obtain⟨its,rv,p,hz⟩:=I.tuple hq;obtain⟨f0,f1,f2,f3,f4,f5⟩:=hf it (by simp)
  have hl:=rv.length;exact wpAny_pyNext_tuple_end (I.ok.hd hc) st (show s.heap.IsTuple a its.toArray from p) (by simp;lia) λh' eb=>⟨rfl,I.turned (t':=s.toks) (λb o hb e=>eb b o hb e) f0 f1 f3 f4 f5⟩
 self:=λ_ _ _ _ _ st h=>wpAny_pyIter_tupleiter st h
theorem aB2 {P:Program}{w:World}{K:PySem.W.Frag}{tg:Expr}(it:Addr)(lo:Int)(n:Nat):aP2 P w K tg (Itr lo n) [it] it (λi h=>IsRangeIter h it (lo+(i:Nat)*1) ((n:Int)-(i:Nat)) 1) where
 mem:=by simp
 obj:=λi h st b hb=>by
  have e:b=it:=by simpa using hb
  subst e;exact⟨_,st,λv z=>by
   have z':Data.fields _=Data.cell v:=z;cases z'⟩
 keep:=λi h h' st k=>k it (by simp) _ st
 item:=by
  intro X hP hw hK hc i pins s σ H E I hf st hg;subst hP hw hK;obtain⟨f0,f1,f2,f3,f4,f5⟩:=hf it (by simp)
  have W:=Walks.range (prog:=X.prog) (w:=X.w) (I.ok.hd hc) it lo 1 n;refine W.item i s _ _ hg st λv h' tk hv st' kk=> ?_
  obtain⟨t,rfl⟩:=hv;have I1:Inv X pins σ H {s with heap:=h',toks:=tk}:=I.turned (λb o hb e=>kk b o (by simpa using hb) e) f0 f1 f3 f4 f5
  refine⟨_,rfl,aG0 (s:={s with heap:=h',toks:=tk}) (n:="range_iterator") st' rfl rfl (by decide) ⟨.int (lo+i),H,I1,⟨t,?_⟩,⟨rfl,rfl⟩,st',λb hb=>(hf b hb).1⟩⟩
  rw[Int.mul_one]
 done:=by
  intro X hP hw hK hc i pins s σ H E I hf st hg;subst hP hw hK;obtain⟨f0,f1,f2,f3,f4,f5⟩:=hf it (by simp)
  exact wpAny_pyNext_range_end (I.ok.hd hc) st (by have:n<=i:=hg;lia) λh' eb=>⟨rfl,I.turned (t':=s.toks) (λb o hb e=>eb b o hb e) f0 f1 f3 f4 f5⟩
 self:=λ_ _ _ _ _ st h=>wpAny_pyIter_rangeiter st h
end L2
namespace L2
open PySem PySem.Spec PyProof.Rows
section
variable {X:Cx}{tg:Expr}
theorem aP3 {pins:List (Addr×Obj)}{σ:St}{H:Hp}{s:Shared}{R:It->Hp->Prop}{E:Value->Shared->Prop}{lo hi:Int}{t u v:Tok}{tk:Nat}(I:Inv X pins σ H s)(h1: -(2^62)<=lo)(h2:lo<2^62)(h3: -(2^62)<=hi)(h4:hi<2^62)
  (q:R (Itr lo (hi-lo).toNat) H):wpAny (model X.prog X.w) X.A (pyIter (.ref s.heap.objs.size)) (PIE X pins σ tg R) E {s with heap:=s.heap.push {cls:= .type "range",data:= .fields #[.int lo t,.int hi u,.int 1 v]},toks:=tk}:=by
 refine wpAny_pyIter_range (IsRange.new ..) (small_one h1 h2 h3 h4) ?_
 have I1:Inv X pins σ H {s with heap:=s.heap.push {cls:= .type "range",data:= .fields #[.int lo t,.int hi u,.int 1 v]},toks:=tk}:=I.kept λb o e=>get?_push_of_some _ e
 refine⟨(s.heap.push {cls:= .type "range",data:= .fields #[.int lo t,.int hi u,.int 1 v]}).objs.size,[(s.heap.push {cls:= .type "range",data:= .fields #[.int lo t,.int hi u,.int 1 v]}).objs.size],_,_,H,rfl,
  I1.kept (t':=tk) λb o e=>get?_push_of_some _ e,aB2 _ lo (hi-lo).toNat,?_,λb hb=> ?_,q⟩
 ·have e1:lo+((0:Nat):Int)*1=lo:=by simp
  have e2:(((hi-lo).toNat:Nat):Int)-((0:Nat):Int)=Builtin.Range.rangeSize lo hi 1:=by rw[rangeSize_one];split<;>lia
  show IsRangeIter _ _ (lo+((0:Nat):Int)*1) ((((hi-lo).toNat:Nat):Int)-((0:Nat):Int)) 1
  rw[e1,e2];exact get?_push_size _ rfl
 ·have e:b=(s.heap.push {cls:= .type "range",data:= .fields #[.int lo t,.int hi u,.int 1 v]}).objs.size:=by simpa using hb
  subst e;exact I1.fpOk (le_refl _) (I1.hok.fresh (le_refl _))
def iRng1 (ta:TA):TI:=λσ H R=>ta σ H λvs H1=> ∃j:Int,vs=[.int j]/\ -(2^62)<=j/\j<2^62/\R (Itr 0 j.toNat) H1
theorem aK4 {a:Expr}{ta:TA}{p pos:Pos}(hg:Gl X "range")(hm:X.mg "range"=none)(ha:PA X [a] ta)(hs:starEach [a] X.env=[(false,eval a X.env)]:=by rfl):PI X tg (.Call (.Name "range" p) [a] [] pos) (iRng1 ta):=by
 intro pins s σ H R I h;refine Call_ (zI I hg hm boot_range (PyProof.Rows.callWith_type1 (thn (ha pos pins s σ H _ I h) λus s1 ⟨vs,H1,I1,r1,q1⟩=> ?_) hs rfl))
 obtain⟨j,e,q1,q2,q⟩:=q1;subst e;cases r1 with
 | cons r rr=>
  cases rr;obtain⟨t,rfl⟩:=r;exact call_range_1 (aP3 I1 (by lia) (by lia) q1 q2 (by simpa using q))
def tFor (wi:TI)(g:TG)(tb:TS):TS:=λD σ H=>wi σ H λJ H1=> ∃W:Nat->Nat->St->Hp->Prop,(∃m,W 0 m σ H1)/\ ∀i m σ H,W i m σ H->
 (J.stop i H/\D.nx σ H)\/(J.go i H/\ ∃N:St->Hp->Prop,(∀σ' H',N σ' H'-> ∃m',m'<m/\W (i+1) m' σ' H')/\ ∀x H',J.yld i H x H'->g x σ H' λσ2 H2=>tb {D with nx:=N,ct:=N,bk:=D.nx} σ2 H2)
def t5 (fp:List Addr)(h:Heap):List (Addr×Obj):=fp.filterMap λb=>(h.get? b).map λo=>(b,o)
theorem gR {fp:List Addr}{h:Heap}{b:Addr}{o:Obj}(hb:b∈fp)(e:h.get? b=some o):(b,o)∈t5 fp h:=List.mem_filterMap.mpr ⟨b,hb,by rw[e];rfl⟩
theorem aK5 {fp:List Addr}{h:Heap}{p:Addr×Obj}(hp:p∈t5 fp h):p.1∈fp/\h.get? p.1=some p.2:=by
 obtain⟨b,hb,e⟩:=List.mem_filterMap.mp hp;cases q:h.get? b with
 | none=>rw[q]at e;cases e
 | some o=>
  rw[q]at e;have e':(b,o)=p:=Option.some.inj e;subst e';exact⟨hb,q⟩
theorem Inv.pinned {pins:List (Addr×Obj)}{σ:St}{H:Hp}{s:Shared}{fp:List Addr}(I:Inv X pins σ H s)(hf: ∀b∈fp,rG X pins H b)(ho: ∀b∈fp,∃o,s.heap.get? b=some o/\ ∀v,o.data≠ .cell v):Inv X (pins++t5 fp s.heap) σ H s:=
 I.pins_of λp hp=>(List.mem_append.mp hp).elim (λz=>I.pin p (mem_append_right _ z)) λz=>by
  obtain⟨hb,e⟩:=aK5 z;obtain⟨f0,f1,f2,_⟩:=hf p.1 hb;obtain⟨o,e',d⟩:=ho p.1 hb;rw[e]at e';cases e';exact⟨e,f0,f1,f2,d⟩
theorem Inv.unpinned {pins pl:List (Addr×Obj)}{σ:St}{H:Hp}{s:Shared}(I:Inv X (pins++pl) σ H s):Inv X pins σ H s:=I.pins_of λp hp=>I.pin p (mem_append_right _ (List.mem_append_left _ hp))
theorem ps_for {iter:Expr}{body:List Stmt}{wi:TI}{g:TG}{tb:TS}{pos:Pos}(hp:PassesOwn (model X.prog X.w) X.A X.env X.xe)(hc:X.calm=true)(hi:PI X tg iter wi)(hg:PG X tg g)(hb:PSs X body tb)
  (hs: ∀x,foldedSetIterable iter X.env x=pure x:=by intro _;rfl):PS X (.For tg iter body [] pos) (tFor wi g tb):=by
 intro pins s σ H D I h;refine wpAny_For (thn (hi pins s σ H _ I h) λv s1 h1=>thn h1 λitv s2 h2=> ?_) hs
 obtain⟨it,fp,tn,J,H2,e,I2,T,st2,f2,W,⟨m0,w0⟩,turn⟩:=h2;subst e;have stat: ∀{H':Hp},(∀b∈fp,H' b=none)-> ∀b∈fp,rG X pins H' b:=λhn b hb=>⟨hn b hb,(f2 b hb).2⟩
 refine codeAny_forLoop_any (λn s'=> ∃i σ' H',Inv X pins σ' H' s'/\tn i s'.heap/\(∀b∈fp,H' b=none)/\W i n σ' H') ?_ m0 ⟨0,σ,H2,I2,st2,λb hb=>(f2 b hb).1,w0⟩
 rintro n s3 ⟨i,σ3,H3,I3,st3,fr3,w3⟩;rcases turn i n σ3 H3 w3 with⟨stop,qn⟩| ⟨go,N,hN,step⟩
 ·refine wpAny_passesOwn hp (thn (T.done X rfl rfl rfl hc i pins s3 σ3 H3 X.xe I3 (stat fr3) st3 stop) λr s4 ⟨hr,I4⟩=> ?_)
  subst hr;exact wpAny_execs_nil ⟨σ3,H3,I4,qn⟩
 ·refine wpAny_passesOwn hp (thn (T.item X rfl rfl rfl hc i pins s3 σ3 H3 X.xe I3 (stat fr3) st3 go) λr s4 ⟨u,hr,h4⟩=> ?_)
  subst hr;refine wpAny_passesOwn hp (thn h4 λ_ s5 ⟨x,H5,I5,r5,y5,st5,fr5⟩=> ?_)
  have I5':=I5.pinned (stat fr5) (T.obj _ _ st5);refine wpAny_passesOwn hp (thn (hg _ s5 σ3 H5 x u _ I5' r5 (step x H5 y5)) λ_ s6 ⟨σ6,H6,I6,q6⟩=> ?_)
  refine wpAny_passesOwn hp (thn (hb _ s6 σ6 H6 _ I6 q6) λf s7 q7=> ?_)
  have again: ∀{σ7:St} {H7:Hp},Inv X (pins++t5 fp s5.heap) σ7 H7 s7->N σ7 H7-> ∃m,m<n/\ ∃i σ' H',Inv X pins σ' H' s7/\tn i s7.heap/\(∀b∈fp,H' b=none)/\W i m σ' H':=λ{σ7 H7} I7 n7=>by
   obtain⟨m',hm,w7⟩:=hN σ7 H7 n7;refine⟨m',hm,i+1,σ7,H7,I7.unpinned,T.keep _ _ _ st5 λb hb o e=>(I7.pin (b,o) (mem_append_right _ (mem_append_right _ (gR hb e)))).1,λb hb=> ?_,w7⟩
   obtain⟨o,e,d⟩:=T.obj _ _ st5 b hb;exact(I7.pin (b,o) (mem_append_right _ (mem_append_right _ (gR hb e)))).2.1
  cases f with
  | next=>obtain⟨σ7,H7,I7,n7⟩:=q7;exact again I7 n7
  | cont=>obtain⟨σ7,H7,I7,n7⟩:=q7;exact again I7 n7
  | brk=>obtain⟨σ7,H7,I7,q7⟩:=q7;exact⟨σ7,H7,I7.unpinned,q7⟩
  | ret v=>obtain⟨x7,σ7,H7,I7,r7,q7⟩:=q7;exact⟨x7,σ7,H7,I7.unpinned,r7,q7⟩
end
end L2
namespace L2
open PySem PySem.Spec PyProof.Rows
abbrev R2:=V->V->Hp->VK->Prop
def OpR (X:Cx)(f:Value->Value->Sem Value)(r:R2):Prop:=
 ∀(pins:List (Addr×Obj)) (s:Shared) (σ:St) (H:Hp) (x y:V) (v u:Value) (Q:VK),Inv X pins σ H s->RelV x v->RelV y u->r x y H Q->
  wpAny (model X.prog X.w) X.A (f v u) (EP X pins σ Q) X.xe s
def UnR (X:Cx)(f:Value->Sem Value)(r:V->Hp->VK->Prop):Prop:=
 ∀(pins:List (Addr×Obj)) (s:Shared) (σ:St) (H:Hp) (x:V) (v:Value) (Q:VK),Inv X pins σ H s->RelV x v->r x H Q->
  wpAny (model X.prog X.w) X.A (f v) (EP X pins σ Q) X.xe s
def fR (X:Cx)(f:Value)(r:List V->Hp->VK->Prop):Prop:=
 ∀(pins:List (Addr×Obj)) (s:Shared) (σ:St) (H:Hp) (xs:List V) (us:List Value) (Q:VK),Inv X pins σ H s->aZ xs us->r xs H Q->
  wpAny (model X.prog X.w) X.A (call f us) (EP X pins σ Q) X.xe s
def tOp (r:R2)(ta tb:TE):TE:=λσ H Q=>ta σ H λx H1=>tb σ H1 λy H2=>r x y H2 Q
def tUn (r:V->Hp->VK->Prop)(ta:TE):TE:=λσ H Q=>ta σ H λx H1=>r x H1 Q
def rI (C:Int->Int->Prop)(g:Int->Int->V):R2:=λx y H Q=> ∃i j,x= .int i/\y= .int j/\C i j/\Q (g i j) H
def rI0 (g:Int->Int->V):R2:=λx y H Q=> ∃i j,x= .int i/\y= .int j/\Q (g i j) H
def rU (g:Int->V):V->Hp->VK->Prop:=λx H Q=> ∃i,x= .int i/\Q (g i) H
section
variable {X:Cx}{a b c:Expr}{ta tb tc:TE}{pos:Pos}
theorem binT (ha:PE X a ta)(hb:PE X b tb){pins:List (Addr×Obj)}{s:Shared}{σ:St}{H:Hp}{R:V->V->Hp->Prop}(I:Inv X pins σ H s)
  (h:ta σ H λx H1=>tb σ H1 λy H2=>R x y H2) {Q:Value->Shared->Prop} {f:Value->Value->Sem Value}
  (hf: ∀v u s2 x y H2,Inv X pins σ H2 s2->RelV x v->RelV y u->R x y H2->wpAny (model X.prog X.w) X.A (f v u) Q X.xe s2) :
  wpAny (model X.prog X.w) X.A (eval a X.env) (λv s₁=>wpAny (model X.prog X.w) X.A (eval b X.env) (λu s₂=>wpAny (model X.prog X.w) X.A (f v u) Q X.xe s₂) X.xe s₁) X.xe s:=by
 refine thn (ha pins s σ H _ I h) λv s1 ⟨x,H1,I1,r1,q1⟩=> ?_
 refine thn (hb pins s1 σ H1 _ I1 q1) λu s2 ⟨y,H2,I2,r2,q2⟩=> ?_
 exact hf v u s2 x y H2 I2 r1 r2 q2
theorem pe_op {op:Operator}{r:R2}(ho:OpR X (binaryOp op) r)(ha:PE X a ta)(hb:PE X b tb):PE X (.BinOp a op b pos) (tOp r ta tb):=by
 intro pins s σ H Q I h;exact wpAny_BinOp (binT ha hb I h λv u s2 x y H2 I2 rx ry q=>ho pins s2 σ H2 x y v u Q I2 rx ry q)
theorem pe_un {op:UnaryOp}{r:V->Hp->VK->Prop}(ho:UnR X (unaryOp op) r)(ha:PE X a ta):PE X (.UnaryOp op a pos) (tUn r ta):=by
 intro pins s σ H Q I h;exact UnaryOp_ (thn (ha pins s σ H _ I h) λv s1 ⟨x,H1,I1,r1,q1⟩=>ho pins s1 σ H1 x v Q I1 r1 q1)
theorem opI {f:Value->Value->Sem Value}{C:Int->Int->Prop}{g:Int->Int->Int}
  (rule: ∀(i j:Int) (t u:Tok) (s:Shared) (Q:Value->Shared->Prop) (E:Value->Shared->Prop),C i j->Q (.int (g i j) s.toks) {s with toks:=s.toks+1}->wpAny (model X.prog X.w) X.A (f (.int i t) (.int j u)) Q E s) :
  OpR X f (rI C λi j=> .int (g i j)):=by
 intro pins s σ H x y v u Q I rx ry h;obtain⟨i,j,rfl,rfl,hc,q⟩:=h;obtain⟨t,rfl⟩:=rx;obtain⟨t',rfl⟩:=ry;exact rule i j t t' s _ _ hc ⟨.int (g i j),H,I.tok _,⟨_,rfl⟩,q⟩
theorem opI0 {f:Value->Value->Sem Value}{g:Int->Int->Int}
  (rule: ∀(i j:Int) (t u:Tok) (s:Shared) (Q:Value->Shared->Prop) (E:Value->Shared->Prop),Q (.int (g i j) s.toks) {s with toks:=s.toks+1}->wpAny (model X.prog X.w) X.A (f (.int i t) (.int j u)) Q E s) :
  OpR X f (rI0 λi j=> .int (g i j)):=by
 intro pins s σ H x y v u Q I rx ry h;obtain⟨i,j,rfl,rfl,q⟩:=h;obtain⟨t,rfl⟩:=rx;obtain⟨t',rfl⟩:=ry;exact rule i j t t' s _ _ ⟨.int (g i j),H,I.tok _,⟨_,rfl⟩,q⟩
theorem opB0 {f:Value->Value->Sem Value}{g:Int->Int->Bool}
  (rule: ∀(i j:Int) (t u:Tok) (s:Shared) (Q:Value->Shared->Prop) (E:Value->Shared->Prop),Q (.bool (g i j)) s->wpAny (model X.prog X.w) X.A (f (.int i t) (.int j u)) Q E s) :
  OpR X f (rI0 λi j=> .bl (g i j)):=by
 intro pins s σ H x y v u Q I rx ry h;obtain⟨i,j,rfl,rfl,q⟩:=h;obtain⟨t,rfl⟩:=rx;obtain⟨t',rfl⟩:=ry;exact rule i j t t' s _ _ ⟨.bl (g i j),H,I,rfl,q⟩
def b00 (i j:Int):Prop:=0<=j/\j<=1000000/\i.natAbs<2^64
def aB3 (i j:Int):Prop:=(-(2^64)<i/\i<2^64)\/(-(2^64)<j/\j<2^64)
theorem aB3.ok {i j:Int}(h:aB3 i j):IntMulOk i j:=by
 rcases h with⟨h1,h2⟩| ⟨h1,h2⟩
 ·exact .of_left (intBits_le_64 h1 h2)
 ·exact .of_right (intBits_le_64 h1 h2)
theorem op_add:OpR X (binaryOp .Add) (rI0 λi j=> .int (i+j)):=opI0 λ_ _ _ _ _ _ _ q=>add_int q
theorem op_sub:OpR X (binaryOp .Sub) (rI0 λi j=> .int (i-j)):=opI0 λ_ _ _ _ _ _ _ q=>sub_int q
theorem b01:OpR X (binaryOp .Mod) (rI (λ_ j=>j≠0) λi j=> .int (i.fmod j)):=opI λ_ _ _ _ _ _ _ hc q=>mod_int' hc q
theorem op_pow:OpR X (binaryOp .Pow) (rI b00 λi j=> .int (i^j.toNat)):=opI λ_ _ _ _ _ _ _ hc q=>pow_int_small hc.1 hc.2.1 hc.2.2 q
theorem unI {f:Value->Sem Value}{g:Int->Int}
  (rule: ∀(i:Int) (t:Tok) (s:Shared) (Q:Value->Shared->Prop) (E:Value->Shared->Prop),Q (.int (g i) s.toks) {s with toks:=s.toks+1}->wpAny (model X.prog X.w) X.A (f (.int i t)) Q E s) :
  UnR X f (rU λi=> .int (g i)):=by
 intro pins s σ H x v Q I rx h;obtain⟨i,rfl,q⟩:=h;obtain⟨t,rfl⟩:=rx;exact rule i t s _ _ ⟨.int (g i),H,I.tok _,⟨_,rfl⟩,q⟩
theorem un_neg:UnR X (unaryOp .USub) (rU λi=> .int (-i)):=unI λ_ _ _ _ _ q=>neg_int q
end
def scal:V->V->Bool
 | .non,.non=>true| .non,.int _=>true| .int _,.non=>true| .non,.bl _=>true| .bl _,.non=>true| .non,.str _=>true| .str _,.non=>true
 | .int _,.int _=>true| .bl _,.bl _=>true| .str _,.str _=>true| .byt _,.byt _=>true
 | .int _,.str _=>true| .str _,.int _=>true| .bl _,.str _=>true| .str _,.bl _=>true
 | _,_=>false
def rEq:R2:=λx y H Q=>scal x y=true/\Q (.bl (decide (x=y))) H
def rNe:R2:=λx y H Q=>scal x y=true/\Q (.bl (!decide (x=y))) H
theorem vA {i j:Int}:decide (V.int i=V.int j)=(i==j):=by
 rw[Bool.eq_iff_iff];simp
theorem zK {i j:Bool}:decide (V.bl i=V.bl j)=(i==j):=by
 rw[Bool.eq_iff_iff];simp
theorem vB {i j:Str}:decide (V.str i=V.str j)=(i==j):=by
 rw[Bool.eq_iff_iff];simp
theorem aG1 {i j:Array UInt8}:decide (V.byt i=V.byt j)=(i.toList==j.toList):=by
 rw[Bool.eq_iff_iff];cases i;cases j;simp
section
variable {X:Cx}{a b c:Expr}{ta tb tc:TE}{pos:Pos}
theorem bJ {pins:List (Addr×Obj)}{σ:St}{H:Hp}{s:Shared}{Q:VK}{k k':Bool}(I:Inv X pins σ H s)(q:Q (.bl k) H)(e:k=k'):EP X pins σ Q (.bool k') s:=by
 subst e;exact⟨.bl k,H,I,rfl,q⟩
theorem aP4:OpR X (compareOp .Eq) rEq:=by
 intro pins s σ H x y v u Q I rx ry h;obtain⟨hs,q⟩:=h;cases x with
 | non=>
  cases rx;cases y with
  | non=>cases ry;exact PySem.EqNone.eq_none_none (bJ I q (by simp))
  | bl j=>cases ry;exact PySem.EqNone.eq_none_bool (bJ I q (by simp))
  | int j=>obtain⟨t',rfl⟩:=ry;exact PySem.EqNone.eq_none_int (bJ I q (by simp))
  | str j=>obtain⟨t',rfl⟩:=ry;exact PySem.EqNone.eq_none_str (bJ I q (by simp))
  | _=>exact absurd (show false=true from hs) Bool.false_ne_true
 | bl i=>
  cases rx;cases y with
  | non=>cases ry;exact PySem.EqNone.eq_bool_none (bJ I q (by simp))
  | bl j=>cases ry;exact eq_bool (bJ I q zK)
  | str j=>obtain⟨t',rfl⟩:=ry;exact PySem.EqMixed.eq_bool_str (bJ I q (by simp))
  | _=>exact absurd (show false=true from hs) Bool.false_ne_true
 | int i=>
  obtain⟨t,rfl⟩:=rx;cases y with
  | non=>cases ry;exact PySem.EqNone.eq_int_none (bJ I q (by simp))
  | int j=>obtain⟨t',rfl⟩:=ry;exact eq_int (bJ I q vA)
  | str j=>obtain⟨t',rfl⟩:=ry;exact PySem.EqMixed.eq_int_str (bJ I q (by simp))
  | _=>exact absurd (show false=true from hs) Bool.false_ne_true
 | str i=>
  obtain⟨t,rfl⟩:=rx;cases y with
  | non=>cases ry;exact PySem.EqNone.eq_str_none (bJ I q (by simp))
  | bl j=>cases ry;exact PySem.EqMixed.eq_str_bool (bJ I q (by simp))
  | int j=>obtain⟨t',rfl⟩:=ry;exact PySem.EqMixed.eq_str_int (bJ I q (by simp))
  | str j=>obtain⟨t',rfl⟩:=ry;exact eq_str (bJ I q vB)
  | _=>exact absurd (show false=true from hs) Bool.false_ne_true
 | byt i=>
  obtain⟨t,rfl⟩:=rx;cases y with
  | byt j=>obtain⟨t',rfl⟩:=ry;exact PySem.W.eq_bytes (bJ I q aG1)
  | _=>exact absurd (show false=true from hs) Bool.false_ne_true
 | _=>cases y<;>exact absurd (show false=true from hs) Bool.false_ne_true
theorem aP5:OpR X (compareOp .NotEq) rNe:=by
 intro pins s σ H x y v u Q I rx ry h;obtain⟨hs,q⟩:=h;cases x with
 | non=>
  cases rx;cases y with
  | non=>cases ry;exact PySem.EqNone.ne_none_none (bJ I q (by simp))
  | bl j=>cases ry;exact PySem.EqNone.ne_none_bool (bJ I q (by simp))
  | int j=>obtain⟨t',rfl⟩:=ry;exact PySem.EqNone.ne_none_int (bJ I q (by simp))
  | str j=>obtain⟨t',rfl⟩:=ry;exact PySem.EqNone.ne_none_str (bJ I q (by simp))
  | _=>exact absurd (show false=true from hs) Bool.false_ne_true
 | bl i=>
  cases rx;cases y with
  | non=>cases ry;exact PySem.EqNone.ne_bool_none (bJ I q (by simp))
  | bl j=>cases ry;exact ne_bool (bJ I q (congrArg not zK))
  | str j=>obtain⟨t',rfl⟩:=ry;exact PySem.EqMixed.ne_bool_str (bJ I q (by simp))
  | _=>exact absurd (show false=true from hs) Bool.false_ne_true
 | int i=>
  obtain⟨t,rfl⟩:=rx;cases y with
  | non=>cases ry;exact PySem.EqNone.ne_int_none (bJ I q (by simp))
  | int j=>obtain⟨t',rfl⟩:=ry;exact ne_int (bJ I q (congrArg not vA))
  | str j=>obtain⟨t',rfl⟩:=ry;exact PySem.EqMixed.ne_int_str (bJ I q (by simp))
  | _=>exact absurd (show false=true from hs) Bool.false_ne_true
 | str i=>
  obtain⟨t,rfl⟩:=rx;cases y with
  | non=>cases ry;exact PySem.EqNone.ne_str_none (bJ I q (by simp))
  | bl j=>cases ry;exact PySem.EqMixed.ne_str_bool (bJ I q (by simp))
  | int j=>obtain⟨t',rfl⟩:=ry;exact PySem.EqMixed.ne_str_int (bJ I q (by simp))
  | str j=>obtain⟨t',rfl⟩:=ry;exact ne_str (bJ I q (congrArg not vB))
  | _=>exact absurd (show false=true from hs) Bool.false_ne_true
 | byt i=>
  obtain⟨t,rfl⟩:=rx;cases y with
  | byt j=>obtain⟨t',rfl⟩:=ry;exact PySem.W.ne_bytes (bJ I q (congrArg not aG1))
  | _=>exact absurd (show false=true from hs) Bool.false_ne_true
 | _=>cases y<;>exact absurd (show false=true from hs) Bool.false_ne_true
theorem op_lt:OpR X (compareOp .Lt) (rI0 λi j=> .bl (decide (i<j))):=opB0 λ_ _ _ _ _ _ _ q=>lt_int q
theorem op_gt:OpR X (compareOp .Gt) (rI0 λi j=> .bl (decide (j<i))):=opB0 λ_ _ _ _ _ _ _ q=>gt_int q
theorem op_ge:OpR X (compareOp .GtE) (rI0 λi j=> .bl (decide (j<=i))):=opB0 λ_ _ _ _ _ _ _ q=>ge_int q
theorem aK6:OpR X (compareOp .In) (λx y H Q=> ∃i j,x= .str i/\y= .str j/\Q (.bl (!(Builtin.Str.occurrences j i 0 j.length 1).isEmpty)) H):=by
 intro pins s σ H x y v u Q I rx ry h;obtain⟨i,j,rfl,rfl,q⟩:=h;obtain⟨t,rfl⟩:=rx;obtain⟨t',rfl⟩:=ry;exact in_str (bJ I q rfl)
theorem OpR.or {f:Value->Value->Sem Value}{r r':R2}(h:OpR X f r)(h':OpR X f r'):OpR X f (λx y H Q=>r x y H Q\/r' x y H Q):=by
 intro pins s σ H x y v u Q I rx ry q;rcases q with q|q
 ·exact h pins s σ H x y v u Q I rx ry q
 ·exact h' pins s σ H x y v u Q I rx ry q
theorem aU (b:Expr){op:CmpOp}(h:op≠ .In:=by decide)(h2:op≠ .NotIn:=by decide):behindInMarks op b=false:=by
 have e1:(op==CmpOp.In)=false:=by cases op<;>first|rfl|exact absurd rfl h
 have e2:(op==CmpOp.NotIn)=false:=by cases op<;>first|rfl|exact absurd rfl h2
 cases b<;>simp[behindInMarks,e1,e2]
theorem b02 {op:CmpOp}{r:R2}(ho:OpR X (compareOp op) r)(ha:PE X a ta)(hb:PE X b tb)(hm:behindInMarks op b=false):PE X (.Compare a [op] [b] pos) (tOp r ta tb):=by
 intro pins s σ H Q I h;exact wpAny_Compare1 (binT ha hb I h λv u s2 x y H2 I2 rx ry q=>ho pins s2 σ H2 x y v u Q I2 rx ry q) hm
def tTest (t:TE):TT:=λσ H Q=>t σ H λx H'=> ∃k,x= .bl k/\Q k H'
theorem b03 {op:CmpOp}{r:R2}(ho:OpR X (compareOp op) r)(ha:PE X a ta)(hb:PE X b tb)(hm:behindInMarks op b=false):PT X (.Compare a [op] [b] pos) (tTest (tOp r ta tb)):=by
 intro pins s σ H Q I h;refine wpAny_isTrue_Compare1 (thn (ha pins s σ H _ I h) λv s1 ⟨x,H1,I1,r1,q1⟩=>thn (hb pins s1 σ H1 _ I1 q1) λu s2 ⟨y,H2,I2,r2,q2⟩=>
  thn (ho pins s2 σ H2 x y v u _ I2 r1 r2 q2) λc s3 ⟨z,H3,I3,r3,k,e,q3⟩=> ?_) hm
 subst e;cases r3;exact wpAny_truthy_bool ⟨H3,I3,q3⟩
theorem vV:(sizeLine:Nat)<2^63:=by rw[sizeLine_eq];decide
theorem aB4:OpR X (binaryOp .Add) (λx y H Q=> ∃i j,x= .str i/\y= .str j/\i.length+j.length<=sizeLine/\Q (.str (i++j)) H):=by
 intro pins s σ H x y v u Q I rx ry h;obtain⟨i,j,rfl,rfl,hz,q⟩:=h;obtain⟨t,rfl⟩:=rx;obtain⟨t',rfl⟩:=ry;exact add_str (λt' tk=>⟨.str (i++j),H,I.tok _,⟨_,rfl⟩,q⟩) hz
theorem vals1 {x:V}{us:List Value}(r:aZ [x] us): ∃u,us=[u]/\RelV x u:=by
 cases r with
 | cons r1 r2=>cases r2;exact⟨_,rfl,r1⟩
theorem vals2 {x y:V}{us:List Value}(r:aZ [x,y] us): ∃u w',us=[u,w']/\RelV x u/\RelV y w':=by
 cases r with
 | cons r1 r2=>
  cases r2 with
  | cons r3 r4=>cases r4;exact⟨_,_,rfl,r1,r3⟩
theorem aP6:fR X (.builtin "abs") (λxs H Q=> ∃i,xs=[.int i]/\Q (.int (if i<0 then -i else i)) H):=by
 intro pins s σ H xs us Q I r h;obtain⟨i,rfl,q⟩:=h;obtain⟨u,rfl,t,rfl⟩:=vals1 r;exact call_abs_int λu tk=>⟨.int (if i<0 then -i else i),H,I.tok _,⟨_,rfl⟩,q⟩
theorem aK7 (hc:X.calm=true):fR X (.builtin "max") (λxs H Q=> ∃i j,xs=[.int i,.int j]/\Q (.int (if j>i then j else i)) H):=by
 intro pins s σ H xs us Q I r h;obtain⟨i,j,rfl,q⟩:=h;obtain⟨u,w',rfl,⟨t,rfl⟩,⟨t',rfl⟩⟩:=vals2 r;refine max_two_ints (I.ok.hd hc) λh' tk k=>⟨_,H,I.kept k,?_,q⟩
 by_cases hj:j>i
 ·rw[if_pos hj,if_pos hj];exact⟨_,rfl⟩
 ·rw[if_neg hj,if_neg hj];exact⟨_,rfl⟩
theorem zL:fR X (.type "str") (λxs H Q=> ∃i,xs=[.int i]/\i.natAbs.log2<1920/\Q (.str (toString i)) H):=by
 intro pins s σ H xs us Q I r h;obtain⟨i,rfl,hz,q⟩:=h;obtain⟨u,rfl,t,rfl⟩:=vals1 r;exact PySem.P.str_of_int hz ⟨.str _,H,I.tok _,⟨_,rfl⟩,q⟩
end
end L2
namespace L2
open PySem PySem.Spec PyProof.Rows
structure ObjM (h:Heap)(x dx C:Addr)(mA:Str->Option Value):Prop where
 obj:h.get? x=some (instObj C dx)
 ns:h.Ns1 dx mA
 ne:dx≠x
theorem aK8 {h:Heap}{dx:Addr}{mA:Str->Option Value}(n:h.Ns1 dx mA): ∃od,h.get? dx=some od/\ ∀name,lookIn name od=some (mA name):=by
 obtain⟨o,es,ep,ho,hd,hk,_,hm⟩:=n;refine⟨o,ho,λname=> ?_⟩
 have e:=hm name;unfold nsFind findBy at e;rw[<-Array.find?_toList]at e;unfold lookIn;rw[hd];dsimp only;split
 ·rename_i y q
  rw[q]at e;exact congrArg some e
 ·rename_i q
  rw[q]at e;have a:es.toList.any (·.refKey)=false:=by
   rw[List.any_eq_false];intro y hy;obtain⟨z,t,hkey⟩:=hk y (Array.mem_toList_iff.mp hy);simp[DictEntry.refKey,hkey]
  have a': ¬es.toList.any (·.refKey)=true:=by rw[a];exact Bool.false_ne_true
  rw[if_neg a'];exact congrArg some e
theorem ObjM.look {h:Heap}{x dx C:Addr}{mA:Str->Option Value}(I:ObjM h x dx C mA): ∃od,PySem.W.InstAt h x (instObj C dx) C (some od)/\ ∀name,lookIn name od=some (mA name):=
 let ⟨od,ho,hl⟩:=aK8 I.ns
 ⟨od,⟨I.obj,rfl,rfl,ho⟩,hl⟩
theorem aZ1.none_of {o:Option Value}(r:aZ1 none o):o=none:=by
 cases o with
 | none=>rfl
 | some u=>exact(show False from r).elim
structure Cls (K:PySem.W.Frag)(C:Addr):Prop where
 pg:PySem.W.plainGet K C Str.empty=true
 hd:PySem.W.hasDictIn K C=true
 po:PySem.W.plainOver K C=true
 sa:PySem.W.findIn K (.ref C) "__setattr__"=some (some (.builtin "object.__setattr__"))
theorem Cls.get {K:PySem.W.Frag}{C:Addr}(c:Cls K C)(f:Str):PySem.W.plainGet K C f=true:=c.pg
def NoAttr (K:PySem.W.Frag)(C:Addr)(f:Str):Prop:=PySem.W.findIn K (.ref C) f=some none
end L2
namespace L2
open PySem PySem.Spec PyProof.Rows
structure cV (k:Nat)(A:Around):Prop where
 hd:A.handled=none
 dp:A.depth+3*k+5<recursionLimit
 un:A.units+16*k+200<cLine
theorem cV.mono {j k:Nat}{A:Around}(r:cV k A)(h:j<=k):cV j A:=⟨r.hd,by have:=r.dp;lia,by have:=r.un;lia⟩
theorem cV.deeper {k:Nat}{A:Around}(r:cV (k+1) A)(env:Env):cV k (A.deeper env):=
 ⟨r.hd,by have:=r.dp;show A.depth+1+3*k+5<_;lia,by have:=r.un;show A.units+3+16*k+200<_;lia⟩
theorem cV.in1 {k:Nat}{A:Around}(r:cV (k+1) A):cV k A.in1:=
 ⟨r.hd,by have:=r.dp;show A.depth+3*k+5<_;lia,by have:=r.un;show A.units+1+16*k+200<_;lia⟩
theorem cV.depth {k:Nat}{A:Around}(r:cV k A):A.depth<recursionLimit:=by have:=r.dp;lia
theorem cV.units {k:Nat}{A:Around}(r:cV k A):A.units+64<cLine:=by have:=r.un;lia
def tNil:TA:=λ_ H Q=>Q [] H
def b79 (ta:TE)(tr:TA):TA:=λσ H Q=>ta σ H λx H1=>tr σ H1 λxs H2=>Q (x::xs) H2
section
variable {X:Cx}{e:Expr}{es:List Expr}{te:TE}{t:TA}{pos:Pos}
theorem zM:PA X [] tNil:=λ_ _ _ _ H Q I h=>Calls.spliced_nil ⟨[],H,I,.nil,h⟩
theorem vC (ha:PE X e te)(hr:PA X es t)(hs:starEach (e::es) X.env=(false,eval e X.env)::starEach es X.env:=by rfl):PA X (e::es) (b79 te t):=by
 intro pos pins s σ H Q I h;rw[hs];show wpAny _ _ (spliced ((false,eval e X.env)::backTo pos (starEach es X.env))) _ _ s;refine Calls.spliced_cons (thn (ha pins s σ H _ I h) λu s1 ⟨x,H1,I1,r1,q1⟩=> ?_)
 exact thn (hr pos pins s1 σ H1 _ I1 q1) λus s2 ⟨xs,H2,I2,r2,q2⟩=>⟨x::xs,H2,I2,.cons r1 r2,q2⟩
def tTup (t:TA):TE:=λσ H Q=>t σ H λxs H1=>xs.length<=sizeLine/\ ∀p,H1 p=none->Q (.ref p) (upd H1 p (.tup xs))
def tLst (t:TA):TE:=λσ H Q=>t σ H λxs H1=>xs.length<=sizeLine/\ ∀p,H1 p=none->Q (.ref p) (upd H1 p (.lst xs))
theorem aP7 {x1}(h:PA X es t):PE X (.Tuple es x1 pos) (tTup t):=by
 intro pins s σ H Q I hq;refine wpAny_Tuple_spliced (thn (h pos pins s σ H _ I hq) λus s1 ⟨xs,H1,I1,r,z,q⟩=>⟨by rw[<-r.length];exact z,?_⟩)
 have hf:H1 s1.heap.objs.size=none:=I1.hok.fresh (le_refl _);refine⟨.ref s1.heap.objs.size,upd H1 s1.heap.objs.size (.tup xs),I1.laid (t':=s1.toks) (λb u e=>get?_push_of_some _ e) (le_refl _) ?_,rfl,q _ hf⟩
 exact⟨z,us,r,⟨_,get?_push_size _ rfl,rfl,_,rfl⟩⟩
theorem pe_lst (h:PA X es t):PE X (.List es pos) (tLst t):=by
 intro pins s σ H Q I hq;refine wpAny_List_spliced (thn (h pos pins s σ H _ I hq) λus s1 ⟨xs,H1,I1,r,z,q⟩=>⟨by rw[<-r.length];exact z,?_⟩)
 have hf:H1 s1.heap.objs.size=none:=I1.hok.fresh (le_refl _);refine⟨.ref s1.heap.objs.size,upd H1 s1.heap.objs.size (.lst xs),I1.laid (t':=s1.toks) (λb u e=>get?_push_of_some _ e) (le_refl _) ?_,rfl,q _ hf⟩
 exact⟨z,us,0,r,get?_push_size _ rfl⟩
end
abbrev Sp:=List V->Hp->VK->XK->Prop
abbrev CXT:=List Env->Hp->Shared->XK->Value->Shared->Prop
structure aB5 (P:Program)(w:World)(K:PySem.W.Frag)(mg:Str->Option Value)(base:Heap)(A:Around)(outer:List Env)(s:Shared)(H:Hp):Prop where
 frames:A.frames=some outer
 mod:Mod K mg base
 bs: ∀b o,base.get? b=some o->s.heap.get? b=some o/\H b=none
 bsz:base.objs.size<=s.heap.objs.size
 funs:s.heap.FunFrames base outer
 frf: ∀b∈frs outer,H b=none
 hok:HOk P w H s.heap
 bare:AllBare s.gens
def CE (outer:List Env)(P:Program)(w:World)(H:Hp)(s:Shared)(Q:VK)(u:Value)(s':Shared):Prop:=
 ∃v H',s'.os=s.os/\AllBare s'.gens/\Un (frs outer) [] H H' s.heap s'.heap/\HOk P w H' s'.heap/\RelV v u/\Q v H'
def CR (CX:CXT)(outer:List Env)(P:Program)(w:World)(H:Hp)(s:Shared)(Q:VK)(E:XK)(r:Result)(s':Shared):Prop:=
 match r with
 | .ok (.ret u)=>CE outer P w H s Q u s'
 | .ok _=>False
 | .error e=>CX outer H s E e s'
structure kI (P:Program)(w:World)(K:PySem.W.Frag)(mg:Str->Option Value)(base:Heap)(CX:CXT)(k:Nat)(f:Addr)(fd:FuncData)(ps:List Str)(sp:Sp):Prop where
 len: ∀vs H Q E,sp vs H Q E->vs.length=ps.length
 run: ∀(A:Around) (outer:List Env) (s:Shared) (H:Hp) (args:Args) (us:List Value) (vs:List V) (Q:VK) (E:XK),cV k A->aB5 P w K mg base A outer s H->BindsTo s fd args (ps.zip us)->aZ vs us->sp vs H Q E->
  codeAny (model P w) A (.call (.ref f) args) (CR CX outer P w H s Q E) s
theorem kI.mono {P:Program}{w:World}{K:PySem.W.Frag}{mg:Str->Option Value}{base:Heap}{CX:CXT}{j k:Nat}{f:Addr}{fd:FuncData}{ps:List Str}{sp:Sp}(F:kI P w K mg base CX j f fd ps sp)(h:j<=k) :
  kI P w K mg base CX k f fd ps sp:=⟨F.len,λA outer s H args us vs Q E hr=>F.run A outer s H args us vs Q E (hr.mono h)⟩
theorem kI.imp {P:Program}{w:World}{K:PySem.W.Frag}{mg:Str->Option Value}{base:Heap}{CX:CXT}{k:Nat}{f:Addr}{fd:FuncData}{ps:List Str}{sp sp':Sp}(F:kI P w K mg base CX k f fd ps sp)
  (h: ∀vs H Q E,sp' vs H Q E->sp vs H Q E):kI P w K mg base CX k f fd ps sp':=
 ⟨λvs H Q E q=>F.len vs H Q E (h _ _ _ _ q),λA outer s H args us vs Q E hr he hb hv hs=>F.run A outer s H args us vs Q E hr he hb hv (h _ _ _ _ hs)⟩
theorem aB5.in1 {P:Program}{w:World}{K:PySem.W.Frag}{mg:Str->Option Value}{base:Heap}{A:Around}{outer:List Env}{s:Shared}{H:Hp}(e:aB5 P w K mg base A outer s H) :
  aB5 P w K mg base A.in1 outer s H:=⟨e.frames,e.mod,e.bs,e.bsz,e.funs,e.frf,e.hok,e.bare⟩
section
variable {X:Cx}{pins:List (Addr×Obj)}{σ:St}{H:Hp}{s s':Shared}
theorem Inv.env0 (I:Inv X pins σ H s):aB5 X.prog X.w X.K X.mg X.base X.A X.stack s H:=
 ⟨I.ok.frames,I.ok.mod,I.bs,le_trans I.ok.bsz I.sz,I.stack,I.stkFree,I.hok,I.bare⟩
theorem Inv.after {Q:VK}{u:Value}(I:Inv X pins σ H s)(h:CE X.stack X.prog X.w H s Q u s'):EP X pins σ Q u s':=by
 obtain⟨v,H',os,bare,un,hok,r,q⟩:=h;obtain⟨hh,g,d,t,os'⟩:=s';obtain rfl:os'=s.os:=os;exact⟨v,H',I.call (h':=hh) (g':=g) (d':=d) (t':=t) (ch:=[]) un hok bare (λb z=>absurd z (by simp)),r,q⟩
end
def aG2 (sp:Sp)(dvs:List V)(E:XK)(t:TA):TE:=λσ H Q=>t σ H λvs H1=>sp (vs++dvs) H1 Q E
def Binds (K:PySem.W.Frag)(fd:FuncData)(ps:List Str)(ds:List Value):Prop:=
 ∀(s:Shared) (us:List Value),K.In s.heap->(us++ds).length=ps.length->BindsTo s fd ⟨us,[]⟩ (ps.zip (us++ds))
theorem Binds.all {K:PySem.W.Frag}{fd:FuncData}{ps:List Str}(h: ∀us:List Value,us.length=ps.length->bindArgs fd ⟨us,[]⟩=pure (ps.zip us)):Binds K fd ps []:=λs us _ hl=>by
 rw[append_nil]at hl⊢;exact .of_eq (h us hl)
def jN (CX:CXT)(X:Cx)(E:XK):Prop:= ∀(pins:List (Addr×Obj)) (σ:St) (H:Hp) (s:Shared) (e:Value) (s':Shared),Inv X pins σ H s->CX X.stack H s E e s'->X.xe e s'
section
variable {X:Cx}{CX:CXT}{k:Nat}{f C:Addr}{fd:FuncData}{ps:List Str}{sp:Sp}{dvs:List V}{ds:List Value}{E:XK}{x m:Str}{p pos apos:Pos}{e o:Expr}{es:List Expr}{ta:TE}{t:TA}
theorem aP8 {pins:List (Addr×Obj)}{σ:St}{H:Hp}{s:Shared}{Q:VK}{us:List Value}{vs:List V}(F:kI X.prog X.w X.K X.mg X.base CX k f fd ps sp)(hr:cV k X.A)(hb:Binds X.K fd ps ds)(hd:aZ dvs ds)(hx:jN CX X E)
  (I:Inv X pins σ H s) (r:aZ vs us) (h:sp (vs++dvs) H Q E):wpAny (model X.prog X.w) X.A (call (.ref f) us) (EP X pins σ Q) X.xe s:=by
 have r2:aZ (vs++dvs) (us++ds):=r.append hd;have hl:(us++ds).length=ps.length:=by rw[<-r2.length];exact F.len _ _ _ _ h
 refine wpAny_call (codeAny_mono (F.run X.A X.stack s H ⟨us,[]⟩ (us++ds) (vs++dvs) Q E hr I.env0 (hb s us I.kIn hl) r2 h) λr s' hq=> ?_)
 cases r with
 | error e=>exact hx pins σ H s e s' I hq
 | ok fl=>
  cases fl with
  | ret u=>exact I.after hq
  | next=>exact False.elim hq
  | brk=>exact False.elim hq
  | cont=>exact False.elim hq
theorem zN (F:kI X.prog X.w X.K X.mg X.base CX k f fd ps sp)(hr:cV k X.A)(hg:Gl X x)(hm:X.mg x=some (.ref f))(hk:keepIn X.K (.ref f)=true)(hb:Binds X.K fd ps ds)(hd:aZ dvs ds)(hx:jN CX X E)
  (ha:PA X (e::es) t) (hdb:(x==("__debug__":Str))=false:=by decide) (he:starEach (e::es) X.env=(false,eval e X.env)::starEach es X.env:=by rfl) (hpl:(backTo pos (starEach es X.env)).any (·.1)=false:=by rfl) :
  PE X (.Call (.Name x p) (e::es) [] pos) (aG2 sp dvs E t):=by
 intro pins s σ H Q I h;refine wpAny_Call_Name_kw (qC I hg hm ?_ hdb);refine PySem.W.callWith_K (h₀:=X.base) I.ok.mod.kin hk (thn (ha pos pins s σ H _ I h) λus s1 ⟨vs,H1,I1,r,q⟩=>⟨I1.kIn,?_⟩) he hpl
 exact aP8 F hr hb hd hx I1 r q
theorem aP9 (F:kI X.prog X.w X.K X.mg X.base CX k f fd ps sp)(hr:cV k X.A)(hg:Gl X x)(hm:X.mg x=some (.ref f))(hk:keepIn X.K (.ref f)=true)(hb:Binds X.K fd ps ds)(hd:aZ dvs ds)(hx:jN CX X E)
  (hdb:(x==("__debug__":Str))=false:=by decide):PE X (.Call (.Name x p) [] [] pos) (aG2 sp dvs E tNil):=by
 intro pins s σ H Q I h;refine wpAny_Call_Name_kw (qC I hg hm ?_ hdb);exact PySem.W.callWith_K0 I.kIn hk (aP8 (us:=[]) F hr hb hd hx I .nil h)
end
section
variable {X:Cx}{CX:CXT}{k:Nat}{f C:Addr}{fd:FuncData}{ps ks:List Str}{sp:Sp}{E:XK}{x m:Str}{p pos apos kpos:Pos}{e o:Expr}{es:List Expr}{kws:List Keyword}{te ta:TE}{t tk:TA}{nm:Option Str}
variable {g:List Value->List Value->List Value}{gV:List V->List V->List V}
end
structure aS (N P:List Str)(sc:Scope):Prop where
 kind:sc.kind= .function
 co:sc.isCoroutine=false
 gen:sc.isGenerator=false
 nd:N.Nodup
 pre:N.take P.length=P
 par: ∀x∈P,sc.names.lookup x=some .local\/sc.names.lookup x=some .cell
 nofree: ∀y∈sc.names,y.2≠ .free
theorem yC {kindOf:Str->Option NameKind}{x:Str}: ∀{binds:List (Str×Value)} {m:Str->Option Value},(∀v,(x,v) ∉ binds)->bindL kindOf binds m x=m x
 | [],_,_=>rfl
 | (n,v)::r,m,h=>by
  unfold bindL;rw[yC λw hw=>h w (mem_cons_of_mem _ hw)]
  split
  ·have:x≠n:=by rintro rfl;exact h v mem_cons_self
   simp[this]
  ·rfl
theorem yD {kindOf:Str->Option NameKind}{x:Str}: ∀{binds:List (Str×Value)} {m:Str->Option Value},(∀v,(x,v) ∉ binds)->bindC kindOf binds m x=m x
 | [],_,_=>rfl
 | (n,v)::r,m,h=>by
  unfold bindC;rw[yD λw hw=>h w (mem_cons_of_mem _ hw)]
  split
  ·rfl
  ·have:x≠n:=by rintro rfl;exact h v mem_cons_self
   simp[this]
theorem yE {kindOf:Str->Option NameKind}{x:Str}{v:Value}: ∀{P:List Str} {vs:List Value} {i:Nat} {m:Str->Option Value},P.Nodup->P[i]? =some x->vs[i]? =some v->kindOf x=some .local->
  bindL kindOf (P.zip vs) m x=some v
 | [],_,_,_,_,h,_,_=>by simp at h
 | _::_,[],_,_,_,_,h,_=>by simp at h
 | p::P,w::vs,0,m,nd,h1,h2,hk=>by
  simp at h1 h2;subst h1;subst h2
  show bindL kindOf ((p,w)::P.zip vs) m p=_
  unfold bindL;rw[yC λv hv=>(List.nodup_cons.mp nd).1 (of_mem_zip hv).1,if_pos hk]
  simp
 | p::P,w::vs,i+1,m,nd,h1,h2,hk=>by
  show bindL kindOf ((p,w)::P.zip vs) m x=_
  unfold bindL;exact yE (i:=i) (List.nodup_cons.mp nd).2 (by simpa using h1) (by simpa using h2) hk
theorem yF {kindOf:Str->Option NameKind}{x:Str}{v:Value}: ∀{P:List Str} {vs:List Value} {i:Nat} {m:Str->Option Value},P.Nodup->P[i]? =some x->vs[i]? =some v->kindOf x≠some .local->
  bindC kindOf (P.zip vs) m x=some v
 | [],_,_,_,_,h,_,_=>by simp at h
 | _::_,[],_,_,_,_,h,_=>by simp at h
 | p::P,w::vs,0,m,nd,h1,h2,hk=>by
  simp at h1 h2;subst h1;subst h2
  show bindC kindOf ((p,w)::P.zip vs) m p=_
  unfold bindC;rw[yD λv hv=>(List.nodup_cons.mp nd).1 (of_mem_zip hv).1,if_neg hk]
  simp
 | p::P,w::vs,i+1,m,nd,h1,h2,hk=>by
  show bindC kindOf ((p,w)::P.zip vs) m x=_
  unfold bindC;exact yF (i:=i) (List.nodup_cons.mp nd).2 (by simpa using h1) (by simpa using h2) hk
def start (N:List Str)(vs:List V):St:=vs.map some++replicate (N.length-vs.length) none
def jO (CX:CXT)(P:Program)(w:World)(K:PySem.W.Frag)(mg:Str->Option Value)(base:Heap)(N:List Str)(qual:Str)(scope:Scope)(f:Addr)(cd:Value)(A:Around)(outer:List Env)(s:Shared)(H:Hp)(E:XK):Cx where
 prog:=P
 w:=w
 K:=K
 mg:=mg
 base:=base
 A:=A.deeper (envOfC qual scope s.heap.objs.size f cd)
 N:=N
 s₀:=s
 H₀:=H
 env:=envOfC qual scope s.heap.objs.size f cd
 outer:=outer
 stack:=envOfC qual scope s.heap.objs.size f cd::outer
 ex:=[]
 calm:=true
 fn:=λ_=>true
 pn:=[]
 xe:=λe s'=>wpAny (model P w) (A.deeper (envOfC qual scope s.heap.objs.size f cd)) (leaving (envOfC qual scope s.heap.objs.size f cd) e) (λ_ s''=>CX outer H s E e s'') (λe' s''=>CX outer H s E e' s'') s'
theorem a54 {sc:Scope}{n:Nat}{x:Str}(h:sc.names.lookup x=some .cell): ∃c,(cellsFrom n sc.names []).lookup x=some c:=by
 have q:=cellsFrom_some sc.names n [] (.inl h);exact Option.isSome_iff_exists.mp q
theorem aK9 {CX:CXT}{P:Program}{w:World}{K:PySem.W.Frag}{mg:Str->Option Value}{base:Heap}{N ps:List Str}{qual:Str}{scope:Scope}{f:Addr}{cd:Value}{A:Around}{outer:List Env}{s s1:Shared}{H:Hp}{E:XK}{us:List Value}{vs:List V}
  (S:aS N ps scope) (hd:A.handled=none) (e0:aB5 P w K mg base A outer s H) (hl:vs.length=ps.length) (r:aZ vs us)
  (x:InCallC s s.heap.objs.size (bindL (envOfC qual scope s.heap.objs.size f cd).kindOf (ps.zip us) λ_=>none) (cellsFrom (s.heap.objs.size+1) scope.names []) (bindC (envOfC qual scope s.heap.objs.size f cd).kindOf (ps.zip us) λ_=>none) s1) :
  Inv (jO CX P w K mg base N qual scope f cd A outer s H E) [] (start N vs) H s1:=by
 have hpl:ps.length<=N.length:=by have:=congrArg length S.pre;rw[length_take]at this;lia
 obtain⟨h1,tk,rfl,hk⟩:=x.done;have noA: ∀b:Addr,b ∉ (jO CX P w K mg base N qual scope f cd A outer s H E).ex:=λb z=>absurd (show b∈([]:List Addr)from z) (by simp)
 refine⟨⟨e0.mod,S.kind,rfl,rfl,le_refl _,λy z c h1 h2=> ?_,λy hy=> ?_,λy c _ h=> ?_,λ_=>hd,Around.frames_deeper e0.frames,.inr ⟨rfl,rfl⟩,λb z=>absurd z (noA b),e0.bs,e0.bsz,λb _ _=>noA b,λb z=>absurd z (noA b),e0.funs,e0.frf⟩,
  rfl,e0.bare,Un.kept hk,⟨_,x.toInCall.ns,λi y v h1 h2 h3=> ?_⟩,λy c h=>⟨_,x.cell y c h⟩,e0.hok.fresh (le_refl _),λy c h=> ?_,λp hp=>absurd (show p∈([]:List (Addr×Obj))from hp) (by simp),e0.hok.kept hk,?_⟩
 ·exact name_of_addr x.apart (PySem.mem_of_lookup h1) (PySem.mem_of_lookup h2)
 ·have hy:scope.names.lookup y=some .cell\/scope.names.lookup y=some .free:=hy;rcases hy with hy|hy
  ·exact a54 hy
  ·exact absurd rfl (S.nofree _ (PySem.mem_of_lookup hy))
 ·exact le_of_lt (x.above y c (PySem.mem_of_lookup h))
 ·have hi:i<vs.length:=by
   unfold start at h2
   by_cases hi:i<vs.length
   ·exact hi
   ·rw[List.getElem?_append_right (by simpa using hi)]at h2
    rw[List.getElem?_replicate]at h2;split at h2<;>cases h2
  have ha:vs[i]? =some v:=by
   unfold start at h2;rw[getElem?_append_left (by simpa using hi),getElem?_map]at h2
   cases e:vs[i]? with
   | none=>rw[e]at h2;cases h2
   | some a=>rw[e]at h2;cases h2;rfl
  obtain⟨u,hu,rv⟩:=r.get ha;have hp:ps[i]? =some y:=by
   rw[<-S.pre,List.getElem?_take_of_lt (by lia)];exact h1
  have ndP:ps.Nodup:=by rw[<-S.pre];exact S.nd.sublist (List.take_sublist _ _)
  refine⟨u,rv,?_⟩
  rcases S.par y (List.mem_of_getElem? hp)with k|k
  ·exact .inl ⟨k,yE ndP hp hu k⟩
  ·obtain⟨c,e⟩:=a54 (n:=s.heap.objs.size+1) k;refine .inr ⟨.inl k,c,e,?_⟩;have q:=x.cell y c e;rw[yF ndP hp hu (by show scope.names.lookup y≠_;rw[k];decide)]at q
   exact q
 ·exact e0.hok.fresh (le_of_lt (x.above y c (PySem.mem_of_lookup h)))
 ·unfold start;show _=N.length;rw[length_append,length_map,List.length_replicate]
  lia
theorem b80 {CX:CXT}{P:Program}{w:World}{K:PySem.W.Frag}{mg:Str->Option Value}{base:Heap}{k:Nat}{f:Addr}{name qual:Str}{params:Arguments}{body:List Stmt}{scope:Scope}{dV kV doc pm cdv ct oc:Value}{an od:Option Addr}
  {osl:Array (Option Value)} {N ps:List Str} {sp:Sp} (lk:K.lookup f=some ⟨oc,od,.func (fnOf name qual params body scope dV kV doc pm an cdv ct),osl⟩) (hcd:codeIn K cdv qual=true) (S:aS N ps scope)
  (len: ∀vs H Q E,sp vs H Q E->vs.length=ps.length)
  (hbody: ∀(A:Around) (outer:List Env) (s:Shared) (H:Hp) (vs:List V) (Q:VK) (E:XK),cV k (A.deeper (envOfC qual scope s.heap.objs.size f cdv))->sp vs H Q E->
   ∃t,PSs (jO CX P w K mg base N qual scope f cdv A outer s H E) body t/\t {nx:=λ_ H'=>Q .non H',rt:=Q} (start N vs) H) :
  kI P w K mg base CX (k+1) f (fnOf name qual params body scope dV kV doc pm an cdv ct) ps sp:=by
 refine⟨len,λA outer s H args us vs Q E hr e0 hb r hsp=> ?_⟩
 have hl:=len _ _ _ _ hsp;have KX:K.In s.heap:=e0.mod.kin.keeps λb o e=>(e0.bs b o e).1
 have lim:s.heap.NoLimit:=e0.mod.nolimit.keeps λb o e=>(e0.bs b o e).1
 have hkind: ∀y∈ps.zip us,scope.names.lookup y.1=some .local\/(scope.names.lookup y.1=some .cell/\((cellsFrom (s.heap.objs.size+1) scope.names []).lookup y.1).isSome=true):=λ⟨n,v⟩ hy=>by
  rcases S.par n (of_mem_zip hy).1 with q|q
  ·exact .inl q
  ·exact .inr ⟨q,cellsFrom_some _ _ _ (.inl q)⟩
 refine codeAny_call_function hr.depth (KX _ _ lk) rfl S.co S.gen rfl (PySem.W.codeRec_of KX hcd) (hb _ _ _ _ ?_)
 refine wpAny_newFunctionEnv_cells S.kind hkind λenv he s1 x=> ?_
 subst he;refine⟨lim.keeps x.toInCall.keep,codeAny_func ?_⟩;obtain⟨t,ht,hq⟩:=hbody A outer s H vs Q E (hr.deeper _) hsp;have I:Inv (jO CX P w K mg base N qual scope f cdv A outer s H E) [] (start N vs) H s1:=aK9 S hr.hd e0 hl r x;refine wpAny_mono (ht [] s1 (start N vs) H _ I hq) (λfl s' hs=> ?_) λe s' hs=>hs
 have fin: ∀{σ':St} {H':Hp} {v:V} {u:Value},Inv (jO CX P w K mg base N qual scope f cdv A outer s H E) [] σ' H' s'->RelV v u->Q v H'->CE outer P w H s Q u s':=
  λ{σ' H' v u} J rv q=>⟨v,H',J.os,J.bare,J.base,J.hok,rv,q⟩
 cases fl with
 | ret u=>
  obtain⟨v,σ',H',J,rv,q⟩:=hs;exact fin J rv q
 | next=>
  obtain⟨σ',H',J,q⟩:=hs;exact fin (v:=V.non) (u:=Value.none) J rfl q
 | brk=>
  obtain⟨_,_,_,q⟩:=hs;exact False.elim q
 | cont=>
  obtain⟨_,_,_,q⟩:=hs;exact False.elim q
end L2
namespace L2
open PySem PySem.Spec PyProof.Rows
section
variable {X:Cx}{x:Str}{p pos:Pos}{e:Expr}{es:List Expr}{t:TA}{id T:String}{r:List V->Hp->VK->Prop}
def tCB (r:List V->Hp->VK->Prop)(t:TA):TE:=λσ H Q=>t σ H λvs H1=>r vs H1 Q
theorem a55 (hc:fR X (.builtin id) r)(hg:Gl X x)(hm:X.mg x=none)(hv:bootBuiltins x=some (.builtin id))(ha:PA X (e::es) t)(hn:x≠"__name__":=by decide)(hdb:(x==("__debug__":Str))=false:=by decide)
  (he:starEach (e::es) X.env=(false,eval e X.env)::starEach es X.env:=by rfl) (hpl:(backTo pos (starEach es X.env)).any (·.1)=false:=by rfl):PE X (.Call (.Name x p) (e::es) [] pos) (tCB r t):=by
 intro pins s σ H Q I h;refine wpAny_Call_Name_kw (zI I hg hm hv ?_ hn hdb);exact PyProof.Rows.callWith_builtin1 (thn (ha pos pins s σ H _ I h) λus s1 ⟨vs,H1,I1,r1,q1⟩=>hc pins s1 σ H1 vs us Q I1 r1 q1) he hpl
theorem yG (hc:fR X (.type T) r)(hg:Gl X x)(hm:X.mg x=none)(hv:bootBuiltins x=some (.type T))(ha:PA X (e::es) t)(hn:x≠"__name__":=by decide)(hdb:(x==("__debug__":Str))=false:=by decide)
  (he:starEach (e::es) X.env=(false,eval e X.env)::starEach es X.env:=by rfl) (hpl:(backTo pos (starEach es X.env)).any (·.1)=false:=by rfl):PE X (.Call (.Name x p) (e::es) [] pos) (tCB r t):=by
 intro pins s σ H Q I h;refine wpAny_Call_Name_kw (zI I hg hm hv ?_ hn hdb);exact PyProof.Rows.callWith_type1 (thn (ha pos pins s σ H _ I h) λus s1 ⟨vs,H1,I1,r1,q1⟩=>hc pins s1 σ H1 vs us Q I1 r1 q1) he hpl
end
end L2
namespace HT
open PySem PyProof.Rows
section
open PySem.SeqAt
open PySem.AutoSeq1 (wpAny_loadPart')
open PySem.MeetsSeq PySem.MeetsSeq2 PySem.MeetsSeq3
end
section
variable {prog:Program}{w:World}{A:Around}{E:Value->Shared->Prop}{s:Shared}
theorem cat_tup {t b:Addr}{vs ws:List Value}{Q:Value->Shared->Prop}(ht:IsTup s.heap t vs.toArray)(hb:IsTup s.heap b ws.toArray)(hv:vs≠[])
  (h1:ws=[]->Q (.ref t) s) (h2:ws≠[]->Q (.ref s.heap.objs.size) {s with heap:=s.heap.push {cls:= .type "tuple",data:= .seq (vs++ws).toArray}})
  (hsz:vs.length+ws.length<=sizeLine):wpAny (model prog w) A (binaryOp .Add (.ref t) (.ref b)) Q E s:=by
 obtain⟨⟨cls,dd,data,sl⟩,ho,hc,n,hd⟩:=id ht;obtain⟨⟨cls2,dd2,data2,sl2⟩,ho2,hc2,n2,hd2⟩:=id hb;simp only at hc hd hc2 hd2;subst hc hd hc2 hd2;have e:vs.toArray++ws.toArray=(vs++ws).toArray:=by simp
 by_cases hw:ws=[]
 ·exact concat_meets ⟨_,ho,rfl⟩ ⟨_,ho2,rfl⟩ noFill_tuple_add seq_tuple_add PySem.F.slot_tuple_add PySem.F.entry_tuple_add (PySem.F.args_tuple_add_2 _ _)
   (tuple_addW1 t b vs.toArray ws.toArray n n2 dd dd2 sl sl2 (by simpa using hv) (by simp[hw])) ⟨ho,ho2,h1 hw⟩
 ·refine concat_meets ⟨_,ho,rfl⟩ ⟨_,ho2,rfl⟩ noFill_tuple_add seq_tuple_add PySem.F.slot_tuple_add PySem.F.entry_tuple_add (PySem.F.args_tuple_add_2 _ _)
   (tuple_addW2 t b vs.toArray ws.toArray n n2 dd dd2 sl sl2 (by simpa using hv) (by simpa using hw) (by rw[size_toArray,size_toArray];exact hsz)) ⟨ho,ho2,?_⟩
  rw[e];exact h2 hw
def sIx (n d:Nat):Option Int->Nat
 | none=>d
 | some v=>if v<0 then(v+(n:Int)).toNat else min v.toNat n
theorem sIx_none (n d:Nat):sIx n d none=d:=rfl
theorem sIx_nat (n d k:Nat):sIx n d (some (k:Int))=min k n:=by
 show(if(k:Int)<0 then((k:Int)+(n:Int)).toNat else min (k:Int).toNat n)=min k n
 rw[if_neg (by lia),toNat_natCast]
theorem sIx_le (n d:Nat)(hd:d<=n)(o:Option Int):sIx n d o<=n:=by
 cases o with
 | none=>exact hd
 | some v=>
  show(if v<0 then(v+(n:Int)).toNat else min v.toNat n)<=n
  by_cases hv:v<0
  ·rw[if_pos hv];lia
  ·rw[if_neg hv];exact Nat.min_le_right _ _
theorem aG3 (v:Int)(n d:Nat):(if v<0 then max (v+(n:Int)) 0 else min v (n:Int))=((sIx n d (some v):Nat):Int):=by
 show(if v<0 then max (v+(n:Int)) 0 else min v (n:Int))=(((if v<0 then(v+(n:Int)).toNat else min v.toNat n):Nat):Int)
 by_cases hv:v<0
 ·simp only[if_pos hv];lia
 ·simp only[if_neg hv];lia
theorem aB6 (lo hi:Option Int)(n:Nat):Builtin.Slice.sliceAdjust lo hi 1 (n:Int)=(((sIx n 0 lo:Nat):Int),((sIx n n hi:Nat):Int)):=by
 have h1: ¬((1:Int)<0):=by lia
 unfold Builtin.Slice.sliceAdjust;simp only[h1,if_false];refine Prod.ext ?_ ?_
 ·cases lo with
  | none=>rfl
  | some v=>exact aG3 v n 0
 ·cases hi with
  | none=>rfl
  | some v=>exact aG3 v n n
theorem aB7 (i j:Nat):Builtin.Slice.slicePlaces (i:Int) (j:Int) 1=j-i:=by
 unfold Builtin.Slice.slicePlaces;have h1:(1:Int)>0:=by lia
 simp only[h1,if_true,Int.ediv_one];split<;>lia
theorem vW {v:Value}{o:Option Int}{Q:Option Int->Shared->Prop}(p:IsPart v o)(h:Q o s):wpAny (model prog w) A (Builtin.Slice.slicePartIndex v) Q E s:=by
 cases p with
 | none=>exact slicePart_none h
 | int i t=>exact slicePart_int h
theorem lQ {sl:Addr}{vl vu:Value}{lo hi:Option Int}{n:Nat}{Q:Int×Int×Nat->Shared->Prop}(hs:s.heap.IsSliceOf sl vl vu .none)(pl:IsPart vl lo)(pu:IsPart vu hi)
  (h:Q (((sIx n 0 lo:Nat):Int),1,sIx n n hi-sIx n 0 lo) s):wpAny (model prog w) A (Builtin.Slice.sliceApplied (.ref sl) (pure (n:Int))) Q E s:=by
 obtain⟨os,hos,hcs,hds⟩:=id hs;unfold Builtin.Slice.sliceApplied Builtin.Slice.sliceFields;refine wpAny_bind (wpAny_bind (wpAny_field hos hds (x:=vl) rfl (wpAny_bind (wpAny_field hos hds (x:=vu) rfl (wpAny_bind (wpAny_field hos hds (x:= .none) rfl (wpAny_pure ?_)))))));refine wpAny_bind (slicePart_none ?_);show wpAny _ _ (if((1:Int)==0)=true then _ else _) _ _ s;rw[if_neg (by decide)]
 refine wpAny_bind (vW pl (wpAny_bind (vW pu (wpAny_bind (wpAny_pure ?_)))))
 show wpAny _ _ (match Builtin.Slice.sliceAdjust lo hi 1 (n:Int)with| (lo,hi)=>pure (lo,(1:Int),Builtin.Slice.slicePlaces lo hi 1)) _ _ s
 rw[aB6 lo hi n];show wpAny _ _ (pure (((sIx n 0 lo:Nat):Int),(1:Int),Builtin.Slice.slicePlaces ((sIx n 0 lo:Nat):Int) ((sIx n n hi:Nat):Int) 1)) _ _ s;rw[aB7];exact wpAny_pure h
theorem aQ0 (xs:Array Value)(i k:Nat):((range k).filterMap fun(m:Nat)=>xs[((i:Int)+(m:Int)*1).toNat]?).toArray=((xs.toList.drop i).take k).toArray:=by
 have e:(fun(m:Nat)=>xs[((i:Int)+(m:Int)*1).toNat]?)=λm=>xs[i+m]? :=by
  funext m
  have:((i:Int)+(m:Int)*1).toNat=i+m:=by lia
  rw[this]
 rw[e];have:=pick_run xs i k;rw[List.filterMap_map]at this;have e2:((λx=>xs[x]?)∘λx=>i+x)=λm=>xs[i+m]? :=rfl
 rw[e2]at this;rw[this]
theorem getItem_tuple_cut {t sl:Addr}{items:Array Value}{vl vu:Value}{lo hi:Option Int}{Q:Value->Shared->Prop}(ht:IsTup s.heap t items)(hs:s.heap.IsSliceOf sl vl vu .none)(pl:IsPart vl lo)(pu:IsPart vu hi)
  (hw: ¬(sIx items.size 0 lo=0/\sIx items.size items.size hi=items.size))
  (h:Q (.ref s.heap.objs.size) {s with heap:=s.heap.push {cls:= .type "tuple",data:= .seq ((items.toList.drop (sIx items.size 0 lo)).take (sIx items.size items.size hi-sIx items.size 0 lo)).toArray}})
  (hsz:items.size<=sizeLine):wpAny (model prog w) A (getItem (.ref t) (.ref sl)) Q E s:=by
 have htake:sizeOk (.seq ((items.toList.drop (sIx items.size 0 lo)).take (sIx items.size items.size hi-sIx items.size 0 lo)).toArray):=by
  show((items.toList.drop (sIx items.size 0 lo)).take (sIx items.size items.size hi-sIx items.size 0 lo)).toArray.size<=sizeLine
  rw[size_toArray,length_take,length_drop,length_toList];omega
 have hj:sIx items.size items.size hi<=items.size:=sIx_le _ _ (le_refl _) hi;obtain⟨os,hos,hcs,hds⟩:=id hs;have hTs:s.TypeIs (.ref sl) "slice":=⟨os,hos,hcs⟩;unfold getItem;try with_reducible refine wpAny_holding ?_
 first|refine wpAny_bind (wpAny_pure ?_)|skip
 refine wpAny_bind (wpAny_sequenceKey ht.typeIs (by decide) ?_)
 refine wpAny_bind (wpAny_callSpecial?_slot (name:=Str.ofString "__getitem__") ht.typeIs PyProof.Rows.slot_tuple_getitem
  (wpAny_call_entry PyProof.Rows.slot_tuple_getitem ht.typeIs entry_tuple_getitem ?_ (args_tuple_getitem _ _)))
 show wpAny _ _ (Builtin.Tuple.tupleItemsOf (.ref t) >>= _) _ _ s
 refine wpAny_bind (tupleItemsOf_ ht ?_)
 refine wpAny_bind (wpAny_typeOf hTs ?_)
 rw[if_pos (by decide)]
 refine wpAny_bind (lQ hs pl pu ?_)
 have hno: ¬((((sIx items.size 0 lo:Nat):Int)==0&&(1:Int)==1&&(sIx items.size items.size hi-sIx items.size 0 lo)==items.size)=true):=by
  intro q;rw[and_eq_true,and_eq_true]at q;have q1:((sIx items.size 0 lo:Nat):Int)=0:=eq_of_beq q.1.1;have q2:sIx items.size items.size hi-sIx items.size 0 lo=items.size:=eq_of_beq q.2;exact hw ⟨by omega,by omega⟩
 show wpAny _ _ (if(((sIx items.size 0 lo:Nat):Int)==0&&(1:Int)==1&&(sIx items.size items.size hi-sIx items.size 0 lo)==items.size)=true then _ else _) _ _ s
 rw[if_neg hno,aQ0]
 first
  | exact wpAny_bind (m:=Builtin.Tuple.tupleExact _) (wpAny_newObj_type (wpAny_pure ⟨_,rfl,wpAny_pure h⟩) htake)
  | exact wpAny_bind (m:=Builtin.Tuple.tupleExact _) (wpAny_newObj_type (wpAny_bind (wpAny_pure (wpAny_pure ⟨_,rfl,wpAny_pure h⟩))) htake)
  | exact wpAny_bind (wpAny_bind (m:=Builtin.Tuple.tupleExact _) (wpAny_newObj_type (wpAny_pure (wpAny_pure ⟨_,rfl,wpAny_pure h⟩)) htake))
  | exact wpAny_bind (wpAny_bind (m:=Builtin.Tuple.tupleExact _) (wpAny_newObj_type (wpAny_pure ⟨_,rfl,wpAny_pure h⟩) htake))
end
end HT
namespace L2
open PySem PySem.Spec PyProof.Rows
abbrev TO:=St->Hp->(Option Int->Hp->Prop)->Prop
def PO (X:Cx)(e:Option Expr)(t:TO):Prop:=
 ∀(pins:List (Addr×Obj)) (s:Shared) (σ:St) (H:Hp) (Q:Option Int->Hp->Prop),Inv X pins σ H s->t σ H Q->
  wpAny (model X.prog X.w) X.A (evalPart e X.env) (λu s'=> ∃o H',Inv X pins σ H' s'/\IsPart u o/\Q o H') X.xe s
def b04:TO:=λ_ H Q=>Q none H
def tPart (t:TE):TO:=λσ H Q=>t σ H λx H1=> ∃i,x= .int i/\Q (some i) H1
section
variable {X:Cx}{e:Expr}{te:TE}{lo hi:Option Expr}{tl th:TO}{pos p2:Pos}
theorem b05:PO X none b04:=by
 intro pins s σ H Q I h;rw[evalPart_none];exact wpAny_pure ⟨none,H,I,.none,h⟩
theorem aG4 (h:PE X e te):PO X (some e) (tPart te):=by
 intro pins s σ H Q I hw;rw[evalPart_some];refine thn (h pins s σ H _ I hw) λu s1 ⟨x,H1,I1,r1,q1⟩=> ?_
 obtain⟨i,rfl,q⟩:=q1;obtain⟨t,rfl⟩:=r1;exact⟨some i,H1,I1,.int i t,q⟩
def SlR (X:Cx)(r:V->Option Int->Option Int->Hp->VK->Prop):Prop:=
 ∀(pins:List (Addr×Obj)) (s:Shared) (σ:St) (H:Hp) (x:V) (v vl vu:Value) (lo hi:Option Int) (sl:Addr) (Q:VK),Inv X pins σ H s->RelV x v->s.heap.IsSliceOf sl vl vu .none->IsPart vl lo->IsPart vu hi->r x lo hi H Q->
  ∃T id,typeLookup (.type T) "__getitem__"=pure (some (.builtin id))/\s.TypeIs v T/\wpAny (model X.prog X.w) X.A (getItem v (.ref sl)) (EP X pins σ Q) X.xe s
theorem SlR.or {r r':V->Option Int->Option Int->Hp->VK->Prop}(h:SlR X r)(h':SlR X r'):SlR X (λx lo hi H Q=>r x lo hi H Q\/r' x lo hi H Q):=by
 intro pins s σ H x v vl vu lo hi sl Q I rx hs pl pu q;rcases q with q|q
 ·exact h pins s σ H x v vl vu lo hi sl Q I rx hs pl pu q
 ·exact h' pins s σ H x v vl vu lo hi sl Q I rx hs pl pu q
def tSl (r:V->Option Int->Option Int->Hp->VK->Prop)(te:TE)(tl th:TO):TE:=λσ H Q=>te σ H λx H1=>tl σ H1 λl H2=>th σ H2 λu H3=>r x l u H3 Q
theorem vX {r:V->Option Int->Option Int->Hp->VK->Prop}(hr:SlR X r)(he:PE X e te)(hl:PO X lo tl)(hu:PO X hi th):PE X (.Subscript e (.Slice lo hi none p2) pos) (tSl r te tl th):=by
 intro pins s σ H Q I h;refine Subscript_ (thn (he pins s σ H _ I h) λv s1 ⟨x,H1,I1,r1,q1⟩=> ?_)
 refine wpAny_Slice (thn (hl pins s1 σ H1 _ I1 q1) λvl s2 ⟨l,H2,I2,pl,q2⟩=>thn (hu pins s2 σ H2 _ I2 q2) λvu s3 ⟨u,H3,I3,pu,q3⟩=> ?_)
 rw[evalPart_none];refine wpAny_pure ?_;have I4:Inv X pins σ H3 {s3 with heap:=s3.heap.push {cls:= .type "slice",data:= .fields #[vl,vu,.none]}}:=I3.kept (t':=s3.toks) λb ob q=>get?_push_of_some _ q
 obtain⟨T,id,hT,ht,hg⟩:=hr pins {s3 with heap:=s3.heap.push {cls:= .type "slice",data:= .fields #[vl,vu,.none]}} σ H3 x v vl vu l u s3.heap.objs.size Q I4 r1 (Heap.IsSliceOf.new ..) pl pu q3;show wpAny (model X.prog X.w) X.A (subscriptTail e (.Slice lo hi none p2) v (.ref s3.heap.objs.size)) (EP X pins σ Q) X.xe {s3 with heap:=s3.heap.push {cls:= .type "slice",data:= .fields #[vl,vu,.none]}}
 exact tail_any (ops:=[.ref s3.heap.objs.size,v]) ht hT hg (by with_unfolding_all rfl)
def a56 (xs:List V)(lo hi:Option Int):List V:=(xs.drop (HT.sIx xs.length 0 lo)).take (HT.sIx xs.length xs.length hi-HT.sIx xs.length 0 lo)
theorem u4 (xs:List V)(lo hi:Option Int):(a56 xs lo hi).length<=xs.length:=by
 unfold a56;rw[length_take,length_drop]
 lia
def rSlT (K:PySem.W.Frag):V->Option Int->Option Int->Hp->VK->Prop:=λx lo hi H Q=> ∃a xs,x= .ref a/\SqT K H a xs/\
 ¬(HT.sIx xs.length 0 lo=0/\HT.sIx xs.length xs.length hi=xs.length)/\ ∀p,H p=none->Q (.ref p) (upd H p (.tup (a56 xs lo hi)))
theorem aQ1:SlR X (rSlT X.K):=by
 intro pins s σ H x v vl vu lo hi sl Q I rx hs pl pu h;obtain⟨a,xs,rfl,hx,hw,q⟩:=h;cases rx;obtain⟨its,r,ht,hz⟩:=I.tuple hx;have dR:its.toArray.size=xs.length:=by rw[size_toArray];exact r.length.symm
 refine⟨"tuple",_,PyProof.Rows.slot_tuple_getitem.lookup,ht.typeIs,?_⟩
 refine HT.getItem_tuple_cut ht hs pl pu (by rw[dR];exact hw) ?_ (by rw[dR];exact hz)
 rw[dR];refine⟨.ref s.heap.objs.size,_,I.laid (t':=s.toks) (o:= .tup (a56 xs lo hi)) (λb ob q=>get?_push_of_some _ q) (le_refl _) ?_,rfl,q _ (I.hok.fresh (le_refl _))⟩
 exact⟨le_trans (u4 xs lo hi) hz,_,(r.drop (HT.sIx xs.length 0 lo)).take (HT.sIx xs.length xs.length hi-HT.sIx xs.length 0 lo),IsTup.new _ _⟩
def rCatT (K:PySem.W.Frag):R2:=λx y H Q=> ∃a b xs ys,x= .ref a/\y= .ref b/\SqT K H a xs/\SqT K H b ys/\xs≠[]/\xs.length+ys.length<=sizeLine/\
 (ys=[]->Q (.ref a) H)/\(ys≠[]-> ∀p,H p=none->Q (.ref p) (upd H p (.tup (xs++ys))))
theorem aZ.nil_iff {xs:List V}{us:List Value}(r:aZ xs us):us=[]↔xs=[]:=by
 cases r with
 | nil=>simp
 | cons _ _=>simp
theorem b06:OpR X (binaryOp .Add) (rCatT X.K):=by
 intro pins s σ H x y v u Q I rx ry h;obtain⟨a,b,xs,ys,rfl,rfl,ha,hb,hx,hz,q1,q2⟩:=h;cases rx;cases ry;obtain⟨its,r1,p1,_⟩:=I.tuple ha;obtain⟨its2,r2,p2,_⟩:=I.tuple hb;refine HT.cat_tup p1 p2 (λz=>hx (r1.nil_iff.mp z)) (λz=>⟨.ref a,H,I,rfl,q1 (r2.nil_iff.mp z)⟩) (λz=> ?_) (by rw[<-r1.length,<-r2.length];exact hz)
 refine⟨.ref s.heap.objs.size,_,I.laid (t':=s.toks) (o:= .tup (xs++ys)) (λb ob q=>get?_push_of_some _ q) (le_refl _) ?_,rfl,q2 (λw=>z (r2.nil_iff.mpr w)) _ (I.hok.fresh (le_refl _))⟩
 exact⟨by rw[length_append];exact hz,_,r1.append r2,IsTup.new _ _⟩
end
end L2
namespace L2
open PySem PySem.Spec PyProof.Rows
def ixN (n:Nat)(i:Int):Option Nat:=if 0<=i then(if i<n then some i.toNat else none)else if -(n:Int)<=i then some (i+n).toNat else none
def atI {α:Type}(xs:List α)(i:Int):Option α:=(ixN xs.length i).bind λj=>xs[j]?
theorem b07 {n:Nat}{i:Int}{j:Nat}(h:ixN n i=some j):seqIndex? i n=some j/\j<n/\ -(n:Int)<=i/\i<n:=by
 unfold ixN at h
 by_cases h0:0<=i
 ·rw[if_pos h0]at h
  by_cases h1:i<n
  ·rw[if_pos h1]at h;have e:i.toNat=j:=Option.some.inj h;exact⟨by rw[seqIndex_of h0 h1,e],by lia,by lia,h1⟩
  ·rw[if_neg h1]at h;cases h
 ·rw[if_neg h0]at h
  by_cases h1: -(n:Int)<=i
  ·rw[if_pos h1]at h;have e:(i+n).toNat=j:=Option.some.inj h;exact⟨by rw[seqIndex_neg (by lia) h1,e],by lia,h1,by lia⟩
  ·rw[if_neg h1]at h;cases h
theorem zO {α:Type}{xs:List α}{i:Int}{v:α}(h:atI xs i=some v): ∃j,seqIndex? i xs.length=some j/\xs[j]? =some v/\j<xs.length/\ -(xs.length:Int)<=i/\i<xs.length:=by
 unfold atI at h;cases e:ixN xs.length i with
 | none=>rw[e]at h;cases h
 | some j=>
  rw[e]at h;obtain⟨h1,h2,h3,h4⟩:=b07 e;exact⟨j,h1,h,h2,h3,h4⟩
theorem aY {α:Type}{xs:List α}{j:Nat}{v:α}(h:xs[j]? =some v):atI xs (j:Int)=some v:=by
 have hj:j<xs.length:=(List.getElem?_eq_some_iff.mp h).1;have e:ixN xs.length (j:Int)=some j:=by
  unfold ixN;rw[if_pos (by lia),if_pos (by lia)];simp
 unfold atI;rw[e];exact h
def vD (b:Expr):Prop:= ∀o i,subscripted b false o i=operate [o,i] (getItem o i)
def IxR (X:Cx)(r:R2):Prop:=
 ∀(value slice:Expr) (pins:List (Addr×Obj)) (s:Shared) (σ:St) (H:Hp) (x y:V) (v u:Value) (Q:VK),Inv X pins σ H s->RelV x v->RelV y u->r x y H Q->
  subscripted slice false v u=operate [v,u] (getItem v u)->wpAny (model X.prog X.w) X.A (subscriptTail value slice v u) (EP X pins σ Q) X.xe s
def MtR (X:Cx)(id:String)(r:V->List V->Hp->VK->Prop):Prop:=
 ∀(pins:List (Addr×Obj)) (s:Shared) (σ:St) (H:Hp) (x:V) (xs:List V) (v:Value) (us:List Value) (Q:VK),Inv X pins σ H s->RelV x v->aZ xs us->r x xs H Q->
  wpAny (model X.prog X.w) X.A (call (.builtin id) (v::us)) (EP X pins σ Q) X.xe s
section
variable {X:Cx}{a b:Expr}{ta tb:TE}{pos:Pos}
theorem IxR.or {r r':R2}(h:IxR X r)(h':IxR X r'):IxR X (λx y H Q=>r x y H Q\/r' x y H Q):=by
 intro value slice pins s σ H x y v u Q I rx ry q hs;rcases q with q|q
 ·exact h value slice pins s σ H x y v u Q I rx ry q hs
 ·exact h' value slice pins s σ H x y v u Q I rx ry q hs
theorem MtR.or {id:String}{r r':V->List V->Hp->VK->Prop}(h:MtR X id r)(h':MtR X id r'):MtR X id (λx xs H Q=>r x xs H Q\/r' x xs H Q):=by
 intro pins s σ H x xs v us Q I rx rs q;rcases q with q|q
 ·exact h pins s σ H x xs v us Q I rx rs q
 ·exact h' pins s σ H x xs v us Q I rx rs q
theorem b81 {r:R2}(hr:IxR X r)(ha:PE X a ta)(hb:PE X b tb)(hs:vD b):PE X (.Subscript a b pos) (tOp r ta tb):=by
 intro pins s σ H Q I h;exact Subscript_ (binT ha hb I h λv u s2 x y H2 I2 rx ry q=>hr a b pins s2 σ H2 x y v u Q I2 rx ry q (hs _ _))
def rIxL (K:PySem.W.Frag):R2:=λx y H Q=> ∃p xs i v,x= .ref p/\y= .int i/\SqL K H p xs/\atI xs i=some v/\Q v H
def rIxT (K:PySem.W.Frag):R2:=λx y H Q=> ∃p xs i v,x= .ref p/\y= .int i/\SqT K H p xs/\atI xs i=some v/\Q v H
def rIxS:R2:=λx y H Q=> ∃z i c,x= .str z/\y= .int i/\z.length<=sizeLine/\atI z.cps.toList i=some c/\Q (.str ⟨#[c]⟩) H
theorem b08:IxR X (rIxL X.K):=by
 intro value slice pins s σ H x y v u Q I rx ry h hs;obtain⟨p,xs,i,z,rfl,rfl,hq,he,q⟩:=h;cases rx;obtain⟨t,rfl⟩:=ry;obtain⟨its,r,pl,hz⟩:=I.list hq;obtain⟨j,h1,h2,h3,h4,h5⟩:=zO he;obtain⟨w,ew,rw'⟩:=r.get h2;have hl:=r.length;have hn:=vV;have fin:EP X pins σ Q w s:=⟨z,H,I,rw',q⟩
 by_cases h0:0<=i
 ·have hj:i.toNat=j:=by
   rw[seqIndex_of h0 h5]at h1;exact Option.some.inj h1
  exact item_listR pl.isList h0 (by lia) (by rw[hj];simpa using ew) fin hs
 ·have hj:(i+(its.toArray.size:Int)).toNat=j:=by
   rw[seqIndex_neg (by lia) h4]at h1
   rw[size_toArray,<-hl];exact Option.some.inj h1
  exact subscriptTail_builtinR (x:=w) pl.isList.typeIs slot_list_getitem.lookup
   (wpAny_getItem_list_neg (Q:=λr s'=>r=w/\EP X pins σ Q r s') pl.isList (by lia) (by rw[size_toArray]<;>lia) (by lia) (by rw[hj];simpa using ew) ⟨rfl,fin⟩) hs
theorem ix_tup:IxR X (rIxT X.K):=by
 intro value slice pins s σ H x y v u Q I rx ry h hs;obtain⟨p,xs,i,z,rfl,rfl,hq,he,q⟩:=h;cases rx;obtain⟨t,rfl⟩:=ry;obtain⟨its,r,pl,hz⟩:=I.tuple hq;obtain⟨j,h1,h2,h3,h4,h5⟩:=zO he;obtain⟨w,ew,rw'⟩:=r.get h2;have hl:=r.length;have hn:=vV;have fin:EP X pins σ Q w s:=⟨z,H,I,rw',q⟩;exact subscriptTail_builtinR (x:=w) pl.typeIs slot_tuple_getitem.lookup
  (getItem_tuple (j:=j) (Q:=λr s'=>r=w/\EP X pins σ Q r s') pl (by lia) (by lia) (by rw[size_toArray,<-hl];exact h1) (by simpa using ew) ⟨rfl,fin⟩) hs
theorem aQ2:IxR X rIxS:=by
 intro value slice pins s σ H x y v u Q I rx ry h hs;obtain⟨z,i,c,rfl,rfl,hz,he,q⟩:=h;obtain⟨t,rfl⟩:=rx;obtain⟨t',rfl⟩:=ry;obtain⟨j,h1,h2,h3,h4,h5⟩:=zO he;have hl:z.cps.toList.length=z.length:=by simp[Str.length]
 rw[hl]at h1 h4 h5;have hn:=vV;exact tail_any (typeIs_str s z t) slot_str_getitem.lookup (getItem_str (c:=c) (by
  have e1:decide (i< -(2^63:Int))=false:=decide_eq_false (by lia)
  have e2:decide (i≥2^63)=false:=decide_eq_false (by lia)
  rw[e1,e2,Bool.or_false]) (by rw[h1];simpa using h2) ⟨.str ⟨#[c]⟩,H,I.tok _,⟨_,rfl⟩,q⟩) hs
def rIx (K:PySem.W.Frag):R2:=λx y H Q=>rIxL K x y H Q\/rIxT K x y H Q\/rIxS x y H Q
theorem ix_seq:IxR X (rIx X.K):=b08.or (ix_tup.or aQ2)
theorem Inv.lst {pins:List (Addr×Obj)}{σ:St}{H:Hp}{s:Shared}{p:Addr}{xs:List V}(I:Inv X pins σ H s)(h:H p=some (.lst xs)) :
  ∃(its:List Value) (n:Nat),aZ xs its/\s.heap.get? p=some {cls:= .type "list",data:= .seq its.toArray n}/\xs.length<=sizeLine:=by
 obtain⟨z,its,n,r,e⟩:=I.hok p _ h;exact⟨its,n,r,e,z⟩
theorem zP (lo hi:Option Int)(n:Nat):(sliceBounds lo hi none n).1=((HT.sIx n 0 lo:Nat):Int)/\(sliceBounds lo hi none n).2.1=((HT.sIx n n hi:Nat):Int)/\(sliceBounds lo hi none n).2.2=1:=by
 refine⟨?_,?_,rfl⟩
 ·cases lo with
  | none=>simp[sliceBounds,HT.sIx]
  | some i=>
   simp only[sliceBounds,HT.sIx,getD_none,show(1:Int)>0 by decide,if_true]
   by_cases h:i<0
   ·simp only[h,if_true]<;>lia
   ·simp only[h,if_false]<;>lia
 ·cases hi with
  | none=>simp[sliceBounds,HT.sIx]
  | some i=>
   simp only[sliceBounds,HT.sIx,getD_none,show(1:Int)>0 by decide,if_true]
   by_cases h:i<0
   ·simp only[h,if_true]<;>lia
   ·simp only[h,if_false]<;>lia
theorem xK (its:List Value)(lo hi:Option Int):slicePick its.toArray lo hi none=((its.drop (HT.sIx its.length 0 lo)).take (HT.sIx its.length its.length hi-HT.sIx its.length 0 lo)).toArray:=by
 obtain⟨h1,h2,h3⟩:=zP lo hi its.toArray.size;unfold slicePick;rw[h1,h2,h3];simp only[sliceRange_one,pick_run,size_toArray]<;>rfl
def rSlL (K:PySem.W.Frag):V->Option Int->Option Int->Hp->VK->Prop:=λx lo hi H Q=> ∃a xs,x= .ref a/\SqL K H a xs/\ ∀p,H p=none->Q (.ref p) (upd H p (.lst (a56 xs lo hi)))
theorem aG5:SlR X (rSlL X.K):=by
 intro pins s σ H x v vl vu lo hi sl Q I rx hs pl pu h;obtain⟨a,xs,rfl,hx,q⟩:=h;cases rx;obtain⟨its,r,ht,hz⟩:=I.list hx;have dR:=r.length;refine⟨"list",_,slot_list_getitem.lookup,ht.isList.typeIs,?_⟩;refine wpAny_getItem_list_slice ht.isList hs pl pu .none (by simp) ?_ (by rw[size_toArray]<;>lia)
 rw[xK,<-dR];refine⟨.ref s.heap.objs.size,_,I.laid (t':=s.toks) (o:= .lst (a56 xs lo hi)) (λb ob q=>get?_push_of_some _ q) (le_refl _) ?_,rfl,q _ (I.hok.fresh (le_refl _))⟩
 exact⟨le_trans (u4 xs lo hi) hz,_,0,(r.drop (HT.sIx xs.length 0 lo)).take (HT.sIx xs.length xs.length hi-HT.sIx xs.length 0 lo),get?_push_size _ rfl⟩
theorem zQ:fR X (.builtin "len") (λxs H Q=> ∃p ys,xs=[.ref p]/\(SqL X.K H p ys\/SqT X.K H p ys)/\Q (.int ys.length) H):=by
 intro pins s σ H xs us Q I r h;obtain⟨p,ys,rfl,hq,q⟩:=h;obtain⟨u,rfl,rx⟩:=vals1 r;cases rx;have hn:=vV;rcases hq with hq|hq
 ·obtain⟨its,r',pl,hz⟩:=I.list hq;have dR:=r'.length;exact Calls.call_len_list pl.isList (by simp only[size_toArray]<;>lia) ⟨.int ys.length,H,I.tok _,⟨s.toks+1,by rw[size_toArray,dR]⟩,q⟩
 ·obtain⟨its,r',pl,hz⟩:=I.tuple hq;have dR:=r'.length;exact len_tuple pl (by simp only[size_toArray]<;>lia) ⟨.int ys.length,H,I.tok _,⟨s.toks+1,by rw[size_toArray,dR]⟩,q⟩
theorem zR:fR X (.builtin "len") (λxs H Q=> ∃z,xs=[.str z]/\z.length<=sizeLine/\Q (.int z.length) H):=by
 intro pins s σ H xs us Q I r h;obtain⟨z,rfl,hz,q⟩:=h;obtain⟨u,rfl,t,rfl⟩:=vals1 r;have hn:=vV;exact len_str (by lia) ⟨.int z.length,H,I.tok _,⟨_,rfl⟩,q⟩
theorem fR.or {f:Value}{r r':List V->Hp->VK->Prop}(h:fR X f r)(h':fR X f r'):fR X f (λxs H Q=>r xs H Q\/r' xs H Q):=by
 intro pins s σ H xs us Q I rs q;rcases q with q|q
 ·exact h pins s σ H xs us Q I rs q
 ·exact h' pins s σ H xs us Q I rs q
theorem l4:fR X (.type "tuple") (λxs H Q=> ∃p ys,xs=[.ref p]/\((SqL X.K H p ys/\ ∀l,H l=none->Q (.ref l) (upd H l (.tup ys)))\/(SqT X.K H p ys/\Q (.ref p) H))):=by
 intro pins s σ H xs us Q I r h;obtain⟨p,ys,rfl,h⟩:=h;obtain⟨u,rfl,rx⟩:=vals1 r;cases rx;rcases h with⟨hq,q⟩| ⟨hq,q⟩
 ·obtain⟨its,r',pl,hz⟩:=I.list hq;have dR:=r'.length;refine call_tuple_list pl.isList (λh' kp=> ?_) (by simp only[size_toArray]<;>lia)
  have I1:Inv X pins σ H {s with heap:=h'}:=I.kept (t':=s.toks) kp;have I2:Inv X pins σ (upd H h'.objs.size (.tup ys)) {s with heap:=h'.push {cls:= .type "tuple",data:= .seq its.toArray}}:=
   I1.laid (t':=s.toks) (λb o e=>get?_push_of_some _ e) (le_refl _) (show kK X.prog X.w _ _ _ (.tup ys)from⟨hz,its,r',IsTup.new _ _⟩)
  exact⟨.ref h'.objs.size,_,I2,rfl,q _ (I1.hok.fresh (le_refl _))⟩
 ·obtain⟨its,r',pl,hz⟩:=I.tuple hq;exact call_tuple_same pl ⟨.ref p,H,I,rfl,q⟩
def tyV (K:PySem.W.Frag)(T:String)(x:V)(H:Hp):Prop:=match x with
 | .str _=>T="str"
 | .int _=>T="int"
 | .ref p=>(T="list"/\ ∃xs,SqL K H p xs)\/(T="tuple"/\ ∃o,K.lookup p=some o/\o.cls= .type "tuple"/\o.dict=none)\/
   (T="dict"/\((∃kvs,H p=some (.dK kvs))\/ ∃kvs,H p=some (.dT kvs)))\/(T="set"/\ ∃S n,H p=some (.set S n))
 | _=>False
theorem tyV_is {pins:List (Addr×Obj)}{σ:St}{H:Hp}{s:Shared}{T:String}{x:V}{v:Value}(I:Inv X pins σ H s)(r:RelV x v)(ty:tyV X.K T x H) :
  s.TypeIs v T/\ ∀a,v= .ref a-> ∃ob,s.heap.get? a=some ob/\ob.dict=none:=by
 cases x with
 | str z=>
  obtain⟨t,rfl⟩:=r;cases (show T="str" from ty)
  exact⟨typeIs_str s z t,λ_ e=>nomatch e⟩
 | int i=>
  obtain⟨t,rfl⟩:=r;cases (show T="int" from ty)
  exact⟨typeIs_int s i t,λ_ e=>nomatch e⟩
 | ref p=>
  cases r;rcases ty with⟨rfl,xs,hq⟩| ⟨rfl,o,hk,hc,hd⟩| ⟨rfl,hk⟩| ⟨rfl,S,n,hk⟩
  ·obtain⟨its,_,pl,_⟩:=I.list hq;refine⟨pl.isList.typeIs,λa e=> ?_⟩
   cases e;obtain⟨o,n,e,c,hd,_⟩:=pl;exact⟨o,e,hd⟩
  ·refine⟨⟨o,I.kIn p o hk,hc⟩,λa e=> ?_⟩
   cases e;exact⟨o,I.kIn _ o hk,hd⟩
  ·have z: ∃o,s.heap.get? p=some o/\o.ExactDict:=by
    rcases hk with⟨kvs,hk⟩| ⟨kvs,hk⟩
    ·obtain⟨_,_,_,_,o,_,_,e,ex,_⟩:=I.hok p _ hk;exact⟨o,e,ex⟩
    ·obtain⟨_,_,_,_,o,_,_,e,ex,_⟩:=I.hok p _ hk;exact⟨o,e,ex⟩
   obtain⟨o,e,ex⟩:=z;refine⟨⟨o,e,ex.1⟩,λa e2=> ?_⟩
   cases e2;exact⟨o,e,ex.2.1⟩
  ·obtain⟨o,_,_,_,e,ex,_⟩:=I.hok p _ hk;refine⟨⟨o,e,ex.1⟩,λa e2=> ?_⟩
   cases e2;exact⟨o,e,ex.2.1⟩
 | _=>exact False.elim ty
def tBM (K:PySem.W.Frag)(T:String)(r:V->List V->Hp->VK->Prop)(to:TE)(t:TA):TE:=λσ H Q=>to σ H λx H1=>tyV K T x H1/\t σ H1 λxs H2=>r x xs H2 Q
variable {o e:Expr}{es:List Expr}{to:TE}{t:TA}{name:Str}{apos cpos:Pos}{T id:String}{r:V->List V->Hp->VK->Prop}
theorem b82 (pa:PlainAttrs T)(slot:Slot T name id)(hty:typeOf (.builtin id)=pure (.type "method_descriptor"))(hm:MtR X id r)(ho:PE X o to)(ha:PA X (e::es) t)
  (hbase:attributeBase o name X.env (eval o X.env)=eval o X.env:=by rfl)
  (hfew:((backTo cpos (starEach (e::es) X.env)).all (λx=> !x.1)&&(backToKw cpos (keywordEach [] X.env)).all (λx=>x.1.isSome)
   &&decide ((e::es).length+([]:List Keyword).length+(if([]:List Keyword).isEmpty then 0 else 1)<30))=true:=by rfl)
  (hline:(apos.endLine==cpos.line)=true:=by rfl) (hs:starEach (e::es) X.env=(false,eval e X.env)::starEach es X.env:=by rfl) (hplain:(backTo cpos (starEach es X.env)).any (·.1)=false:=by rfl) :
  PE X (.Call (.Attribute o name apos) (e::es) [] cpos) (tBM X.K T r to t):=by
 intro pins s σ H Q I h;refine wpAny_Call_method_late hbase hfew hline rfl (thn (ho pins s σ H _ I h) λv s1 ⟨x,H1,I1,r1,ty,q1⟩=> ?_)
 obtain⟨h1,h2⟩:=tyV_is I1 r1 ty;refine⟨T,id,pa,slot,hty,h1,h2,?_⟩;have hA:=ha cpos pins s1 σ H1 _ I1 q1;rw[hs]at hA⊢;refine Calls.callWith_builtin (by show(false||(backTo cpos (starEach es X.env)).any (·.1))=false;rw[hplain]<;>rfl) (Calls.evalArgs_plain ?_)
 exact thn hA λus s2 ⟨vs,H2,I2,r2,q2⟩=>hm pins s2 σ H2 x vs v us Q I2 r1 r2 q2
end
end L2
namespace L2
open PySem PySem.Spec PyProof.Rows
def MtM (X:Cx)(id:String)(r:V->List V->Hp->VK->Prop):Prop:=
 ∀(pins:List (Addr×Obj)) (s:Shared) (σ:St) (H:Hp) (x:V) (xs:List V) (v:Value) (us:List Value) (Q:VK),Inv X pins σ H s->RelV x v->aZ xs us->r x xs H Q->
  wpAny (model X.prog X.w) X.A (call (.builtin id) (v::us)) (EP X pins σ Q) X.xe s
theorem aZ.one: ∀{x:V} {us:List Value},aZ [x] us-> ∃u,us=[u]/\RelV x u
 | _,_,.cons r .nil=>⟨_,rfl,r⟩
theorem aZ.two: ∀{x y:V} {us:List Value},aZ [x,y] us-> ∃u v,us=[u,v]/\RelV x u/\RelV y v
 | _,_,_,.cons r (.cons q .nil)=>⟨_,_,rfl,r,q⟩
theorem aZ.zero: ∀{us:List Value},aZ [] us->us=[]
 | _,.nil=>rfl
theorem aZ.dropLast {xs:List V}{us:List Value}(h:aZ xs us):aZ xs.dropLast us.dropLast:=by
 induction h with
 | nil=>exact .nil
 | cons r t ih=>
  cases t with
  | nil=>exact .nil
  | cons q t'=>exact .cons r ih
theorem aZ.reverse {xs:List V}{us:List Value}(h:aZ xs us):aZ xs.reverse us.reverse:=by
 induction h with
 | nil=>exact .nil
 | cons r t ih=>rw[reverse_cons,reverse_cons];exact aZ.append ih (.cons r .nil)
theorem aZ.rep {xs:List V}{us:List Value}(h:aZ xs us): ∀k:Nat,aZ (replicate k xs).flatten (replicate k us).flatten
 | 0=> .nil
 | k+1=>by
  rw[replicate_succ,replicate_succ,flatten_cons,flatten_cons];exact aZ.append h (aZ.rep h k)
theorem foldl_rep (its:List Value): ∀(k:Nat) (acc:List Value),
  foldl (λx1 x2=>x1++x2) acc.toArray (replicate k its.toArray)=(acc++(replicate k its).flatten).toArray
 | 0,acc=>by simp
 | k+1,acc=>by
  have e:acc.toArray++its.toArray=(acc++its).toArray:=by simp
  have e2:(acc++its)++(replicate k its).flatten=acc++(replicate (k+1) its).flatten:=by
   rw[replicate_succ,flatten_cons,List.append_assoc]
  rw[<-e2,<-foldl_rep its k (acc++its),<-e,replicate_succ,foldl_cons]
section
variable {X:Cx}{pins:List (Addr×Obj)}{σ:St}{H:Hp}{s:Shared}{l b:Addr}{xs ys zs:List V}
theorem Inv.lset {its its':List Value}{n:Nat}{f:Array Value->Array Value}{t':Nat}(I:Inv X pins σ H s)(hH:H l=some (.lst xs))
  (e:s.heap.get? l=some {cls:= .type "list",data:= .seq its.toArray n}) (hf:f its.toArray=its'.toArray) (hv:aZ ys its') (hz:ys.length<=sizeLine) :
  Inv X pins σ (upd H l (.lst ys)) {s with heap:=s.heap.update l (Obj.mapSeq f),toks:=t'}:=by
 have q:=PySem.IsL.update e f;rw[hf]at q;refine I.write (x:=l) (e:=l) (by rw[hH];exact trivial) (.inl rfl) (λb' u hb hu=>(Heap.get?_update_other s.heap (Obj.mapSeq f) (Ne.symm hb)).trans hu) ⟨_,q⟩ ?_
 exact⟨hz,its',_,hv,q⟩
theorem Inv.lnew {its:List Value}{t':Nat}(I:Inv X pins σ H s)(hv:aZ ys its)(hz:ys.length<=sizeLine) :
  Inv X pins σ (upd H s.heap.objs.size (.lst ys)) {s with heap:=s.heap.push {cls:= .type "list",data:= .seq its.toArray},toks:=t'}:=
 I.laid (λ_ _ q=>get?_push_of_some _ q) (le_refl _) ⟨hz,its,0,hv,get?_push_size _ rfl⟩
theorem Inv.fresh (I:Inv X pins σ H s):H s.heap.objs.size=none:=I.hok.fresh (le_refl _)
theorem Inv.lstM (I:Inv X pins σ H s)(hH:H l=some (.lst xs)):xs.length<=sizeLine/\ ∃(its:List Value) (n:Nat),aZ xs its/\xs.length=its.length/\s.heap.get? l=some {cls:= .type "list",data:= .seq its.toArray n}:=by
 obtain⟨z,its,n,r,e⟩:=I.hok l _ hH;exact⟨z,its,n,r,r.length,e⟩
theorem aQ3 {n:Nat}(h:n<=sizeLine):Builtin.List.listTooLong n=false:=by
 unfold Builtin.List.listTooLong;exact decide_eq_false (by lia)
end
section
variable {X:Cx}
def b09:V->List V->Hp->VK->Prop:=λx vs H Q=> ∃l xs y,x= .ref l/\vs=[y]/\H l=some (.lst xs)/\xs.length<sizeLine/\Q .non (upd H l (.lst (xs++[y])))
theorem t6:MtM X "list.append" b09:=by
 intro pins s σ H x vs v us Q I rx rv h;obtain⟨l,xs,y,rfl,rfl,hH,hz,q⟩:=h;cases rx;obtain⟨u,rfl,ru⟩:=rv.one;obtain⟨z,its,n,r,hl,e⟩:=I.lstM hH;refine call_meets F.slot_list_append ⟨_,e,rfl⟩ F.entry_list_append (F.args_list_append_2 _ _) (PySem.list_append l its.toArray n u (by rw[size_toArray];lia)) ⟨e,?_⟩
 refine⟨.non,_,I.lset (its':=its++[u]) hH e (by simp) (r.append (.cons ru .nil)) ?_,rfl,q⟩
 rw[length_append,List.length_singleton]
 lia
def rCat:R2:=λx y H Q=> ∃l b xs zs,x= .ref l/\y= .ref b/\H l=some (.lst xs)/\H b=some (.lst zs)/\xs.length+zs.length<=sizeLine/\ ∀p,H p=none->Q (.ref p) (upd H p (.lst (xs++zs)))
theorem op_cat:OpR X (binaryOp .Add) rCat:=by
 intro pins s σ H x y v u Q I rx ry h;obtain⟨l,b,xs,zs,rfl,rfl,hH,hB,hz,q⟩:=h;cases rx;cases ry;obtain⟨z,its,n,r,hl,e⟩:=I.lstM hH;obtain⟨z2,its2,n2,r2,hl2,e2⟩:=I.lstM hB;refine PySem.P.add_list e e2 ?_ (by rw[size_toArray,size_toArray];omega)
 have ea:its.toArray++its2.toArray=(its++its2).toArray:=by simp
 rw[ea];exact⟨.ref _,_,I.lnew (t':=s.toks) (r.append r2) (by rw[length_append];omega),rfl,q _ I.fresh⟩
def rRep:R2:=λx y H Q=> ∃l k xs,x= .ref l/\y= .int k/\H l=some (.lst xs)/\ -(2^63)<=k/\k<2^63/\xs.length*k.toNat<=sizeLine/\
 ∀p,H p=none->Q (.ref p) (upd H p (.lst (replicate k.toNat xs).flatten))
theorem b10 {α:Type}(xs:List α)(k:Nat):(replicate k xs).flatten.length=k*xs.length:=by
 induction k with
 | zero=>simp
 | succ k ih=>rw[replicate_succ,flatten_cons,length_append,ih,succ_mul,Nat.add_comm]
theorem op_rep:OpR X (binaryOp .Mult) rRep:=by
 intro pins s σ H x y v u Q I rx ry h;obtain⟨l,k,xs,rfl,rfl,hH,h1,h2,hz,q⟩:=h;cases rx;obtain⟨t,rfl⟩:=ry;obtain⟨z,its,n,r,hl,e⟩:=I.lstM hH;have dR:its.toArray.size*k.toNat<=sizeLine:=by rw[size_toArray,<-hl];exact hz
 have hcap: ¬its.toArray.size*k.toNat>(2^63-1)/8:=by
  have:(sizeLine:Nat)<=(2^63-1)/8:=by decide
  lia
 have hfit: ¬(!Builtin.List.listFitsIndex k)=true:=by
  rw[fitsIndex_both h1 h2];exact Bool.false_ne_true
 have hlong: ¬Builtin.List.listTooLong (its.toArray.size*k.toNat)=true:=by
  rw[aQ3 dR];exact Bool.false_ne_true
 have hnew:foldl (λx1 x2=>x1++x2) #[] (replicate (if its.toArray.isEmpty=true then 0 else k.toNat) its.toArray)=(replicate k.toNat its).flatten.toArray:=by
  have f0: ∀m:Nat,foldl (λx1 x2=>x1++x2) #[] (replicate m its.toArray)=(replicate m its).flatten.toArray:=λm=>by
   have:=foldl_rep its m [];rw[List.nil_append]at this;exact this
  rw[f0];cases its with
  | nil=>simp
  | cons a r'=>rw[if_neg (by simp)]
 refine wpAny_binaryOp_repeat_ref (T:="list") (U:="int") (by decide) ⟨_,e,rfl⟩ (λs'=>typeIs_int s' k t) noFill_list_mul F.fills_int_mul F.slot_int_rmul repeat_list F.slot_int_index.lookup
  (call_meets F.slot_int_rmul (typeIs_int s k t) F.entry_int_rmul (F.args_int_rmul_2 _ _) (int___rmul___int_list k t l its.toArray n)
   ⟨e,rfl,⟨_,e,rfl⟩,call_meets F.slot_list_mul ⟨_,e,rfl⟩ F.entry_list_mul (F.args_list_mul_2 _ _) (AutoListH.list___mul___list_int_3 l its.toArray n k t hfit hcap hlong) ⟨e,?_⟩⟩)
 rw[hnew];exact⟨.ref _,_,I.lnew (t':=s.toks) (r.rep k.toNat) (by rw[b10,mul_comm];exact hz),rfl,q _ I.fresh⟩
end
section
variable {prog:Program}{w:World}{A:Around}{E:Value->Shared->Prop}{s:Shared}
set_option maxRecDepth 100000 in
end
end L2
namespace Att
open PySem PySem.W PySem.Calls PyProof.Rows
theorem uN {P:Params}{h:Heap}: ∀(ns:List Int) (vs:List Value),WellAll P h vs (ns.map WData.int)->IntsAre vs ns:=by
 intro ns
 induction ns with
 | nil=>
  intro vs w;rw[map_nil]at w;cases w;exact .nil
 | cons n ns ih=>
  intro vs w;rw[map_cons]at w;cases w with
  | cons a b=>
   cases a;exact .cons _ _ (ih _ b)
theorem aL0 {l:OpenLaw}{n:Nat}(hn:l.most=some n){P:Params}{h:Heap}{args:List WData}{vals:List Value}
  (hpre:l.row.toRowW.claim.pre args=true) (hwl:WellAll P h vals args) :
  ∃a vs ns,vals=[Value.ref a]/\args=[WData.list (ns.map WData.int)]/\h.get? a=some {cls:= .type "list",data:= .seq vs.toArray}/\IntsAre vs ns/\ns.length<=n:=by
 have hsh:WShape.hasAll [] args [.list .int]=true:=(pre_splitW hpre).1;have hc:l.pre.holds [] {args:=args}=true:=(pre_splitW hpre).2;obtain⟨d,r,rfl,h1,h2⟩:=hasAllW_cons hsh;obtain rfl:=hasAllW_nil h2;obtain⟨xs,rfl,h3⟩:=hasW_list h1;obtain⟨ns,rfl⟩:=items_int h3;have dR:ns.length<=n:=by
  unfold OpenLaw.pre at hc;have h4:(WTm.not (.lt (.lit (.int (n:Int))) (.len (.arg 0)))).holds [] {args:=[.list (ns.map .int)]}=true:=by
   have h4:=(holds_andW hc).1;rw[hn]at h4;exact h4
  have h5:=condW_of h4 (w_not (w_lt w_lit (w_len_list (w_arg rfl))));rw[length_map]at h5;refine Nat.le_of_not_lt λq=> ?_
  have q':(n:Int)< ((ns.length:Nat):Int):=by omega
  first
   | (rw[decide_eq_true q']at h5;exact absurd h5 (by decide))
   | (simp at h5;omega)
 cases hwl with
 | cons w1 w2=>
  cases w2;cases w1 with
  | list ho hall=>exact⟨_,_,ns,rfl,rfl,ho,uN ns _ hall,dR⟩
theorem aL1 (l:OpenLaw)(args:List WData):l.row.toRowW.claim.post args (.bool true) args=true:=
 postW_of (r:=l.row.toRowW) (X:=(true==true))
  (show WShape.has [] (.bool true) .bool=true by first|rfl|decide|simp[WShape.has,WShape.arms,WShape.armsAll])
  (show(WTm.eq .res (.lit (.bool true))).value [] {args:=args,res:=some (.bool true),after:=args}=some (.bool (true==true))from w_eq_bool (w_res rfl) w_lit) rfl
theorem attach_call {l:OpenLaw}{n:Nat}{q:Program}{loose:List Str}{XP:(Str->Option Value)->Heap->Prop}{YP:World->Heap->Prop}{d:DefRec}
  (hn:l.most=some n) (hdf:d.params.defaults=[])
  (call: ∀(w:World) (s₀ s₁:Shared) (mg mb:Str->Option Value) (fa:Addr) (o:Obj) (pm cd doc:Value) (a:Addr) (vs:List Value) (ns:List Int),
   Ground q loose [] XP w s₀ mg mb s₁.heap->YP w s₁.heap->
   s₁.heap.get? fa=some o->o.data= .func (docDef d.name d.params d.body d.scope pm cd doc)->s₁.heap.CodeRec cd d.name->mg d.name=some (.ref fa)->
   s₁.heap.get? a=some {cls:= .type "list",data:= .seq vs.toArray}->IntsAre vs ns->ns.length<=n->s₁.gens= #[]->
   codeAny (model l.prog w) callerA (.call (.ref fa) ⟨[.ref a],[]⟩) (λr s'=>r= .ok (.ret (.bool true))/\OldK s₁.heap s'.heap/\s'.os=s₁.os/\AllBare s'.gens) s₁) :
  WalkO q loose XP YP l.row.toRowW d [] (λf vs=>PySem.call f vs):=by
 intro w s₀ s₁ mg mb G Y fa o pm cd doc dV kV ho hd hcd hD hmg hg args vals as hpre hlay hrd hwl hlo;obtain rfl:dV= .none:=Dflts.none hD hdf;obtain rfl:kV= .none:=Dflts.noKw hD;obtain⟨a,vs,ns,rfl,rfl,hobj,hints,dR⟩:=aL0 hn hpre hwl;refine enter_call (codeAny_mono (call w s₀ s₁ mg mb fa o pm cd doc a vs ns G Y ho (fd_plain hd) hcd hmg hobj hints dR hg) λr s' hq=> ?_)
 obtain⟨rfl,h2,h3,h4⟩:=hq;exact⟨.inl ⟨.bool true,.bool true,[],rfl,λ_=>rfl,.bool true,aL1 l _,λ_=>⟨List.Pairwise.nil,λ_ hm=>(nomatch hm)⟩⟩,h2,h3,h4⟩
end Att
namespace L2
open PySem PySem.Spec PyProof.Rows
theorem yH: ∀{vs:List Value} {ns:List Int},IntsAre vs ns->aZ (ns.map V.int) vs
 | _,_,.nil=> .nil
 | _,_,.cons n t h=> .cons ⟨t,rfl⟩ (yH h)
def Only (H:Hp):Prop:= ∀b,H b=none\/ ∃o xs,H b=some (.frz o (.lst xs))
theorem aQ4 {P:Program}{w:World}{K:PySem.W.Frag}{mg mb:Str->Option Value}{CX:CXT}{k:Nat}{fa a:Addr}{fd:FuncData}{x:Str}{sp:Sp}{s₁:Shared}{vs:List Value}{ns:List Int}
  (KX:K.In s₁.heap) (hns:s₁.heap.Ns mainGlobals mg) (hb:s₁.heap.Ns builtinsNs mb) (hbb: ∀x:Str,x≠"__name__"->mb x=bootBuiltins x) (hlim:s₁.heap.NoLimit) (hg:s₁.gens= #[])
  (ha:s₁.heap.get? a=some {cls:= .type "list",data:= .seq vs.toArray}) (hi:IntsAre vs ns) (hl:ns.length<=sizeLine) (hr:cV k callerA)
  (F: ∀base:Heap,K.In base->base.Ns mainGlobals mg->kI P w K mg base CX k fa fd [x] sp) (hbind: ∀(s:Shared) (u:Value),BindsTo s fd ⟨[u],[]⟩ [(x,u)])
  (hsp: ∀H:Hp,Only H->SqL K H a (ns.map V.int)->sp [.ref a] H (λv _=>v= .bl true) λ_ _ _=>False)
  (hCX: ∀H e s',CX [] H s₁ (λ_ _ _=>False) e s'->False) :
  codeAny (model P w) callerA (.call (.ref fa) ⟨[.ref a],[]⟩) (λr s'=>r= .ok (.ret (.bool true))/\OldK s₁.heap s'.heap/\s'.os=s₁.os/\AllBare s'.gens) s₁:=by
 have rv:=yH hi;have lenV:=hi.length;have core: ∀H:Hp,Only H->SqL K H a (ns.map V.int)->HOk P w H s₁.heap->(∀b,H b≠none->b=a)->(H a≠none->K.lookup a=none)->
   codeAny (model P w) callerA (.call (.ref fa) ⟨[.ref a],[]⟩) (λr s'=>r= .ok (.ret (.bool true))/\OldK s₁.heap s'.heap/\s'.os=s₁.os/\AllBare s'.gens) s₁:=by
  intro H hO hS hok hA hK;have base_of: ∀{b:Addr} {o:Obj},s₁.heap.get? b=some o->H b=none->(zH s₁.heap H).get? b=some o:=λe n=>aO5 e n
  have noA: ∀{b:Addr} {o:Obj} {es:Array DictEntry} {ep:Nat},s₁.heap.get? b=some o->o.data= .dict es ep->H b=none:=λ{b o es ep} e d=>by
   cases q:H b with
   | none=>rfl
   | some u=>
    have e':b=a:=hA b (by rw[q];simp)
    subst e';rw[ha]at e;cases e;have d':Data.seq vs.toArray _=Data.dict es ep:=d;cases d'
  have nsK: ∀{b:Addr} {m:Str->Option Value},s₁.heap.Ns b m->(zH s₁.heap H).Ns b m:=λ{b m} ⟨o,es,ep,e,d,r⟩=>⟨o,es,ep,base_of e (noA e d),d,r⟩
  have hKb:K.In (zH s₁.heap H):=λb o e=>base_of (KX b o e) (by
   cases q:H b with
   | none=>rfl
   | some u=>
    have e':b=a:=hA b (by rw[q];simp)
    subst e';rw[hK (by rw[q];simp)]at e;cases e)
  have hM:Mod K mg (zH s₁.heap H):=⟨hKb,nsK hns,⟨mb,nsK hb,hbb⟩,let ⟨mc,h1,h2⟩:=hlim;⟨mc,nsK h1,h2⟩⟩;have e0:aB5 P w K mg (zH s₁.heap H) callerA [] s₁ H:=⟨rfl,hM,λb o e=>aZ2 e,Nat.le_of_eq (aK1 _ _),trivial,λb hb=>absurd (show b∈([]:List Addr)from hb) (by simp),hok,.of_eq hg⟩
  refine codeAny_mono ((F _ hKb (nsK hns)).run callerA [] s₁ H ⟨[.ref a],[]⟩ [.ref a] [.ref a] _ _ hr e0 (hbind s₁ (.ref a)) (.cons rfl .nil) (hsp H hO hS)) λr s' h=> ?_
  cases r with
  | error e=>exact(hCX H e s' h).elim
  | ok fl=>
   cases fl with
   | next=>exact False.elim h
   | brk=>exact False.elim h
   | cont=>exact False.elim h
   | ret u=>
    obtain⟨v,H',os,bare,un,hok',r',q⟩:=h;have q':v= .bl true:=q;subst q';obtain rfl:u=Value.bool true:=r';refine⟨rfl,OldK.of_keep λb o e=> ?_,os,bare⟩
    cases q:H b with
    | none=>exact un.keep b o e q (by intro z;exact absurd (show b∈([]:List Addr)from z) (by simp)) (by simp)
    | some u=>
     rcases hO b with z| ⟨ob,xs,z⟩
     ·rw[q]at z;cases z
     ·have z2:=un.frzs b ob _ z;obtain⟨e1,_⟩:=hok b _ z;obtain⟨e2,_⟩:=hok' b _ z2;rw[e]at e1;cases e1;exact e2
 cases hk:K.lookup a with
 | some o=>
  have e:=KX a o hk;rw[ha]at e;cases e;refine core (λ_=>none) (λ_=> .inl rfl) (.inr ⟨_,vs.toArray,_,hk,rfl,rfl,rfl,by rw[size_toArray,lenV];exact hl,by simpa using rv⟩) (λb u z=>by have z':(none:Option HO)=some u:=z;cases z') (λb z=>absurd rfl z) λz=>absurd rfl z
 | none=>
  refine core (λb=>if b=a then some (.frz {cls:= .type "list",data:= .seq vs.toArray} (.lst (ns.map V.int)))else none) (λb=> ?_) (.inl (.inr ⟨{cls:= .type "list",data:= .seq vs.toArray},if_pos rfl⟩)) (λb u z=> ?_) (λb z=> ?_) λ_=>hk
  ·by_cases hb:b=a
   ·exact .inr ⟨_,_,if_pos hb⟩
   ·exact .inl (if_neg hb)
  ·by_cases hb:b=a
   ·have z':=(if_pos hb).symm.trans z;cases z';subst hb;exact⟨ha,by rw[length_map];exact hl,vs,_,rv,ha⟩
   ·have z':=(if_neg hb).symm.trans z;cases z'
  ·by_cases hb:b=a
   ·exact hb
   ·exact absurd (if_neg hb) z
end L2
namespace L2
open PySem PySem.Spec PyProof.Rows
theorem walk_of {l:PySem.W.OpenLaw}{n k:Nat}{q:Program}{loose:List Str}{XP:(Str->Option Value)->Heap->Prop}{YP:World->Heap->Prop}{d:DefRec}{K:Params->PySem.W.Frag}{CX:World->CXT}{sp:World->Sp}{x:Str}
  (hn:l.most=some n) (hn2:n<=sizeLine) (hdf:d.params.defaults=[]) (hr:cV k callerA)
  (hY: ∀(w:World) (h:Heap),YP w h->(K w.params).In h)
  (F: ∀(w:World) (mg:Str->Option Value) (fa:Addr) (h:Heap),(K w.params).In h->h.Ns mainGlobals mg->mg d.name=some (.ref fa)->
   ∃fd:FuncData,(∀(s:Shared) (u:Value),BindsTo s fd ⟨[u],[]⟩ [(x,u)])/\
    ∀base:Heap,(K w.params).In base->base.Ns mainGlobals mg->kI l.prog w (K w.params) mg base (CX w) k fa fd [x] (sp w))
  (hsp: ∀(w:World) (H:Hp) (a:Addr) (ns:List Int),ns.length<=n->Only H->SqL (K w.params) H a (ns.map V.int)->sp w [.ref a] H (λv _=>v= .bl true) λ_ _ _=>False)
  (hCX: ∀(w:World) (H:Hp) (s:Shared) (e:Value) (s':Shared),CX w [] H s (λ_ _ _=>False) e s'->False) :
  PySem.W.WalkO q loose XP YP l.row.toRowW d [] (λf vs=>PySem.call f vs):=by
 refine Att.attach_call hn hdf λw s₀ s₁ mg mb fa o pm cd doc a vs ns G Y ho hd hcd hmg hobj hints dR hg=> ?_
 have KX:=hY w _ Y;obtain⟨fd,hb,hF⟩:=F w mg fa _ KX G.T.g hmg;exact aQ4 KX G.T.g G.T.b G.T.builtins G.T.nolimit hg hobj hints (le_trans dR hn2) hr hF hb (λH hO hS=>hsp w H a ns dR hO hS) λH e s'=>hCX w H s₁ e s'
end L2
namespace L2
open PySem PySem.Spec PyProof.Rows
def mQ (s:Stmt):Arguments:=match s with
 | .FunctionDef _ a _ _ _ _ _ _ _ _=>a
 | _=>{posonlyargs:=[],args:=[],vararg:=none,kwonlyargs:=[],kw_defaults:=[],kwarg:=none,defaults:=[]}
def bY (s:Stmt):List Stmt:=match s with
 | .FunctionDef _ _ b _ _ _ _ _ _ _=>b
 | _=>[]
def a9 (s:Stmt):Scope:=match s with
 | .FunctionDef _ _ _ _ _ _ sc _ _ _=>sc
 | _=>{kind:= .function,names:=[],isGenerator:=false,isCoroutine:=false}
abbrev CX0:CXT:=λ_ _ _ _ _ _=>False
abbrev E0:XK:=λ_ _ _=>False
structure Fun (K:PySem.W.Frag)(x qual:Str)(st:Stmt)(f:Addr)(fd:FuncData):Prop where
 ex: ∃(oc:Value) (od:Option Addr) (kV doc pm:Value) (an:Option Addr) (cdv ct:Value) (osl:Array (Option Value)),
  fd=fnOf x qual (mQ st) (bY st) (a9 st) .none kV doc pm an cdv ct/\K.lookup f=some ⟨oc,od,.func fd,osl⟩/\codeIn K cdv qual=true
 kp:keepIn K (.ref f)=true
section
variable {P:Program}{w:World}{K:PySem.W.Frag}{mg:Str->Option Value}{base:Heap}
theorem Fun.ok {x qual:Str}{st:Stmt}{f:Addr}{fd:FuncData}{N ps:List Str}{k:Nat}{sp:Sp}(F:Fun K x qual st f fd)(S:aS N ps (a9 st))(len: ∀vs H Q E,sp vs H Q E->vs.length=ps.length)
  (hbody: ∀(cdv:Value) (A:Around) (outer:List Env) (s:Shared) (H:Hp) (vs:List V) (Q:VK) (E:XK),cV k (A.deeper (envOfC qual (a9 st) s.heap.objs.size f cdv))->sp vs H Q E->
   ∃t,PSs (jO CX0 P w K mg base N qual (a9 st) f cdv A outer s H E).nox (bY st) t/\t {nx:=λ_ H'=>Q .non H',rt:=Q} (start N vs) H):kI P w K mg base CX0 (k+1) f fd ps sp:=by
 obtain⟨oc,od,kV,doc,pm,an,cdv,ct,osl,rfl,lk,hcd⟩:=F.ex;refine b80 lk hcd S len λA outer s H vs Q E hr hsp=> ?_
 obtain⟨t,h,q⟩:=hbody cdv A outer s H vs Q E hr hsp;exact⟨t,h.nox,q⟩
theorem Fun.binds {x qual:Str}{st:Stmt}{f:Addr}{fd:FuncData}{ps:List Str}(F:Fun K x qual st f fd)
  (h: ∀(kV doc pm:Value) (an:Option Addr) (cdv ct:Value) (us:List Value),us.length=ps.length->bindArgs (fnOf x qual (mQ st) (bY st) (a9 st) .none kV doc pm an cdv ct) ⟨us,[]⟩=pure (ps.zip us)):Binds K fd ps []:=by
 obtain⟨oc,od,kV,doc,pm,an,cdv,ct,osl,rfl,lk,hcd⟩:=F.ex;exact .all (h kV doc pm an cdv ct)
theorem bQ {x qual:Str}{st:Stmt}{f:Addr}{oc:Value}{od an:Option Addr}{osl:Array (Option Value)}{kV doc pm cdv ct:Value}(l:K.lookup f=some ⟨oc,od,.func (fnOf x qual (mQ st) (bY st) (a9 st) .none kV doc pm an cdv ct),osl⟩)
  (c:codeIn K cdv qual=true) (k:keepIn K (.ref f)=true):Fun K x qual st f (fnOf x qual (mQ st) (bY st) (a9 st) .none kV doc pm an cdv ct):=⟨⟨oc,od,kV,doc,pm,an,cdv,ct,osl,rfl,l,c⟩,k⟩
end
section
variable {X:Cx}
theorem pv (i:Nat){x:Str}{pos:Pos}(hN:X.N[i]? =some x:=by rfl)(hv:Vis X.env.scope x:=by first|exact Or.inl rfl|exact Or.inr (Or.inl rfl)|exact Or.inr (Or.inr rfl))(hd:(x==("__debug__":Str))=false:=by decide)
  (hcd:(x==("__classdict__":Str))=false:=by decide):PE X (.Name x pos) (vU i):=pe_var hN hv hd hcd
end
def bU (H H':Hp):Prop:= ∀b o,H b=some o->H' b=some o
theorem bU.refl (H:Hp):bU H H:=λ_ _ h=>h
theorem bU.trans {H H1 H2:Hp}(a:bU H H1)(b:bU H1 H2):bU H H2:=λc o h=>b c o (a c o h)
theorem bU.free {H H':Hp}(e:bU H H'){l:Addr}(h:H' l=Option.none):H l=Option.none:=by
 cases q:H l with
 | none=>rfl
 | some o=>
  rw[e l o q]at h;cases h
theorem bU.seq {K:PySem.W.Frag}{H H':Hp}{a:Addr}{xs:List V}(e:bU H H')(h:SqL K H a xs):SqL K H' a xs:=by
 rcases h with(h| ⟨o,h⟩)|h
 ·exact .inl (.inl (e _ _ h))
 ·exact .inl (.inr ⟨o,e _ _ h⟩)
 ·exact .inr h
end L2
section
namespace M
open PySem PySem.Spec PyProof.Rows L2
inductive D where
 | non|bl (b:Bool)|int (i:Int)|str (x:Str)|ty (n:String)
 | tup (l:List D)|lst (l:List D)|rol (l:List D)
 | obj (C:Addr) (ks:List Str) (l:List D)
 | adr (a:Addr)
 | xob (a d:Addr) (ks:List Str) (l:List D)
abbrev AS:=Addr->Prop
def KT (K:PySem.W.Frag)(a:Addr)(vs:List V):Prop:=
 ∃(o:Obj) (its:Array Value) (n:Nat),K.lookup a=some o/\o.cls= .type "tuple"/\o.data= .seq its n/\its.size<=sizeLine/\aZ vs its.toList
def KL (K:PySem.W.Frag)(a:Addr)(vs:List V):Prop:=
 ∃(o:Obj) (its:Array Value) (n:Nat),K.lookup a=some o/\o.cls= .type "list"/\o.dict=none/\o.data= .seq its n/\its.size<=sizeLine/\aZ vs its.toList
def OkC (K:PySem.W.Frag)(C:Addr)(ks:List Str):Prop:=Cls K C/\ ∀f∈ks,NoAttr K C f
mutual
def Rep (K:PySem.W.Frag)(A:AS)(H:Hp):D->V->Prop
 | .non,v=>v= .non
 | .bl b,v=>v= .bl b
 | .int i,v=>v= .int i
 | .str x,v=>v= .str x
 | .ty n,v=>v= .ty n
 | .tup l,v=> ∃a vs,v= .ref a/\((¬A a/\Rd H a (.tup vs))\/KT K a vs)/\aN K A H l vs
 | .lst l,v=> ∃a vs,v= .ref a/\ ¬A a/\H a=some (.lst vs)/\aN K A H l vs
 | .rol l,v=> ∃a vs,v= .ref a/\((¬A a/\Rd H a (.lst vs))\/KL K a vs)/\aN K A H l vs
 | .obj C ks l,v=> ∃a dx vs,v= .ref a/\ ¬A a/\H a=some (.ins C dx (ks.zip vs))/\ks.length=vs.length/\aN K A H l vs/\OkC K C ks
 | .adr a,v=>v= .ref a
 | .xob a d ks l,v=> ∃vs,v= .ref a/\ ¬A d/\H d=some (.xd (ks.zip vs))/\ks.length=vs.length/\aN K A H l vs
def aN (K:PySem.W.Frag)(A:AS)(H:Hp):List D->List V->Prop
 | [],vs=>vs=[]
 | d::ds,vs=> ∃v vr,vs=v::vr/\Rep K A H d v/\aN K A H ds vr
end
section
variable {K:PySem.W.Frag}{A A':AS}{H H':Hp}
def fG (A:AS)(H:Hp)(A':AS)(H':Hp):Prop:= ∀b o,¬A b->H b=some o-> ¬A' b/\H' b=some o
theorem Rd.pres (p:fG A H A' H'){a:Addr}{u:HO}(n: ¬A a)(r:Rd H a u): ¬A' a/\Rd H' a u:=by
 rcases r with r| ⟨o,r⟩
 ·exact⟨(p a _ n r).1,.inl (p a _ n r).2⟩
 ·exact⟨(p a _ n r).1,.inr ⟨o,(p a _ n r).2⟩⟩
mutual
theorem Rep.mono (p:fG A H A' H'): ∀{d:D} {v:V},Rep K A H d v->Rep K A' H' d v
 | .non,_,h=>h
 | .bl _,_,h=>h
 | .int _,_,h=>h
 | .str _,_,h=>h
 | .ty _,_,h=>h
 | .tup l,v,h=>by
  simp only[Rep]at h⊢;obtain⟨a,vs,e,c,r⟩:=h;refine⟨a,vs,e,?_,aN.mono p r⟩;rcases c with⟨n,c⟩|c
  ·exact .inl (Rd.pres p n c)
  ·exact .inr c
 | .lst l,v,h=>by
  simp only[Rep]at h⊢;obtain⟨a,vs,e,n,c,r⟩:=h;exact⟨a,vs,e,(p a _ n c).1,(p a _ n c).2,aN.mono p r⟩
 | .rol l,v,h=>by
  simp only[Rep]at h⊢;obtain⟨a,vs,e,c,r⟩:=h;refine⟨a,vs,e,?_,aN.mono p r⟩;rcases c with⟨n,c⟩|c
  ·exact .inl (Rd.pres p n c)
  ·exact .inr c
 | .obj C ks l,v,h=>by
  simp only[Rep]at h⊢;obtain⟨a,dx,vs,e,n,c,hl,r,ok⟩:=h;exact⟨a,dx,vs,e,(p a _ n c).1,(p a _ n c).2,hl,aN.mono p r,ok⟩
 | .adr _,_,h=>h
 | .xob a d ks l,v,h=>by
  simp only[Rep]at h⊢;obtain⟨vs,e,n,c,hl,r⟩:=h;exact⟨vs,e,(p d _ n c).1,(p d _ n c).2,hl,aN.mono p r⟩
theorem aN.mono (p:fG A H A' H'): ∀{l:List D} {vs:List V},aN K A H l vs->aN K A' H' l vs
 | [],_,h=>by simp only[aN]at h ⊢; exact h
 | d::ds,vs,h=>by
  simp only[aN]at h⊢;obtain⟨v,vr,e,r,rs⟩:=h;exact⟨v,vr,e,Rep.mono p r,aN.mono p rs⟩
end
theorem aN.length: ∀{l:List D} {vs:List V},aN K A H l vs->l.length=vs.length
 | [],_,h=>by simp only[aN]at h;subst h;rfl
 | d::ds,vs,h=>by
  simp only[aN]at h;obtain⟨v,vr,rfl,_,rs⟩:=h;simp only[length_cons,aN.length rs]
theorem aN.nil:aN K A H [] []:=by simp only[aN]
theorem aN.cons {d:D}{v:V}{l:List D}{vs:List V}(r:Rep K A H d v)(rs:aN K A H l vs):aN K A H (d::l) (v::vs):=by
 simp only[aN];exact⟨v,vs,rfl,r,rs⟩
theorem aN.uncons {d:D}{l:List D}{vs:List V}(h:aN K A H (d::l) vs): ∃v vr,vs=v::vr/\Rep K A H d v/\aN K A H l vr:=by
 simpa only[aN]using h
theorem aN.unnil {vs:List V}(h:aN K A H [] vs):vs=[]:=by simpa only[aN]using h
theorem aN.append: ∀{l m:List D} {vs ws:List V},aN K A H l vs->aN K A H m ws->aN K A H (l++m) (vs++ws)
 | [],_,_,_,h,g=>by rw[h.unnil];exact g
 | d::l,m,vs,ws,h,g=>by
  obtain⟨v,vr,rfl,r,rs⟩:=h.uncons;exact .cons r (aN.append rs g)
theorem aN.get: ∀{l:List D} {vs:List V} {i:Nat} {d:D},aN K A H l vs->l[i]? =some d-> ∃v,vs[i]? =some v/\Rep K A H d v
 | [],_,_,_,_,e=>by simp at e
 | d::l,vs,0,d',h,e=>by
  obtain⟨v,vr,rfl,r,rs⟩:=h.uncons;simp at e;subst e;exact⟨v,by simp,r⟩
 | d::l,vs,i+1,d',h,e=>by
  obtain⟨v,vr,rfl,r,rs⟩:=h.uncons;obtain⟨w,h1,h2⟩:=aN.get (i:=i) rs (by simpa using e)
  exact⟨w,by simpa using h1,h2⟩
theorem aN.set: ∀{l:List D} {vs:List V} {d:D} {v:V} (i:Nat),aN K A H l vs->Rep K A H d v->aN K A H (l.set i d) (vs.set i v)
 | [],_,_,_,_,h,_=>by rw[h.unnil];exact .nil
 | d'::l,vs,d,v,0,h,g=>by
  obtain⟨w,vr,rfl,r,rs⟩:=h.uncons;exact .cons g rs
 | d'::l,vs,d,v,i+1,h,g=>by
  obtain⟨w,vr,rfl,r,rs⟩:=h.uncons;exact .cons r (aN.set i rs g)
theorem aN.drop: ∀{l:List D} {vs:List V} (n:Nat),aN K A H l vs->aN K A H (l.drop n) (vs.drop n)
 | _,_,0,h=>h
 | [],_,n+1,h=>by rw[h.unnil];exact .nil
 | d::l,vs,n+1,h=>by
  obtain⟨v,vr,rfl,r,rs⟩:=h.uncons;exact aN.drop n rs
theorem aN.take: ∀{l:List D} {vs:List V} (n:Nat),aN K A H l vs->aN K A H (l.take n) (vs.take n)
 | _,_,0,h=>by simp only[List.take_zero];exact .nil
 | [],_,n+1,h=>by rw[h.unnil];exact .nil
 | d::l,vs,n+1,h=>by
  obtain⟨v,vr,rfl,r,rs⟩:=h.uncons;exact .cons r (aN.take n rs)
theorem aN.rep {l:List D}{vs:List V}(h:aN K A H l vs): ∀k:Nat,aN K A H (replicate k l).flatten (replicate k vs).flatten
 | 0=> .nil
 | k+1=>by
  rw[replicate_succ,replicate_succ,flatten_cons,flatten_cons];exact .append h (h.rep k)
theorem aN.reverse: ∀{l:List D} {vs:List V},aN K A H l vs->aN K A H l.reverse vs.reverse
 | [],_,h=>by rw[h.unnil];exact .nil
 | d::l,vs,h=>by
  obtain⟨v,vr,rfl,r,rs⟩:=h.uncons;rw[reverse_cons,reverse_cons];exact .append (aN.reverse rs) (.cons r .nil)
theorem fG.same (s:bU H H'):fG A H A H':=λb o n e=>⟨n,s b o e⟩
theorem fG.sub (s:bU H H')(h: ∀a,A' a->A a):fG A H A' H':=λb o n e=>⟨λq=>n (h b q),s b o e⟩
theorem fG.fresh {a:Addr}(s:bU H H')(n:H a=none):fG A H (λb=>A b\/b=a) H':=λb o nb e=>
 ⟨λq=>q.elim nb λz=>(by subst z;rw[n]at e;cases e),s b o e⟩
theorem fG.upd {a:Addr}{o:HO}(h:A a):fG A H A (upd H a o):=λb o' nb e=>⟨nb,by rw[cU (λz=>nb (by subst z;exact h))];exact e⟩
end
inductive B where
 | pu (d:D)|ow (l:List D)|bo (l:List D)
def B.d:B->D
 | .pu d=>d
 | .ow l=> .lst l
 | .bo l=> .lst l
abbrev Ev:=List (Option B)
def Own (ρ:Ev)(σ:L2.St):AS:=λa=> ∃(i:Nat) (l:List D),ρ[i]? =some (some (.ow l))/\σ[i]? =some (some (.ref a))
structure C0 where
 H0:Hp
 A0:AS
def Av (C:C0)(ρ:Ev)(σ:L2.St):AS:=λa=>C.A0 a\/Own ρ σ a
structure EOk (K:PySem.W.Frag)(C:C0)(ρ:Ev)(σ:L2.St)(H:Hp):Prop where
 len:ρ.length=σ.length
 pu: ∀(i:Nat) (d:D),ρ[i]? =some (some (.pu d))-> ∃v,σ[i]? =some (some v)/\Rep K (Av C ρ σ) H d v
 ow: ∀(i:Nat) (l:List D),ρ[i]? =some (some (.ow l))-> ∃a vs,σ[i]? =some (some (.ref a))/\H a=some (.lst vs)/\C.H0 a=none/\aN K (Av C ρ σ) H l vs
 inj: ∀(i j:Nat) (l l':List D) (a:Addr),ρ[i]? =some (some (.ow l))->ρ[j]? =some (some (.ow l'))->σ[i]? =some (some (.ref a))->σ[j]? =some (some (.ref a))->i=j
 bo: ∀(i:Nat) (l:List D),ρ[i]? =some (some (.bo l))-> ∃a vs,σ[i]? =some (some (.ref a))/\C.A0 a/\C.H0 a=some (.lst vs)/\aN K (Av C ρ σ) H l vs
 ext:bU C.H0 H
 a0: ∀a,C.A0 a->C.H0 a≠none
section
variable {K:PySem.W.Frag}{C:C0}{ρ ρ':Ev}{σ σ':L2.St}{H H':Hp}
theorem EOk.avSome (I:EOk K C ρ σ H){a:Addr}(h:Av C ρ σ a):H a≠none:=by
 rcases h with h| ⟨i,l,h1,h2⟩
 ·intro z;cases e:C.H0 a with
  | none=>exact I.a0 a h e
  | some o=>rw[I.ext a o e]at z;cases z
 ·obtain⟨b,vs,h3,h4,_⟩:=I.ow i l h1;rw[h2]at h3;cases h3;rw[h4];simp
theorem EOk.same (I:EOk K C ρ σ H)(s:bU H H'):EOk K C ρ σ H' where
 len:=I.len
 pu:=λi d h=>let ⟨v,h1,h2⟩:=I.pu i d h;⟨v,h1,h2.mono (.same s)⟩
 ow:=λi l h=>let ⟨a,vs,h1,h2,h3,h4⟩:=I.ow i l h;⟨a,vs,h1,s _ _ h2,h3,h4.mono (.same s)⟩
 inj:=I.inj
 bo:=λi l h=>let ⟨a,vs,h1,h2,h3,h4⟩:=I.bo i l h;⟨a,vs,h1,h2,h3,h4.mono (.same s)⟩
 ext:=I.ext.trans s
 a0:=I.a0
theorem get_set_ne {α:Type}{l:List α}{i j:Nat}{x:α}(h:i≠j):(l.set i x)[j]? =l[j]? :=by
 rw[getElem?_set];simp[h]
theorem cI {α:Type}{l:List α}{i:Nat}{x:α}(h:i<l.length):(l.set i x)[i]? =some x:=by
 rw[getElem?_set];simp[h]
theorem aH {α:Type}{l:List α}{i j:Nat}{x y:α}(h:(l.set i x)[j]? =some y):(i=j/\y=x/\i<l.length)\/(i≠j/\l[j]? =some y):=by
 by_cases e:i=j
 ·subst e;rw[getElem?_set]at h
  by_cases hl:i<l.length
  ·simp[hl]at h;exact .inl ⟨rfl,h.symm,hl⟩
  ·simp[hl]at h
 ·exact .inr ⟨e,by rw[get_set_ne e]at h;exact h⟩
def fX (K:PySem.W.Frag)(A:AS)(H H':Hp):B->V->Prop
 | .pu d,v=>Rep K A H' d v
 | .ow l,v=> ∃a vs,v= .ref a/\H a=none/\H' a=some (.lst vs)/\aN K (λb=>A b\/b=a) H' l vs
 | .bo _,_=>False
theorem fX.rep {A:AS}(hA: ∀a,A a->H a≠none): ∀{b:B} {v:V},fX K A H H' b v->Rep K A H' b.d v
 | .pu d,v,h=>h
 | .ow l,v,h=>by
  obtain⟨a,vs,e,n,h1,r⟩:=h;show Rep K A H' (.lst l) v;simp only[Rep];exact⟨a,vs,e,λz=>hA a z n,h1,r.mono (λb o nb q=>⟨λz=>nb (.inl z),q⟩)⟩
 | .bo l,v,h=>h.elim
theorem EOk.store (I:EOk K C ρ σ H){i:Nat}{b:B}{v:V}{H1:Hp}(s:bU H H1)(r:fX K (Av C ρ σ) H H1 b v)(hi:i<σ.length):EOk K C (ρ.set i (some b)) (σ.set i (some v)) H1:=by
 have I1:=I.same s;have hir:i<ρ.length:=by rw[I.len];exact hi
 cases b with
 | pu d=>
  have sub: ∀a,Av C (ρ.set i (some (.pu d))) (σ.set i (some v)) a->Av C ρ σ a:=by
   rintro a (z| ⟨j,l,h1,h2⟩)
   ·exact .inl z
   ·rcases aH h1 with⟨rfl,h3,_⟩| ⟨ne,h3⟩
    ·cases h3
    ·rw[get_set_ne ne]at h2;exact .inr ⟨j,l,h3,h2⟩
  refine⟨by rw[length_set,length_set];exact I.len,?_,?_,?_,?_,I1.ext,I.a0⟩
  rotate_right
  ·intro j l h;rcases aH h with⟨rfl,h3,_⟩| ⟨ne,h3⟩
   ·cases h3
   ·obtain⟨a,vs,h4,h5,h6,h7⟩:=I1.bo j l h3;exact⟨a,vs,by rw[get_set_ne ne];exact h4,h5,h6,h7.mono (.sub (.refl _) sub)⟩
  ·intro j d' h;rcases aH h with⟨rfl,h3,_⟩| ⟨ne,h3⟩
   ·cases h3;exact⟨v,cI hi,Rep.mono (.sub (.refl _) sub) r⟩
   ·obtain⟨v',h4,h5⟩:=I1.pu j d' h3;exact⟨v',by rw[get_set_ne ne];exact h4,h5.mono (.sub (.refl _) sub)⟩
  ·intro j l h;rcases aH h with⟨rfl,h3,_⟩| ⟨ne,h3⟩
   ·cases h3
   ·obtain⟨a,vs,h4,h5,h6,h7⟩:=I1.ow j l h3;exact⟨a,vs,by rw[get_set_ne ne];exact h4,h5,h6,h7.mono (.sub (.refl _) sub)⟩
  ·intro j k l l' a h1 h2 h3 h4;rcases aH h1 with⟨rfl,z,_⟩| ⟨ne,z⟩
   ·cases z
   ·rcases aH h2 with⟨rfl,z',_⟩| ⟨ne',z'⟩
    ·cases z'
    ·rw[get_set_ne ne]at h3;rw[get_set_ne ne']at h4;exact I.inj j k l l' a z z' h3 h4
 | ow l0=>
  obtain⟨a0,vs0,rfl,n0,e0,r0⟩:=r;have sub: ∀a,Av C (ρ.set i (some (.ow l0))) (σ.set i (some (.ref a0))) a->Av C ρ σ a\/a=a0:=by
   rintro a (z| ⟨j,l,h1,h2⟩)
   ·exact .inl (.inl z)
   ·rcases aH h1 with⟨rfl,h3,_⟩| ⟨ne,h3⟩
    ·rw[cI hi]at h2;cases h2;exact .inr rfl
    ·rw[get_set_ne ne]at h2;exact .inl (.inr ⟨j,l,h3,h2⟩)
  have P:fG (Av C ρ σ) H (Av C (ρ.set i (some (.ow l0))) (σ.set i (some (.ref a0)))) H1:=λb o nb e=>
   ⟨λq=>(sub b q).elim nb λz=>(by subst z;rw[n0]at e;cases e),s b o e⟩
  refine⟨by rw[length_set,length_set];exact I.len,?_,?_,?_,?_,I1.ext,I.a0⟩
  rotate_right
  ·intro j l h;rcases aH h with⟨rfl,h3,_⟩| ⟨ne,h3⟩
   ·cases h3
   ·obtain⟨a,vs,h4,h5,h6,h7⟩:=I.bo j l h3;exact⟨a,vs,by rw[get_set_ne ne];exact h4,h5,h6,h7.mono P⟩
  ·intro j d' h;rcases aH h with⟨rfl,h3,_⟩| ⟨ne,h3⟩
   ·cases h3
   ·obtain⟨v',h4,h5⟩:=I.pu j d' h3;exact⟨v',by rw[get_set_ne ne];exact h4,h5.mono P⟩
  ·intro j l h;rcases aH h with⟨rfl,h3,_⟩| ⟨ne,h3⟩
   ·cases h3;refine⟨a0,vs0,cI hi,e0,?_,r0.mono (λb o nb q=>⟨λz=>nb (sub b z),q⟩)⟩
    cases e:C.H0 a0 with
    | none=>rfl
    | some o=>rw[I.ext _ _ e]at n0;cases n0
   ·obtain⟨a,vs,h4,h5,h6,h7⟩:=I.ow j l h3;exact⟨a,vs,by rw[get_set_ne ne];exact h4,s _ _ h5,h6,h7.mono P⟩
  ·intro j k l l' a h1 h2 h3 h4;have old: ∀{j:Nat} {l:List D},ρ[j]? =some (some (.ow l))->σ[j]? ≠some (some (.ref a0)):=λ{j l} h z=>by
    obtain⟨b,vs,h4,h5,_⟩:=I.ow j l h;rw[z]at h4;cases h4;rw[n0]at h5;cases h5
   rcases aH h1 with⟨rfl,z,_⟩| ⟨ne,z⟩
   ·rw[cI hi]at h3;cases h3;rcases aH h2 with⟨rfl,z',_⟩| ⟨ne',z'⟩
    ·rfl
    ·rw[get_set_ne ne']at h4;exact absurd h4 (old z')
   ·rw[get_set_ne ne]at h3;rcases aH h2 with⟨rfl,z',_⟩| ⟨ne',z'⟩
    ·rw[cI hi]at h4;cases h4;exact absurd h3 (old z)
    ·rw[get_set_ne ne']at h4;exact I.inj j k l l' a z z' h3 h4
 | bo l0=>exact r.elim
theorem EOk.freeze (I:EOk K C ρ σ H){i:Nat}{l:List D}(h:ρ[i]? =some (some (.ow l))) :
  EOk K C (ρ.set i (some (.pu (.lst l)))) σ H/\(∀a,Own (ρ.set i (some (.pu (.lst l)))) σ a->Own ρ σ a)/\ ∃v,σ[i]? =some (some v)/\Rep K (Av C (ρ.set i (some (.pu (.lst l)))) σ) H (.lst l) v:=by
 have sub: ∀a,Own (ρ.set i (some (.pu (.lst l)))) σ a->Own ρ σ a:=by
  rintro a ⟨j,l',h1,h2⟩;rcases aH h1 with⟨rfl,h3,_⟩| ⟨ne,h3⟩
  ·cases h3
  ·exact⟨j,l',h3,h2⟩
 have subA: ∀a,Av C (ρ.set i (some (.pu (.lst l)))) σ a->Av C ρ σ a:=λa z=>z.imp id (sub a)
 obtain⟨a,vs,h1,h2,h3,h4⟩:=I.ow i l h;have na: ¬Av C (ρ.set i (some (.pu (.lst l)))) σ a:=by
  rintro(z| ⟨j,l',g1,g2⟩)
  ·exact I.a0 a z h3
  ·rcases aH g1 with⟨rfl,g3,_⟩| ⟨ne,g3⟩
   ·cases g3
   ·exact ne (I.inj i j l l' a h g3 h1 g2)
 have R:Rep K (Av C (ρ.set i (some (.pu (.lst l)))) σ) H (.lst l) (.ref a):=by
  simp only[Rep];exact⟨a,vs,rfl,na,h2,h4.mono (.sub (.refl _) subA)⟩
 refine⟨⟨by rw[length_set];exact I.len,?_,?_,?_,?_,I.ext,I.a0⟩,sub,.ref a,h1,R⟩
 rotate_right
 ·intro j l' g;rcases aH g with⟨rfl,g3,_⟩| ⟨ne,g3⟩
  ·cases g3
  ·obtain⟨a',vs',g4,g5,g6,g7⟩:=I.bo j l' g3;exact⟨a',vs',g4,g5,g6,g7.mono (.sub (.refl _) subA)⟩
 ·intro j d' g;rcases aH g with⟨rfl,g3,_⟩| ⟨ne,g3⟩
  ·cases g3;exact⟨_,h1,R⟩
  ·obtain⟨v',g4,g5⟩:=I.pu j d' g3;exact⟨v',g4,g5.mono (.sub (.refl _) subA)⟩
 ·intro j l' g;rcases aH g with⟨rfl,g3,_⟩| ⟨ne,g3⟩
  ·cases g3
  ·obtain⟨a',vs',g4,g5,g6,g7⟩:=I.ow j l' g3;exact⟨a',vs',g4,g5,g6,g7.mono (.sub (.refl _) subA)⟩
 ·intro j k l1 l2 a' g1 g2 g3 g4;rcases aH g1 with⟨rfl,z,_⟩| ⟨ne,z⟩
  ·cases z
  ·rcases aH g2 with⟨rfl,z',_⟩| ⟨ne',z'⟩
   ·cases z'
   ·exact I.inj j k l1 l2 a' z z' g3 g4
theorem EOk.write (I:EOk K C ρ σ H){i:Nat}{l l':List D}{a:Addr}{vs':List V}(h:ρ[i]? =some (some (.ow l)))(hs:σ[i]? =some (some (.ref a)))(r:aN K (Av C ρ σ) H l' vs') :
  EOk K C (ρ.set i (some (.ow l'))) σ (upd H a (.lst vs')):=by
 have hi:i<ρ.length:=(List.getElem?_eq_some_iff.mp h).1;have sub: ∀b,Av C (ρ.set i (some (.ow l'))) σ b->Av C ρ σ b:=by
  rintro b (z| ⟨j,l2,h1,h2⟩)
  ·exact .inl z
  ·rcases aH h1 with⟨rfl,h3,_⟩| ⟨ne,h3⟩
   ·exact .inr ⟨i,l,h,h2⟩
   ·exact .inr ⟨j,l2,h3,h2⟩
 have own:Av C ρ σ a:= .inr ⟨i,l,h,hs⟩;have P:fG (Av C ρ σ) H (Av C (ρ.set i (some (.ow l'))) σ) (upd H a (.lst vs')):=λb o nb e=>⟨λz=>nb (sub b z),(fG.upd own b o nb e).2⟩
 obtain⟨a1,vs,h1,h2,h3,h4⟩:=I.ow i l h;rw[hs]at h1;cases h1;refine⟨by rw[length_set];exact I.len,?_,?_,?_,?_,?_,I.a0⟩
 rotate_left 3
 ·intro j l2 g;rcases aH g with⟨rfl,g3,_⟩| ⟨ne,g3⟩
  ·cases g3
  ·obtain⟨a',vs',g4,g5,g6,g7⟩:=I.bo j l2 g3;exact⟨a',vs',g4,g5,g6,g7.mono P⟩
 rotate_left 1
 ·intro j d' g;rcases aH g with⟨rfl,g3,_⟩| ⟨ne,g3⟩
  ·cases g3
  ·obtain⟨v',g4,g5⟩:=I.pu j d' g3;exact⟨v',g4,g5.mono P⟩
 ·intro j l2 g;rcases aH g with⟨rfl,g3,_⟩| ⟨ne,g3⟩
  ·cases g3;exact⟨a,vs',hs,lN,h3,r.mono P⟩
  ·obtain⟨a',vs2,g4,g5,g6,g7⟩:=I.ow j l2 g3;refine⟨a',vs2,g4,?_,g6,g7.mono P⟩;rw[cU (λz=> ?_)]
   ·exact g5
   ·subst z;exact ne (I.inj i j l l2 a' h g3 hs g4)
 ·intro j k l1 l2 a' g1 g2 g3 g4;have old: ∀{j:Nat} {l1:List D},(ρ.set i (some (.ow l')))[j]? =some (some (.ow l1))-> ∃l3,ρ[j]? =some (some (.ow l3)):=λ{j l1} g=>by
   rcases aH g with⟨rfl,z,_⟩| ⟨ne,z⟩
   ·exact⟨l,h⟩
   ·exact⟨l1,z⟩
  obtain⟨_,q1⟩:=old g1;obtain⟨_,q2⟩:=old g2;exact I.inj j k _ _ a' q1 q2 g3 g4
 ·intro b o e;rw[cU (λz=> ?_)]
  ·exact I.ext b o e
  ·subst z;rw[h3]at e;cases e
def C0.raise (C:C0)(ρ:Ev)(σ:L2.St)(H:Hp)(D:(a:Addr)->Decidable (Own ρ σ a)):C0:=⟨λb=> @ite _ (Own ρ σ b) (D b) none (H b),C.A0⟩
open Classical in
theorem EOk.raise (I:EOk K C ρ σ H):EOk K (C.raise ρ σ H λ_=>inferInstance) ρ σ H/\bU C.H0 (C.raise ρ σ H λ_=>inferInstance).H0:=by
 have e1: ∀b,Own ρ σ b->(C.raise ρ σ H λ_=>inferInstance).H0 b=none:=λb h=>if_pos h
 have e2: ∀b,¬Own ρ σ b->(C.raise ρ σ H λ_=>inferInstance).H0 b=H b:=λb h=>if_neg h
 have no: ∀b o,C.H0 b=some o-> ¬Own ρ σ b:=λb o e ⟨i,l,h1,h2⟩=>by
  obtain⟨a,vs,h3,h4,h5,_⟩:=I.ow i l h1;rw[h2]at h3;cases h3;rw[h5]at e;cases e
 have s1:bU C.H0 (C.raise ρ σ H λ_=>inferInstance).H0:=λb o e=>by rw[e2 b (no b o e)];exact I.ext b o e
 refine⟨⟨I.len,I.pu,λi l h=> ?_,I.inj,λi l h=> ?_,λb o e=> ?_,λa h z=> ?_⟩,s1⟩
 ·obtain⟨a,vs,h3,h4,h5,h6⟩:=I.ow i l h;exact⟨a,vs,h3,h4,e1 a ⟨i,l,h,h3⟩,h6⟩
 ·obtain⟨a,vs,h3,h4,h5,h6⟩:=I.bo i l h;exact⟨a,vs,h3,h4,s1 _ _ h5,h6⟩
 ·by_cases q:Own ρ σ b
  ·rw[e1 b q]at e;cases e
  ·rw[e2 b q]at e;exact e
 ·cases e:C.H0 a with
  | none=>exact I.a0 a h e
  | some o=>rw[s1 a o e]at z;cases z
theorem EOk.lower {C C':C0}(I:EOk K C' ρ σ H)(s:bU C.H0 C'.H0)(e:C'.A0=C.A0)(ha: ∀a,C.A0 a->C.H0 a≠none):EOk K C ρ σ H:=by
 obtain⟨H0',A0'⟩:=C';obtain⟨H0,A0⟩:=C;have e':A0'=A0:=e;subst e';refine⟨I.len,I.pu,λi l h=> ?_,I.inj,λi l h=> ?_,s.trans I.ext,ha⟩
 ·obtain⟨a,vs,h3,h4,h5,h6⟩:=I.ow i l h;exact⟨a,vs,h3,h4,s.free h5,h6⟩
 ·obtain⟨a,vs,h3,h4,h5,h6⟩:=I.bo i l h;refine⟨a,vs,h3,h4,?_,h6⟩;cases e:H0 a with
  | none=>exact absurd e (ha a h4)
  | some o=>
   have:=s a o e;have h5':H0' a=some (.lst vs):=h5;have this':H0' a=some o:=this;rw[h5']at this';cases this';exact e
end
end M
end
section
namespace M
open PySem PySem.Spec PyProof.Rows L2
def Frz (ρ ρ':Ev):Prop:=ρ'.length=ρ.length/\ ∀i:Nat,ρ'[i]? =ρ[i]? \/ ∃l:List D,ρ[i]? =some (some (.ow l))/\ρ'[i]? =some (some (.pu (.lst l)))
theorem Frz.refl (ρ:Ev):Frz ρ ρ:=⟨rfl,λ_=> .inl rfl⟩
theorem Frz.trans {a b c:Ev}(h:Frz a b)(g:Frz b c):Frz a c:=by
 refine⟨g.1.trans h.1,λi=> ?_⟩
 rcases g.2 i with e| ⟨l,e1,e2⟩
 ·rcases h.2 i with e'| ⟨l,e1,e2⟩
  ·exact .inl (e.trans e')
  ·exact .inr ⟨l,e1,e.trans e2⟩
 ·rcases h.2 i with e'| ⟨l',e3,e4⟩
  ·exact .inr ⟨l,e'▸e1,e2⟩
  ·rw[e4]at e1;cases e1
theorem Frz.own {ρ ρ':Ev}{σ:L2.St}(f:Frz ρ ρ'){a:Addr}(h:Own ρ' σ a):Own ρ σ a:=by
 obtain⟨i,l,h1,h2⟩:=h;rcases f.2 i with e| ⟨l',_,e2⟩
 ·exact⟨i,l,e▸h1,h2⟩
 ·rw[e2]at h1;cases h1
theorem Frz.set {ρ:Ev}{i:Nat}{l:List D}(h:ρ[i]? =some (some (.ow l))):Frz ρ (ρ.set i (some (.pu (.lst l)))):=by
 refine⟨length_set,λj=> ?_⟩
 by_cases e:i=j
 ·subst e;exact .inr ⟨l,h,cI (List.getElem?_eq_some_iff.mp h).1⟩
 ·exact .inl (get_set_ne e)
section
variable {K:PySem.W.Frag}{C:C0}{ρ ρ':Ev}{σ:L2.St}{H H':Hp}
theorem Frz.av (f:Frz ρ ρ'){a:Addr}(h:Av C ρ' σ a):Av C ρ σ a:=h.imp id f.own
theorem EOk.frz (I:EOk K C ρ σ H)(f:Frz ρ ρ'):EOk K C ρ' σ H:=by
 have ow': ∀{j:Nat} {l:List D},ρ'[j]? =some (some (.ow l))->ρ[j]? =some (some (.ow l)):=λ{j l} h=>by
  rcases f.2 j with e| ⟨l',_,e2⟩
  ·exact e▸h
  ·rw[e2]at h;cases h
 refine⟨by rw[f.1];exact I.len,λi d h=> ?_,λi l h=> ?_,λi j l l' a h1 h2=>I.inj i j l l' a (ow' h1) (ow' h2),λi l h=> ?_,I.ext,I.a0⟩
 ·rcases f.2 i with e| ⟨l,e1,e2⟩
  ·obtain⟨v,h1,h2⟩:=I.pu i d (e▸h);exact⟨v,h1,h2.mono (.sub (.refl _) λa=>f.av)⟩
  ·rw[e2]at h;cases h;obtain⟨a,vs,h1,h2,h3,h4⟩:=I.ow i l e1;refine⟨.ref a,h1,?_⟩;simp only[Rep];refine⟨a,vs,rfl,?_,h2,h4.mono (.sub (.refl _) λa=>f.av)⟩
   rintro(z| ⟨j,l',g1,g2⟩)
   ·exact I.a0 a z h3
   ·have:=I.inj i j l l' a e1 (ow' g1) h1 g2;subst this;rw[e2]at g1;cases g1
 ·obtain⟨a,vs,h1,h2,h3,h4⟩:=I.ow i l (ow' h);exact⟨a,vs,h1,h2,h3,h4.mono (.sub (.refl _) λa=>f.av)⟩
 ·have h':ρ[i]? =some (some (.bo l)):=by
   rcases f.2 i with e| ⟨l',_,e2⟩
   ·exact e▸h
   ·rw[e2]at h;cases h
  obtain⟨a,vs,h1,h2,h3,h4⟩:=I.bo i l h';exact⟨a,vs,h1,h2,h3,h4.mono (.sub (.refl _) λa=>f.av)⟩
end
abbrev UE:=Ev->(B->Ev->Prop)->Prop
abbrev UV:=Ev->(D->Ev->Prop)->Prop
abbrev UA:=Ev->(List D->Ev->Prop)->Prop
abbrev UT:=Ev->(Bool->Ev->Prop)->Prop
def lE (K:PySem.W.Frag)(t:UE):TE:=λσ H Q=> ∃C ρ Q0,EOk K C ρ σ H/\t ρ Q0/\
 ∀b ρ' v H',Q0 b ρ'->Frz ρ ρ'->bU H H'->fX K (Av C ρ' σ) H H' b v->Q v H'
def lA (K:PySem.W.Frag)(t:UA):TA:=λσ H Q=> ∃C ρ Q0,EOk K C ρ σ H/\t ρ Q0/\
 ∀ds ρ' vs H',Q0 ds ρ'->Frz ρ ρ'->bU H H'->aN K (Av C ρ' σ) H' ds vs->Q vs H'
def lT (K:PySem.W.Frag)(t:UT):TT:=λσ H Q=> ∃C ρ Q0,EOk K C ρ σ H/\t ρ Q0/\
 ∀b ρ' H',Q0 b ρ'->Frz ρ ρ'->bU H H'->Q b H'
def aB8 (K:PySem.W.Frag)(A:AS)(H:Hp):D->V->Prop
 | .tup l,v=> ∃a vs,v= .ref a/\SqT K H a vs/\aN K A H l vs
 | .lst l,v=> ∃a vs,v= .ref a/\H a=some (.lst vs)/\aN K A H l vs
 | .rol l,v=> ∃a vs,v= .ref a/\SqL K H a vs/\aN K A H l vs
 | d,v=>Rep K A H d v
def lV (K:PySem.W.Frag)(t:UV):TE:=λσ H Q=> ∃C ρ Q0,EOk K C ρ σ H/\t ρ Q0/\
 ∀d ρ' v H',Q0 d ρ'->Frz ρ ρ'->bU H H'->aB8 K (Av C ρ' σ) H' d v->Q v H'
def PU (X:Cx)(e:Expr)(t:UE):Prop:=PE X e (lE X.K t)
def PUV (X:Cx)(e:Expr)(t:UV):Prop:=PE X e (lV X.K t)
def PUA (X:Cx)(es:List Expr)(t:UA):Prop:=PA X es (lA X.K t)
def PUT (X:Cx)(e:Expr)(t:UT):Prop:=PT X e (lT X.K t)
def PUW (X:Cx)(e:Expr)(t:UT):Prop:=PW X e (lT X.K t)
section
variable {K:PySem.W.Frag}{A:AS}{H:Hp}
theorem Rep.one: ∀{d:D} {v:V},Rep K A H d v->aB8 K A H d v
 | .non,_,h=>h
 | .bl _,_,h=>h
 | .int _,_,h=>h
 | .str _,_,h=>h
 | .ty _,_,h=>h
 | .tup l,v,h=>by
  simp only[Rep]at h;obtain⟨a,vs,e,c,r⟩:=h;exact⟨a,vs,e,c.imp And.right id,r⟩
 | .lst l,v,h=>by
  simp only[Rep]at h;obtain⟨a,vs,e,n,c,r⟩:=h;exact⟨a,vs,e,c,r⟩
 | .rol l,v,h=>by
  simp only[Rep]at h;obtain⟨a,vs,e,c,r⟩:=h;exact⟨a,vs,e,c.imp And.right id,r⟩
 | .obj _ _ _,_,h=>h
 | .adr _,_,h=>h
 | .xob _ _ _ _,_,h=>h
end
theorem bP {X:Cx}{e:Expr}{t t':TE}(h:PE X e t)(i: ∀σ H Q,t' σ H Q->t σ H Q):PE X e t':=λpins s σ H Q I q=>h pins s σ H Q I (i σ H Q q)
theorem aQ5 {X:Cx}{es:List Expr}{t t':TA}(h:PA X es t)(i: ∀σ H Q,t' σ H Q->t σ H Q):PA X es t':=λpos pins s σ H Q I q=>h pos pins s σ H Q I (i σ H Q q)
theorem a57 {X:Cx}{e:Expr}{t t':TT}(h:PT X e t)(i: ∀σ H Q,t' σ H Q->t σ H Q):PT X e t':=λpins s σ H Q I q=>h pins s σ H Q I (i σ H Q q)
theorem b83 {X:Cx}{e:Expr}{t t':TT}(h:PW X e t)(i: ∀σ H Q,t' σ H Q->t σ H Q):PW X e t':=λw pins s σ H Q I q=>h w pins s σ H Q I (i σ H Q q)
section
variable {X:Cx}{a b c e o:Expr}{es fY:List Expr}{pos:Pos}{ta tb tc:UE}
def uC (d:D):UE:=λρ Q=>Q (.pu d) ρ
theorem aB {i j pos}:PU X (.Constant (.int i) j pos) (uC (.int i)):=bP pe_int λσ H Q ⟨C,ρ,Q0,I,h,k⟩=>k _ ρ _ H h (.refl _) (.refl _) (show Rep _ _ _ _ _ by simp only[Rep])
theorem rW {b j pos}:PU X (.Constant (.bool b) j pos) (uC (.bl b)):=bP pe_bl λσ H Q ⟨C,ρ,Q0,I,h,k⟩=>k _ ρ _ H h (.refl _) (.refl _) (show Rep _ _ _ _ _ by simp only[Rep])
theorem iO {j pos}:PU X (.Constant .none j pos) (uC .non):=bP pe_non λσ H Q ⟨C,ρ,Q0,I,h,k⟩=>k _ ρ _ H h (.refl _) (.refl _) (show Rep _ _ _ _ _ by simp only[Rep])
theorem aV {x j pos}:PU X (.Constant (.str x) j pos) (uC (.str x)):=bP pe_str λσ H Q ⟨C,ρ,Q0,I,h,k⟩=>k _ ρ _ H h (.refl _) (.refl _) (show Rep _ _ _ _ _ by simp only[Rep])
def yI (ρ:Ev)(i:Nat)(Q:B->Ev->Prop):Prop:=match ρ[i]? with
 | some (some (.pu d))=>Q (.pu d) ρ
 | some (some (.ow l))=>Q (.pu (.lst l)) (ρ.set i (some (.pu (.lst l))))
 | _=>False
def aA (i:Nat):UE:=λρ Q=>yI ρ i Q
theorem eY (i:Nat){x:Str}{pos:Pos}(h:PE X (.Name x pos) (vU i)):PU X (.Name x pos) (aA i):=bP h λσ H Q ⟨C,ρ,Q0,I,h,k⟩=>by
 unfold aA yI at h;split at h
 ·rename_i d e
  obtain⟨v,h1,h2⟩:=I.pu i d e;exact⟨v,h1,k _ ρ v H h (.refl _) (.refl _) h2⟩
 ·rename_i l e
  obtain⟨_,_,v,h1,h2⟩:=I.freeze e;exact⟨v,h1,k _ _ v H h (.set e) (.refl _) h2⟩
 ·exact h.elim
def aQ6 (ρ:Ev)(i:Nat)(Q:D->Ev->Prop):Prop:=match ρ[i]? with
 | some (some (.pu d))=>Q d ρ
 | some (some (.ow l))=>Q (.lst l) ρ
 | some (some (.bo l))=>Q (.lst l) ρ
 | _=>False
def aQ (i:Nat):UV:=λρ Q=>aQ6 ρ i Q
theorem oP (i:Nat){x:Str}{pos:Pos}(h:PE X (.Name x pos) (vU i)):PUV X (.Name x pos) (aQ i):=bP h λσ H Q ⟨C,ρ,Q0,I,h,k⟩=>by
 unfold aQ aQ6 at h;split at h
 ·rename_i d e
  obtain⟨v,h1,h2⟩:=I.pu i d e;exact⟨v,h1,k _ ρ v H h (.refl _) (.refl _) h2.one⟩
 ·rename_i l e
  obtain⟨a,vs,h1,h2,h3,h4⟩:=I.ow i l e;exact⟨_,h1,k _ ρ _ H h (.refl _) (.refl _) ⟨a,vs,rfl,h2,h4⟩⟩
 ·rename_i l e
  obtain⟨a,vs,h1,h2,h3,h4⟩:=I.bo i l e;exact⟨_,h1,k _ ρ _ H h (.refl _) (.refl _) ⟨a,vs,rfl,I.ext _ _ h3,h4⟩⟩
 ·exact h.elim
def uV (t:UE):UV:=λρ Q=>t ρ λb ρ1=>Q b.d ρ1
theorem EOk.avF {K:PySem.W.Frag}{C:C0}{ρ ρ':Ev}{σ:L2.St}{H:Hp}(I:EOk K C ρ σ H)(f:Frz ρ ρ'){a:Addr}(h:Av C ρ' σ a):H a≠none:=I.avSome (f.av h)
theorem b84 (h:PU X e ta):PUV X e (uV ta):=bP h λσ H Q ⟨C,ρ,Q0,I,h,k⟩=>
 ⟨C,ρ,_,I,h,λb ρ' v H' q f s r=>k b.d ρ' v H' q f s (r.rep λa z=>I.avF f z).one⟩
theorem vE {x:Str}{v:V}{d:D}{pos:Pos}(h:PE X (.Name x pos) (tC v))(r: ∀A H,Rep X.K A H d v):PU X (.Name x pos) (uC d):=bP h λσ H Q ⟨C,ρ,Q0,I,h,k⟩=>k _ ρ _ H h (.refl _) (.refl _) (r _ _)
def OpU (X:Cx)(f:Value->Value->Sem Value)(g:D->D->(B->Prop)->Prop):Prop:=
 ∀(A:AS) (H:Hp) (d e:D) (v w:V) (Q0:B->Prop) (Q:VK),(∀a,A a->H a≠none)->Rep X.K A H d v->Rep X.K A H e w->g d e Q0->
  (∀b v' H',Q0 b->bU H H'->fX X.K A H H' b v'->Q v' H')-> ∃r,OpR X f r/\r v w H Q
def uOp (g:D->D->(B->Prop)->Prop)(ta tb:UE):UE:=λρ Q=>ta ρ λx ρ1=>tb ρ1 λy ρ2=>g x.d y.d λb=>Q b ρ2
theorem a58 {f:Value->Value->Sem Value}:OpR X f (λx y H Q=> ∃r,OpR X f r/\r x y H Q):=λpins s σ H x y v u Q I rx ry ⟨r,hr,q⟩=>hr pins s σ H x y v u Q I rx ry q
theorem fX.from {K:PySem.W.Frag}{A:AS}{H0 H H':Hp}(s:bU H0 H): ∀{b:B} {v:V},fX K A H H' b v->fX K A H0 H' b v
 | .pu _,_,h=>h
 | .ow _,_,⟨a,vs,e,n,h1,r⟩=>⟨a,vs,e,s.free n,h1,r⟩
 | .bo _,_,h=>h.elim
theorem lOp {f:Value->Value->Sem Value}{g:D->D->(B->Prop)->Prop}(ho:OpU X f g)(σ:L2.St)(H:Hp)(Q:VK)(h:lE X.K (uOp g ta tb) σ H Q) :
  tOp (λx y H Q=> ∃r,OpR X f r/\r x y H Q) (lE X.K ta) (lE X.K tb) σ H Q:=by
 obtain⟨C,ρ,Q0,I,h,k⟩:=h;refine⟨C,ρ,_,I,h,λx ρ1 v H1 q1 f1 s1 r1=> ?_⟩
 have I1:=(I.frz f1).same s1;refine⟨C,ρ1,_,I1,q1,λy ρ2 w H2 q2 f2 s2 r2=> ?_⟩
 have I2:=(I1.frz f2).same s2;have hA: ∀a,Av C ρ2 σ a->H2 a≠none:=λa z=>I2.avSome z
 refine ho (Av C ρ2 σ) H2 x.d y.d v w _ Q hA ((r1.rep λa z=>I.avF f1 z).mono (.sub s2 λa=>f2.av)) (r2.rep λa z=>I1.avF f2 z) q2 λb v' H' q s r=> ?_
 exact k b ρ2 v' H' q (f1.trans f2) (s1.trans (s2.trans s)) (r.from (s1.trans s2))
theorem aM {op:Operator}{g:D->D->(B->Prop)->Prop}(ho:OpU X (binaryOp op) g)(ha:PU X a ta)(hb:PU X b tb):PU X (.BinOp a op b pos) (uOp g ta tb):=
 bP (pe_op a58 ha hb) (lOp ho)
theorem rH {op:CmpOp}{g:D->D->(B->Prop)->Prop}(ho:OpU X (compareOp op) g)(ha:PU X a ta)(hb:PU X b tb)(hm:behindInMarks op b=false):PU X (.Compare a [op] [b] pos) (uOp g ta tb):=
 bP (b02 a58 ha hb hm) (lOp ho)
def isB (Q:Bool->Ev->Prop):B->Ev->Prop:=λb ρ=>match b with
 | .pu (.bl k)=>Q k ρ
 | _=>False
def bB (t:UE):UT:=λρ Q=>t ρ (isB Q)
theorem b11 {t:UE}(σ:L2.St)(H:Hp)(Q:Bool->Hp->Prop)(h:lT X.K (bB t) σ H Q):lE X.K t σ H λx H'=> ∃k,x= .bl k/\Q k H':=by
 obtain⟨C,ρ,Q0,I,h,k⟩:=h;refine⟨C,ρ,_,I,h,λb ρ' v H' q f s r=> ?_⟩
 unfold isB at q;split at q
 ·rename_i k'
  refine⟨k',?_,k k' ρ' H' q f s⟩
  have r':Rep X.K (Av C ρ' σ) H' (.bl k') v:=r
  simpa only[Rep]using r'
 ·exact q.elim
theorem eX (h:PU X e ta)(he: ∀whole,isTrue e X.env whole=(do let v<-whole;standAt e.pos;holding [v] (truthy v)):=by intro _;rfl):PUT X e (bB ta):=
 a57 (pt_val h he) b11
theorem aP {op:CmpOp}{g:D->D->(B->Prop)->Prop}(ho:OpU X (compareOp op) g)(ha:PU X a ta)(hb:PU X b tb)(hm:behindInMarks op b=false):PUT X (.Compare a [op] [b] pos) (bB (uOp g ta tb)):=
 a57 (b03 a58 ha hb hm) λσ H Q h=>lOp ho σ H _ (b11 σ H Q h)
def xL (t u:UT):UT:=λρ Q=>t ρ λc ρ1=>if c=true then u ρ1 Q else Q false ρ1
def uOr (t u:UT):UT:=λρ Q=>t ρ λc ρ1=>if c=true then Q true ρ1 else u ρ1 Q
def uO (t:UT):UT:=λρ Q=>t ρ λc ρ1=>Q (!c) ρ1
variable {tA tB:UT}
theorem oQ (ha:PUT X a tA):PUW X (.BoolOp .And [a] pos) tA:=aZ6 ha
theorem j5 (ha:PUT X a tA):PUW X (.BoolOp .Or [a] pos) tA:=pw_or1 ha
theorem kL (ha:PUT X a tA)(hb:PUW X (.BoolOp .And (b::fY) pos) tB):PUW X (.BoolOp .And (a::b::fY) pos) (xL tA tB):=
 b83 (pw_and ha hb) λσ H Q ⟨C,ρ,Q0,I,h,k⟩=>⟨C,ρ,_,I,h,λc ρ1 H1 q f s=>by
  cases c with
  | true=>
   rw[if_pos rfl]at q⊢;exact⟨C,ρ1,Q0,(I.frz f).same s,q,λb ρ2 H2 q2 f2 s2=>k b ρ2 H2 q2 (f.trans f2) (s.trans s2)⟩
  | false=>
   rw[if_neg Bool.false_ne_true]at q⊢;exact k _ _ _ q f s⟩
theorem fZ (ha:PUT X a tA)(hb:PUW X (.BoolOp .Or (b::fY) pos) tB):PUW X (.BoolOp .Or (a::b::fY) pos) (uOr tA tB):=
 b83 (pw_or ha hb) λσ H Q ⟨C,ρ,Q0,I,h,k⟩=>⟨C,ρ,_,I,h,λc ρ1 H1 q f s=>by
  cases c with
  | true=>
   rw[if_pos rfl]at q⊢;exact k _ _ _ q f s
  | false=>
   rw[if_neg Bool.false_ne_true]at q⊢;exact⟨C,ρ1,Q0,(I.frz f).same s,q,λb ρ2 H2 q2 f2 s2=>k b ρ2 H2 q2 (f.trans f2) (s.trans s2)⟩⟩
theorem PUW.pt (h:PUW X e tA):PUT X e tA:=PW.pt h
theorem iD (ha:PUT X a tA):PUT X (.UnaryOp .Not a pos) (uO tA):=
 a57 (pt_not ha) λσ H Q ⟨C,ρ,Q0,I,h,k⟩=>⟨C,ρ,_,I,h,λc ρ1 H1 q f s=>k _ ρ1 H1 q f s⟩
def a59 (t u:UE):UE:=λρ Q=>t ρ λx ρ1=>isB (λc ρ1=>if c=true then u ρ1 Q else Q (.pu (.bl false)) ρ1) x ρ1
def uOrV (t u:UE):UE:=λρ Q=>t ρ λx ρ1=>isB (λc ρ1=>if c=true then Q (.pu (.bl true)) ρ1 else u ρ1 Q) x ρ1
def aQ7 (t:UE):UE:=λρ Q=>t ρ λx ρ1=>isB (λc ρ1=>Q (.pu (.bl (!c))) ρ1) x ρ1
theorem zS {Q:Bool->Ev->Prop}{b:B}{ρ:Ev}{K:PySem.W.Frag}{A:AS}{H H':Hp}{v:V}(h:isB Q b ρ)(r:fX K A H H' b v): ∃k,v= .bl k/\Q k ρ:=by
 unfold isB at h;split at h
 ·rename_i k'
  have r':Rep K A H' (.bl k') v:=r;exact⟨k',by simpa only[Rep]using r',h⟩
 ·exact h.elim
theorem dG {K:PySem.W.Frag}{A:AS}{H H':Hp}{k:Bool}:fX K A H H' (.pu (.bl k)) (.bl k):=by
 show Rep K A H' (.bl k) (.bl k)
 simp only[Rep]
theorem zT {op}(h:PU X a ta):PU X (.BoolOp op [a] pos) ta:=pe_one h
theorem aB9 (ha:PU X a ta)(hb:PU X (.BoolOp .And (b::fY) pos) tb):PU X (.BoolOp .And (a::b::fY) pos) (a59 ta tb):=
 bP (pe_and ha hb) λσ H Q ⟨C,ρ,Q0,I,h,k⟩=>⟨C,ρ,_,I,h,λx ρ1 v H1 q f s r=>by
  obtain⟨c,rfl,q⟩:=zS q r;refine⟨c,rfl,?_⟩;cases c with
  | true=>
   rw[if_pos rfl]at q⊢;exact⟨C,ρ1,Q0,(I.frz f).same s,q,λb ρ2 v H2 q2 f2 s2 r2=>k b ρ2 v H2 q2 (f.trans f2) (s.trans s2) (r2.from s)⟩
  | false=>
   rw[if_neg Bool.false_ne_true]at q⊢;exact k _ _ _ _ q f s dG⟩
theorem pu_or (ha:PU X a ta)(hb:PU X (.BoolOp .Or (b::fY) pos) tb):PU X (.BoolOp .Or (a::b::fY) pos) (uOrV ta tb):=
 bP (pe_or ha hb) λσ H Q ⟨C,ρ,Q0,I,h,k⟩=>⟨C,ρ,_,I,h,λx ρ1 v H1 q f s r=>by
  obtain⟨c,rfl,q⟩:=zS q r;refine⟨c,rfl,?_⟩;cases c with
  | true=>
   rw[if_pos rfl]at q⊢;exact k _ _ _ _ q f s dG
  | false=>
   rw[if_neg Bool.false_ne_true]at q⊢;exact⟨C,ρ1,Q0,(I.frz f).same s,q,λb ρ2 v H2 q2 f2 s2 r2=>k b ρ2 v H2 q2 (f.trans f2) (s.trans s2) (r2.from s)⟩⟩
theorem pu_not (ha:PU X a ta):PU X (.UnaryOp .Not a pos) (aQ7 ta):=
 bP (pe_not ha) λσ H Q ⟨C,ρ,Q0,I,h,k⟩=>⟨C,ρ,_,I,h,λx ρ1 v H1 q f s r=>by
  obtain⟨c,rfl,q⟩:=zS q r;exact⟨c,rfl,k _ _ _ _ q f s dG⟩⟩
def uIf (t:UT)(ta tb:UE):UE:=λρ Q=>t ρ λc ρ1=>if c=true then ta ρ1 Q else tb ρ1 Q
theorem aQ8 (hc:PUT X c tA)(ha:PU X a ta)(hb:PU X b tb):PU X (.IfExp c a b pos) (uIf tA ta tb):=
 bP (aO8 hc ha hb) λσ H Q ⟨C,ρ,Q0,I,h,k⟩=>⟨C,ρ,_,I,h,λc ρ1 H1 q f s=>by
  have I1:=(I.frz f).same s;cases c with
  | true=>
   dsimp only at q⊢;rw[if_pos rfl]at q⊢;exact⟨C,ρ1,Q0,I1,q,λb ρ2 v H2 q2 f2 s2 r2=>k b ρ2 v H2 q2 (f.trans f2) (s.trans s2) (r2.from s)⟩
  | false=>
   dsimp only at q⊢;rw[if_neg Bool.false_ne_true]at q⊢;exact⟨C,ρ1,Q0,I1,q,λb ρ2 v H2 q2 f2 s2 r2=>k b ρ2 v H2 q2 (f.trans f2) (s.trans s2) (r2.from s)⟩⟩
def aE:UA:=λρ Q=>Q [] ρ
def a6 (t:UE)(u:UA):UA:=λρ Q=>t ρ λx ρ1=>u ρ1 λxs ρ2=>Q (x.d::xs) ρ2
theorem a8:PUA X [] aE:=aQ5 zM λσ H Q ⟨C,ρ,Q0,I,h,k⟩=>k [] ρ [] H h (.refl _) (.refl _) .nil
theorem a7 {t:UA}(ha:PU X e ta)(hr:PUA X es t)(hs:starEach (e::es) X.env=(false,eval e X.env)::starEach es X.env:=by rfl):PUA X (e::es) (a6 ta t):=
 aQ5 (vC ha hr hs) λσ H Q ⟨C,ρ,Q0,I,h,k⟩=>⟨C,ρ,_,I,h,λx ρ1 v H1 q1 f1 s1 r1=>by
  have I1:=(I.frz f1).same s1;refine⟨C,ρ1,_,I1,q1,λxs ρ2 vs H2 q2 f2 s2 r2=> ?_⟩
  exact k _ ρ2 _ H2 q2 (f1.trans f2) (s1.trans s2) (.cons ((r1.rep λa z=>I.avF f1 z).mono (.sub s2 λa=>f2.av)) r2)⟩
def mR (t:UA):UE:=λρ Q=>t ρ λl ρ1=>l.length<=sizeLine/\Q (.pu (.tup l)) ρ1
def iP (t:UA):UE:=λρ Q=>t ρ λl ρ1=>l.length<=sizeLine/\Q (.ow l) ρ1
theorem bI {H:Hp}{p:Addr}(h:H p=none)(o:HO):bU H (upd H p o):=λb u q=>by rw[cU (gQ q h)];exact q
theorem dC {K:PySem.W.Frag}{A:AS}{H:Hp}{p:Addr}{l:List D}{vs:List V}(hA: ∀a,A a->H a≠none)(n:H p=none)(r:aN K A H l vs):Rep K A (upd H p (.tup vs)) (.tup l) (.ref p):=by
 simp only[Rep];exact⟨p,vs,rfl,.inl ⟨λz=>hA p z n,.inl lN⟩,r.mono (.same (bI n _))⟩
theorem cF {K:PySem.W.Frag}{A:AS}{H H0:Hp}{p:Addr}{l:List D}{vs:List V}(s:bU H0 H)(n:H p=none)(r:aN K A H l vs):fX K A H0 (upd H p (.lst vs)) (.ow l) (.ref p):=
 ⟨p,vs,rfl,s.free n,lN,r.mono (.fresh (bI n _) n)⟩
theorem g8 {t:UA}{x1}(h:PUA X es t):PU X (.Tuple es x1 pos) (mR t):=
 bP (aP7 h) λσ H Q ⟨C,ρ,Q0,I,h,k⟩=>⟨C,ρ,_,I,h,λl ρ1 vs H1 q f s r=>by
  obtain⟨hz,q⟩:=q;refine⟨by rw[<-r.length];exact hz,λp n=> ?_⟩
  have I1:=(I.frz f).same s;exact k _ ρ1 _ _ q f (s.trans (bI n _)) (dC (λa z=>I1.avSome z) n r)⟩
theorem fH {t:UA}(h:PUA X es t):PU X (.List es pos) (iP t):=
 bP (pe_lst h) λσ H Q ⟨C,ρ,Q0,I,h,k⟩=>⟨C,ρ,_,I,h,λl ρ1 vs H1 q f s r=>by
  obtain⟨hz,q⟩:=q;refine⟨by rw[<-r.length];exact hz,λp n=> ?_⟩
  exact k _ ρ1 _ _ q f (s.trans (bI n _)) (cF s n r)⟩
abbrev Φ:=List D->(B->Prop)->Prop
def spP (K:PySem.W.Frag)(φ:Φ):Sp:=λvs H Q _=> ∃A ds Q0,(∀a,A a->H a≠none)/\aN K A H ds vs/\φ ds Q0/\ ∀b v H',Q0 b->bU H H'->fX K A H H' b v->Q v H'
def aK (φ:Φ)(t:UA):UE:=λρ Q=>t ρ λds ρ1=>φ ds λb=>Q b ρ1
theorem lCall {φ:Φ}{t:UA}{E:XK}(σ:L2.St)(H:Hp)(Q:VK)(h:lE X.K (aK φ t) σ H Q):aG2 (spP X.K φ) [] E (lA X.K t) σ H Q:=by
 obtain⟨C,ρ,Q0,I,h,k⟩:=h;refine⟨C,ρ,_,I,h,λds ρ1 vs H1 q f s r=> ?_⟩
 have I1:=(I.frz f).same s;show spP X.K φ (vs++[]) H1 Q E;rw[append_nil];exact⟨Av C ρ1 σ,ds,_,λa z=>I1.avSome z,r,q,λb v H' q' s' r'=>k b ρ1 v H' q' f (s.trans s') (r'.from s)⟩
theorem b12 {CX:CXT}{k:Nat}{f:Addr}{fd:FuncData}{ps:List Str}{φ:Φ}{E:XK}{x:Str}{p:Pos}{t:UA}(F:kI X.prog X.w X.K X.mg X.base CX k f fd ps (spP X.K φ))(hr:cV k X.A)(hg:Gl X x)(hm:X.mg x=some (.ref f))
  (hk:keepIn X.K (.ref f)=true) (hb:Binds X.K fd ps []) (hx:jN CX X E) (ha:PUA X (e::es) t) (hdb:(x==("__debug__":Str))=false:=by decide) (he:starEach (e::es) X.env=(false,eval e X.env)::starEach es X.env:=by rfl)
  (hpl:(backTo pos (starEach es X.env)).any (·.1)=false:=by rfl):PU X (.Call (.Name x p) (e::es) [] pos) (aK φ t):=
 bP (zN F hr hg hm hk hb .nil hx ha hdb he hpl) lCall
theorem aQ9 {CX:CXT}{k:Nat}{f:Addr}{fd:FuncData}{ps:List Str}{φ:Φ}{E:XK}{x:Str}{p:Pos}(F:kI X.prog X.w X.K X.mg X.base CX k f fd ps (spP X.K φ))(hr:cV k X.A)(hg:Gl X x)(hm:X.mg x=some (.ref f))
  (hk:keepIn X.K (.ref f)=true) (hb:Binds X.K fd ps []) (hx:jN CX X E) (hdb:(x==("__debug__":Str))=false:=by decide):PU X (.Call (.Name x p) [] [] pos) (aK φ aE):=
 bP (aP9 F hr hg hm hk hb .nil hx hdb) λσ H Q ⟨C,ρ,Q0,I,h,k⟩=>⟨Av C ρ σ,[],_,λa z=>I.avSome z,.nil,h,λb v H' q' s' r'=>k b ρ v H' q' (.refl _) s' r'⟩
def jP (X:Cx)(f:Value)(g:List D->(B->Prop)->Prop):Prop:=
 ∀(A:AS) (H:Hp) (ds:List D) (vs:List V) (Q0:B->Prop) (Q:VK),(∀a,A a->H a≠none)->aN X.K A H ds vs->g ds Q0->
  (∀b v' H',Q0 b->bU H H'->fX X.K A H H' b v'->Q v' H')-> ∃r,fR X f r/\r vs H Q
theorem callAny {f:Value}:fR X f (λxs H Q=> ∃r,fR X f r/\r xs H Q):=λpins s σ H xs us Q I rx ⟨r,hr,q⟩=>hr pins s σ H xs us Q I rx q
theorem lCB {f:Value}{g:List D->(B->Prop)->Prop}{t:UA}(hc:jP X f g)(σ:L2.St)(H:Hp)(Q:VK)(h:lE X.K (aK g t) σ H Q):tCB (λxs H Q=> ∃r,fR X f r/\r xs H Q) (lA X.K t) σ H Q:=by
 obtain⟨C,ρ,Q0,I,h,k⟩:=h;refine⟨C,ρ,_,I,h,λds ρ1 vs H1 q f s r=> ?_⟩
 have I1:=(I.frz f).same s;exact hc (Av C ρ1 σ) H1 ds vs _ Q (λa z=>I1.avSome z) r q λb v H' q' s' r'=>k b ρ1 v H' q' f (s.trans s') (r'.from s)
theorem bE {id:String}{g:List D->(B->Prop)->Prop}{x:Str}{p:Pos}{t:UA}(hc:jP X (.builtin id) g)(hg:Gl X x)(hm:X.mg x=none)(hv:bootBuiltins x=some (.builtin id))(ha:PUA X (e::es) t)(hn:x≠"__name__":=by decide)(hdb:(x==("__debug__":Str))=false:=by decide)
  (he:starEach (e::es) X.env=(false,eval e X.env)::starEach es X.env:=by rfl) (hpl:(backTo pos (starEach es X.env)).any (·.1)=false:=by rfl):PU X (.Call (.Name x p) (e::es) [] pos) (aK g t):=
 bP (a55 callAny hg hm hv ha hn hdb he hpl) (lCB hc)
theorem dZ {T:String}{g:List D->(B->Prop)->Prop}{x:Str}{p:Pos}{t:UA}(hc:jP X (.type T) g)(hg:Gl X x)(hm:X.mg x=none)(hv:bootBuiltins x=some (.type T))(ha:PUA X (e::es) t)(hn:x≠"__name__":=by decide)(hdb:(x==("__debug__":Str))=false:=by decide)
  (he:starEach (e::es) X.env=(false,eval e X.env)::starEach es X.env:=by rfl) (hpl:(backTo pos (starEach es X.env)).any (·.1)=false:=by rfl):PU X (.Call (.Name x p) (e::es) [] pos) (aK g t):=
 bP (yG callAny hg hm hv ha hn hdb he hpl) (lCB hc)
end
structure UD where
 nx:Ev->Prop
 rt:B->Prop
 bk:Ev->Prop:=λ_=>False
 ct:Ev->Prop:=λ_=>False
abbrev US:=UD->Ev->Prop
structure DOk (K:PySem.W.Frag)(C:C0)(D0:UD)(D:rF):Prop where
 nx: ∀ρ σ H,D0.nx ρ->EOk K C ρ σ H->D.nx σ H
 rt: ∀b v H,D0.rt b->bU C.H0 H->fX K C.A0 C.H0 H b v->D.rt v H
 bk: ∀ρ σ H,D0.bk ρ->EOk K C ρ σ H->D.bk σ H
 ct: ∀ρ σ H,D0.ct ρ->EOk K C ρ σ H->D.ct σ H
def lS (K:PySem.W.Frag)(t:US):TS:=λD σ H=> ∃C ρ D0,EOk K C ρ σ H/\t D0 ρ/\DOk K C D0 D
def PUS (X:Cx)(st:Stmt)(t:US):Prop:=PS X st (lS X.K t)
def mS (X:Cx)(sts:List Stmt)(t:US):Prop:=PSs X sts (lS X.K t)
theorem qP {X:Cx}{st:Stmt}{t t':TS}(h:PS X st t)(i: ∀D σ H,t' D σ H->t D σ H):PS X st t':=λpins s σ H D I q=>h pins s σ H D I (i D σ H q)
theorem vY {X:Cx}{st:List Stmt}{t t':TS}(h:PSs X st t)(i: ∀D σ H,t' D σ H->t D σ H):PSs X st t':=λpins s σ H D I q=>h pins s σ H D I (i D σ H q)
section
variable {X:Cx}{st:Stmt}{sts:List Stmt}{e:Expr}{pos:Pos}{t u:US}{te:UE}{tc:UT}{K:PySem.W.Frag}
def bF:US:=λD ρ=>D.nx ρ
def aL (t u:US):US:=λD ρ=>t {D with nx:=u D} ρ
theorem b8:mS X [] bF:=vY aZ7 λD σ H ⟨C,ρ,D0,I,h,k⟩=>k.nx ρ σ H h I
theorem aD (h1:PUS X st t)(h2:mS X sts u):mS X (st::sts) (aL t u):=
 vY (a53 h1 h2) λD σ H ⟨C,ρ,D0,I,h,k⟩=>⟨C,ρ,{D0 with nx:=u D0},I,h,⟨λρ' σ' H' q I'=>⟨C,ρ',D0,I',q,k⟩,k.rt,k.bk,k.ct⟩⟩
theorem aG (h1:PUS X st t):mS X [st] t:=aF9 h1
def cG (t:UE):US:=λD ρ=>t ρ λb _=>D.rt b
theorem fX.back {A A':AS}{H0 H H':Hp}(s:bU H0 H)(h: ∀a,A' a->A a): ∀{b:B} {v:V},fX K A H H' b v->fX K A' H0 H' b v
 | .pu _,_,r=>Rep.mono (.sub (.refl _) h) r
 | .ow _,_,⟨a,vs,e,n,h1,r⟩=>⟨a,vs,e,s.free n,h1,r.mono (λb o nb q=>⟨λz=>nb (z.imp (h b) id),q⟩)⟩
 | .bo _,_,r=>r.elim
theorem b9 (he:PU X e te):PUS X (.Return (some e) pos) (cG te):=
 qP (aB0 he) λD σ H ⟨C,ρ,D0,I,h,k⟩=>⟨C,ρ,_,I,h,λb ρ' v H' q f s r=>k.rt b v H' q (I.ext.trans s) (r.back I.ext λa z=> .inl z)⟩
def uRetN:US:=λD _=>D.rt (.pu .non)
def oR (i:Nat):US:=λD ρ=>match ρ[i]? with
 | some (some (.pu d))=>D.rt (.pu d)
 | some (some (.ow l))=>D.rt (.ow l)
 | _=>False
theorem mT (i:Nat){x:Str}{p:Pos}(h:PE X (.Name x p) (vU i)):PUS X (.Return (some (.Name x p)) pos) (oR i):=
 qP (aB0 h) λD σ H ⟨C,ρ,D0,I,h,k⟩=>by
  unfold oR at h;split at h
  ·rename_i d e
   obtain⟨v,h1,h2⟩:=I.pu i d e;exact⟨v,h1,k.rt _ v H h I.ext (Rep.mono (.sub (.refl _) λa z=> .inl z) h2)⟩
  ·rename_i l e
   obtain⟨a,vs,h1,h2,h3,h4⟩:=I.ow i l e;refine⟨_,h1,k.rt _ _ H h I.ext ⟨a,vs,rfl,h3,h2,h4.mono (λb o nb q=>⟨λz=>nb (z.elim .inl λz=> .inr ?_),q⟩)⟩⟩
   subst z;exact⟨i,l,e,h1⟩
  ·exact h.elim
def cH (c:UT)(t u:US):US:=λD ρ=>c ρ λb ρ1=>if b=true then t D ρ1 else u D ρ1
theorem bM {c:Expr}{a b:List Stmt}(hc:PUT X c tc)(ha:mS X a t)(hb:mS X b u):PUS X (.If c a b pos) (cH tc t u):=
 qP (b78 hc ha hb) λD σ H ⟨C,ρ,D0,I,h,k⟩=>⟨C,ρ,_,I,h,λc ρ1 H1 q f s=>by
  have I1:=(I.frz f).same s;cases c with
  | true=>
   dsimp only at q⊢;rw[if_pos rfl]at q⊢;exact⟨C,ρ1,D0,I1,q,k⟩
  | false=>
   dsimp only at q⊢;rw[if_neg Bool.false_ne_true]at q⊢;exact⟨C,ρ1,D0,I1,q,k⟩⟩
abbrev UG:=B->Ev->(Ev->Prop)->Prop
def lG (K:PySem.W.Frag)(T:List Nat)(g:UG):TG:=λv σ H Q=> ∃C ρ b H00 Q0,EOk K C ρ σ H00/\bU H00 H/\fX K (Av C ρ σ) H00 H b v/\g b ρ Q0/\ ∀ρ' σ' H',Q0 ρ'->EOk K C ρ' σ' H'->(∀j:Nat,j ∉ T->σ'[j]? =σ[j]?)->Q σ' H'
def PUG (X:Cx)(e:Expr)(T:List Nat)(g:UG):Prop:=PG X e (lG X.K T g)
theorem b85 {t t':TG}(h:PG X e t)(i: ∀v σ H Q,t' v σ H Q->t v σ H Q):PG X e t':=λpins s σ H v u Q I r q=>h pins s σ H v u Q I r (i v σ H Q q)
def cA (i:Nat):UG:=λb ρ Q=>i<ρ.length/\Q (ρ.set i (some b))
theorem bG (i:Nat)(h:PG X e (qO i)):PUG X e [i] (cA i):=b85 h λv σ H Q ⟨C,ρ,b,H00,Q0,I,s,r,⟨hi,q⟩,k⟩=>
 k _ _ _ q (I.store s r (by rw[<-I.len];exact hi)) λj hj=>get_set_ne λz=>hj (by simp[z])
abbrev UGs:=List D->Ev->(Ev->Prop)->Prop
def lGs (K:PySem.W.Frag)(T:List Nat)(g:UGs):TGs:=λvs σ H Q=> ∃C ρ ds Q0,EOk K C ρ σ H/\aN K (Av C ρ σ) H ds vs/\g ds ρ Q0/\ ∀ρ' σ' H',Q0 ρ'->EOk K C ρ' σ' H'->(∀j:Nat,j ∉ T->σ'[j]? =σ[j]?)->Q σ' H'
def b13 (X:Cx)(es:List Expr)(T:List Nat)(g:UGs):Prop:=PGs X es (lGs X.K T g)
def aG6:UGs:=λds ρ Q=>ds=[]/\Q ρ
theorem Av.store_pu {C:C0}{ρ:Ev}{σ:L2.St}{i:Nat}{d:D}{v:V}{a:Addr}(h:Av C (ρ.set i (some (.pu d))) (σ.set i (some v)) a):Av C ρ σ a:=by
 rcases h with z| ⟨j,l,h1,h2⟩
 ·exact .inl z
 ·rcases aH h1 with⟨rfl,h3,_⟩| ⟨ne,h3⟩
  ·cases h3
  ·rw[get_set_ne ne]at h2;exact .inr ⟨j,l,h3,h2⟩
theorem aR0 {es:List Expr}{t t':TGs}(h:PGs X es t)(i: ∀v σ H Q,t' v σ H Q->t v σ H Q):PGs X es t':=λpins s σ H v u Q I r q=>h pins s σ H v u Q I r (i v σ H Q q)
theorem b14:b13 X [] [] aG6:=aR0 aZ9 λvs σ H Q ⟨C,ρ,ds,Q0,I,r,⟨e,q⟩,k⟩=>by
 subst e;exact⟨r.unnil,k ρ σ H q I λ_ _=>rfl⟩
def vZ (i:Nat)(u:UGs):UGs:=λds ρ Q=>match ds with
 | d::r=>i<ρ.length/\u r (ρ.set i (some (.pu d))) Q
 | []=>False
theorem a60 {es:List Expr}{u:UGs}{T:List Nat}(i:Nat)(h1:PG X e (qO i))(h2:b13 X es T u)
  (hs:(assignEach (e::es) X.env).map (·.2)=assign e X.env::(assignEach es X.env).map (·.2):=by rfl):b13 X (e::es) (i::T) (vZ i u):=
 aR0 (aO9 h1 h2 hs) λvs σ H Q ⟨C,ρ,ds,Q0,I,r,g,k⟩=>by
  cases ds with
  | nil=>exact(show False from g).elim
  | cons d dr=>
   obtain⟨hi,g⟩:i<ρ.length/\u dr (ρ.set i (some (.pu d))) Q0:=g;obtain⟨v,vr,rfl,rv,rr⟩:=r.uncons;have I1:EOk X.K C (ρ.set i (some (.pu d))) (σ.set i (some v)) H:=I.store (b:= .pu d) (.refl _) rv (by rw[<-I.len];exact hi)
   exact⟨v,vr,rfl,C,_,dr,Q0,I1,rr.mono (.sub (.refl _) λa z=>Av.store_pu z),g,λρ' σ' H' q I' hT=>k ρ' σ' H' q I' λj hj=>(hT j λz=>hj (mem_cons_of_mem _ z)).trans (get_set_ne λz=>hj (by simp[z]))⟩
def aG7 (u:UGs):UG:=λb ρ Q=>match b.d with
 | .tup ds=>u ds ρ Q
 | _=>False
theorem ug_tup {es:List Expr}{u:UGs}{T:List Nat}{n k:Nat}(hc:X.calm=true)(h:b13 X es T u)(hu: ∀ds ρ Q,u ds ρ Q->ds.length=n)
  (hn:(assignEach es X.env).length=n:=by rfl) (hst:(assignEach es X.env).findIdx? (·.1)=none:=by rfl):PUG X (.Tuple es k pos) T (aG7 u):=
 b85 (pg_tup hc h hn hst) λv σ H Q ⟨C,ρ,b,H00,Q0,I,s,r,g,k⟩=>by
  have R:=r.rep λa z=>I.avSome z
  unfold aG7 at g;split at g
  ·rename_i ds e
   rw[e]at R;simp only[Rep]at R;obtain⟨a,vs,rfl,c,rs⟩:=R;exact⟨a,vs,rfl,c.imp And.right id,by rw[<-rs.length];exact hu _ _ _ g,C,ρ,ds,Q0,I.same s,rs,g,k⟩
  ·exact g.elim
def uAsg (t:UE)(g:UG):US:=λD ρ=>t ρ λb ρ1=>g b ρ1 D.nx
theorem us_asg {tg:Expr}{g:UG}{T:List Nat}(he:PU X e te)(hg:PUG X tg T g)(hs:swapsWithSole [tg] e pos.line X.env=pure false:=by rfl)(hw:swappedStores [tg] e X.env=pure none:=by rfl)
  (h1:(assignEach [tg] X.env).map (·.2)=[assign tg X.env]:=by rfl):PUS X (.Assign [tg] e pos) (uAsg te g):=
 qP (ps_asg he hg hs hw h1) λD σ H ⟨C,ρ,D0,I,h,k⟩=>⟨C,ρ,_,I,h,λb ρ1 v H1 q f s r=>⟨C,ρ1,b,H,D0.nx,I.frz f,s,r,q,λρ' σ' H' q I' _=>k.nx ρ' σ' H' q I'⟩⟩
def aX (i:Nat)(t:UE):US:=λD ρ=>t ρ λb ρ1=>D.nx (ρ1.set i (some b))
theorem w6 {x:Str}{pos':Pos}(i:Nat)(hN:X.N.Nodup)(hi:X.N[i]? =some x)(hx:Loc X.env.scope x)(he:PU X e te)(hs:swapsWith e (some (.Name x pos')) pos.line X.env=pure false:=by rfl)(hf:X.fn x=true\/X.env.scope.names.lookup x=some .local:=by first|exact .inl rfl|exact .inr rfl|assumption)
  (hl: ∀pins σ H s,Inv X pins σ H s->i<σ.length:=by intro pins σ H s I;rw[I.len];decide):PUS X (.Assign [.Name x pos'] e pos) (aX i te):=by
 intro pins s σ H D I q;refine aP1 hN hi hx he hs hf pins s σ H D I ?_;obtain⟨C,ρ,D0,J,h,k⟩:=q;exact⟨C,ρ,_,J,h,λb ρ1 v H1 q f s1 r=>k.nx _ _ _ q ((J.frz f).store s1 r (hl pins σ H s I))⟩
def uPar (i j:Nat)(ta:UA):US:=λD ρ=>ta ρ λds ρ1=>match ds with
 | [d,d']=>D.nx ((ρ1.set i (some (.pu d))).set j (some (.pu d')))
 | _=>False
def uAug (i:Nat)(g:D->D->(B->Prop)->Prop)(te:UE):US:=λD ρ=>yI ρ i λx ρ0=>te ρ0 λy ρ1=>g x.d y.d λb=>D.nx (ρ1.set i (some b))
end
abbrev UI:=Ev->(Nat->(Nat->D)->Ev->Prop)->Prop
structure aR1 (K:PySem.W.Frag)(A:AS)(H:Hp)(J:It)(n:Nat)(it:Nat->D):Prop where
 go: ∀A' H' i,fG A H A' H'->i<n->J.go i H'
 yld: ∀A' H' i x H'',fG A H A' H'->(∀a,A' a->H' a≠none)->i<n->J.yld i H' x H''->bU H' H''/\Rep K A' H'' (it i) x
 stop: ∀A' H',fG A H A' H'->J.stop n H'
def lI (K:PySem.W.Frag)(t:UI):TI:=λσ H R=> ∃C ρ Q0,EOk K C ρ σ H/\t ρ Q0/\
 ∀n it ρ' J H',Q0 n it ρ'->Frz ρ ρ'->bU H H'->aR1 K (Av C ρ' σ) H' J n it->R J H'
def PUI (X:Cx)(tg iter:Expr)(t:UI):Prop:=PI X tg iter (lI X.K t)
def uP (ui:UI)(g:UG)(tb:US):US:=λD ρ=>ui ρ λn it ρ1=> ∃Pv:Nat->Ev->Prop,Pv 0 ρ1/\
 (∀i ρ,i<n->Pv i ρ->g (.pu (it i)) ρ λρ2=>tb {D with nx:=Pv (i+1),ct:=Pv (i+1),bk:=D.nx} ρ2)/\ ∀ρ,Pv n ρ->D.nx ρ
noncomputable def C0.rz (C:C0) (ρ:Ev) (σ:L2.St) (H:Hp):C0:=C.raise ρ σ H λ_=>Classical.propDecidable _
section
variable {X:Cx}{e:Expr}{pos:Pos}{te:UE}{K:PySem.W.Frag}{C:C0}{ρ ρ':Ev}{σ σ':L2.St}{H H':Hp}
theorem EOk.rz (I:EOk K C ρ σ H):EOk K (C.rz ρ σ H) ρ σ H/\bU C.H0 (C.rz ρ σ H).H0:=I.raise
theorem b15 (I':EOk K (C.rz ρ σ H) ρ' σ' H'):fG (Av C ρ σ) H (Av (C.rz ρ σ H) ρ' σ') H':=λb o nb e=>by
 have e0:(C.rz ρ σ H).H0 b=some o:=by
  show @ite _ (Own ρ σ b) (Classical.propDecidable _) none (H b)=some o
  rw[if_neg (λz=>nb (.inr z))]
  exact e
 refine⟨?_,I'.ext b o e0⟩
 rintro(z| ⟨i,l,h1,h2⟩)
 ·exact nb (.inl z)
 ·obtain⟨a,vs,h3,h4,h5,_⟩:=I'.ow i l h1;rw[h2]at h3;cases h3;rw[e0]at h5;cases h5
theorem mU {tg iter:Expr}{body:List Stmt}{ui:UI}{g:UG}{T:List Nat}{tb:US}(hp:PassesOwn (model X.prog X.w) X.A X.env X.xe)(hc:X.calm=true)(hi:PUI X tg iter ui)(hg:PUG X tg T g)(hb:mS X body tb)
  (hs: ∀x,foldedSetIterable iter X.env x=pure x:=by intro _;rfl):PUS X (.For tg iter body [] pos) (uP ui g tb):=
 qP (ps_for hp hc hi hg hb hs) λD σ H ⟨C,ρ,D0,I,h,k⟩=>⟨C,ρ,_,I,h,λn it ρ1 J H1 q f s ok=>by
  obtain⟨Pv,p0,turn,fin⟩:=q;have I1:=(I.frz f).same s;obtain⟨Ir,sub⟩:=I1.rz;refine⟨λi m σ' H'=>m=n-i/\i<=n/\ ∃ρ',EOk X.K (C.rz ρ1 σ H1) ρ' σ' H'/\Pv i ρ',⟨n,rfl,zero_le _,ρ1,Ir,p0⟩,?_⟩
  rintro i m σ' H' ⟨rfl,hi,ρ',I',p'⟩;have P:=b15 I';have lo: ∀ρ2 σ2 H2,EOk X.K (C.rz ρ1 σ H1) ρ2 σ2 H2->EOk X.K C ρ2 σ2 H2:=λρ2 σ2 H2 J2=>J2.lower sub rfl I.a0
  by_cases hlt:i<n
  ·refine .inr ⟨ok.go _ _ i P hlt,λσ2 H2=> ∃ρ2,EOk X.K (C.rz ρ1 σ H1) ρ2 σ2 H2/\Pv (i+1) ρ2,λσ2 H2 z=>⟨n-(i+1),by omega,rfl,hlt,z⟩,λx H2 y=> ?_⟩
   obtain⟨s2,r2⟩:=ok.yld _ _ i x H2 P (λa z=>I'.avSome z) hlt y
   refine⟨C.rz ρ1 σ H1,ρ',.pu (it i),H',_,I',s2,r2,turn i ρ' hlt p',λρ2 σ2 H3 q I3 _=>⟨C.rz ρ1 σ H1,ρ2,_,I3,q,⟨?_,?_,?_,?_⟩⟩⟩
   ·exact λρ3 σ3 H4 q I4=>⟨ρ3,I4,q⟩
   ·exact λb v H4 q s4 r4=>k.rt b v H4 q (sub.trans s4) (r4.from sub)
   ·exact λρ3 σ3 H4 q I4=>k.nx ρ3 σ3 H4 q (lo _ _ _ I4)
   ·exact λρ3 σ3 H4 q I4=>⟨ρ3,I4,q⟩
  ·have e:i=n:=by omega
   subst e;exact .inl ⟨ok.stop _ _ P,k.nx _ _ _ (fin ρ' p') (lo _ _ _ I')⟩⟩
def kM:D->Option (List D)
 | .tup l=>some l
 | .lst l=>some l
 | .rol l=>some l
 | _=>none
def fS (t:UE):UI:=λρ Q=>t ρ λb ρ1=>match kM b.d with
 | some l=>Q l.length (λi=>l.getD i .non) ρ1
 | none=>False
theorem pi_any {l:Expr}{tl:TE}{tg:Expr}(hl:PE X l tl):PI X tg l (λσ H R=>tl σ H λx H1=> ∃a,x= .ref a/\((∃xs,SqL X.K H1 a xs/\R (Itl X.K a) H1)\/ ∃xs,SqT X.K H1 a xs/\R (Itt X.K a) H1)):=by
 intro pins s σ H R I h;refine thn (hl pins s σ H _ I h) λv s1 ⟨x,H1,I1,r1,q1⟩=> ?_
 obtain⟨a,e,q⟩:=q1;subst e;cases r1;rcases q with⟨xs,hq,q⟩| ⟨xs,hq,q⟩
 ·obtain⟨its,rv,p,hz⟩:=I1.list hq;refine wpAny_pyIter_list p.isList ?_;refine⟨s1.heap.objs.size,[s1.heap.objs.size],_,_,H1,rfl,I1.kept (t':=s1.toks) λb o e=>get?_push_of_some _ e,aK3 a _,⟨_,get?_push_size _ rfl,rfl,rfl⟩,λb hb=> ?_,q⟩
  have e:b=s1.heap.objs.size:=by simpa using hb
  subst e;exact I1.fpOk (le_refl _) (I1.hok.fresh (le_refl _))
 ·obtain⟨its,rv,p,hz⟩:=I1.tuple hq;refine wpAny_pyIter_tuple (show s1.heap.IsTuple a its.toArray from p) ?_
  refine⟨s1.heap.objs.size,[s1.heap.objs.size],_,_,H1,rfl,I1.kept (t':=s1.toks) λb o e=>get?_push_of_some _ e,aB1 a _,⟨_,get?_push_size _ rfl,rfl,rfl⟩,λb hb=> ?_,q⟩
  have e:b=s1.heap.objs.size:=by simpa using hb
  subst e;exact I1.fpOk (le_refl _) (I1.hok.fresh (le_refl _))
theorem aR2 {tg iter:Expr}{t t':TI}(h:PI X tg iter t)(i: ∀σ H R,t' σ H R->t σ H R):PI X tg iter t':=λpins s σ H R I q=>h pins s σ H R I (i σ H R q)
theorem yJ {A:AS}{a:Addr}{vs:List V}{l:List D}(c:(¬A a/\Rd H a (.lst vs))\/KL K a vs)(r:aN K A H l vs):aR1 K A H (Itl K a) l.length (λi=>l.getD i .non):=by
 have sq: ∀A' H',fG A H A' H'->SqL K H' a vs:=λA' H' P=>by
  rcases c with⟨n,c⟩|c
  ·exact .inl (Rd.pres P n c).2
  ·exact .inr c
 have get: ∀i,i<l.length-> ∃x,vs[i]? =some x/\Rep K A H (l.getD i .non) x:=λi hi=>r.get (by rw[getD_eq_getElem?_getD,getElem?_eq_getElem hi];rfl)
 refine⟨λA' H' i P hi=> ?_,λA' H' i x H'' P hA hi y=> ?_,λA' H' P=>⟨vs,sq _ _ P,by rw[r.length];exact le_refl _⟩⟩
 ·obtain⟨x,e,_⟩:=get i hi;exact⟨vs,x,sq _ _ P,e⟩
 ·obtain⟨x',e,r'⟩:=get i hi;obtain⟨rfl,y⟩:=y;have:=y vs (sq _ _ P);rw[e]at this;cases this;exact⟨.refl _,r'.mono P⟩
theorem aR3 {A:AS}{a:Addr}{vs:List V}{l:List D}(c:(¬A a/\Rd H a (.tup vs))\/KT K a vs)(r:aN K A H l vs):aR1 K A H (Itt K a) l.length (λi=>l.getD i .non):=by
 have sq: ∀A' H',fG A H A' H'->SqT K H' a vs:=λA' H' P=>by
  rcases c with⟨n,c⟩|c
  ·exact .inl (Rd.pres P n c).2
  ·exact .inr c
 have get: ∀i,i<l.length-> ∃x,vs[i]? =some x/\Rep K A H (l.getD i .non) x:=λi hi=>r.get (by rw[getD_eq_getElem?_getD,getElem?_eq_getElem hi];rfl)
 refine⟨λA' H' i P hi=> ?_,λA' H' i x H'' P hA hi y=> ?_,λA' H' P=>⟨vs,sq _ _ P,by rw[r.length];exact le_refl _⟩⟩
 ·obtain⟨x,e,_⟩:=get i hi;exact⟨vs,x,sq _ _ P,e⟩
 ·obtain⟨x',e,r'⟩:=get i hi;obtain⟨rfl,y⟩:=y;have:=y vs (sq _ _ P);rw[e]at this;cases this;exact⟨.refl _,r'.mono P⟩
theorem e9 {tg:Expr}(h:PU X e te):PUI X tg e (fS te):=aR2 (pi_any h) λσ H R ⟨C,ρ,Q0,I,h,k⟩=>⟨C,ρ,_,I,h,λb ρ1 v H1 q f s r=>by
 have rr:=r.rep λa z=>I.avF f z
 generalize b.d=d at q rr;cases d with
 | tup l=>
  simp only[Rep]at rr;obtain⟨a,vs,rfl,c,rs⟩:=rr;exact⟨a,rfl,.inr ⟨vs,c.imp And.right id,k _ _ ρ1 _ H1 q f s (aR3 c rs)⟩⟩
 | lst l=>
  simp only[Rep]at rr;obtain⟨a,vs,rfl,n,c,rs⟩:=rr;exact⟨a,rfl,.inl ⟨vs,.inl (.inl c),k _ _ ρ1 _ H1 q f s (yJ (.inl ⟨n,.inl c⟩) rs)⟩⟩
 | rol l=>
  simp only[Rep]at rr;obtain⟨a,vs,rfl,c,rs⟩:=rr;exact⟨a,rfl,.inl ⟨vs,c.imp And.right id,k _ _ ρ1 _ H1 q f s (yJ c rs)⟩⟩
 | _=>exact(show False from q).elim⟩
theorem aC0 {A:AS}{lo:Int}{n:Nat}:aR1 K A H (Itr lo n) n (λi=> .int (lo+i)):=
 ⟨λ_ _ _ _ h=>h,λ_ _ i x H'' _ _ _ ⟨e,y⟩=>by subst e;subst y;exact⟨.refl _,by simp only[Rep]⟩,λ_ _ _=>le_refl n⟩
def qQ (ta:UA):UI:=λρ Q=>ta ρ λds ρ1=>match ds with
 | [.int j]=>(-(2^62)<=j/\j<2^62)/\Q j.toNat (λi=> .int (0+i)) ρ1
 | _=>False
def uRng2 (ta:UA):UI:=λρ Q=>ta ρ λds ρ1=>match ds with
 | [.int i,.int j]=>(-(2^62)<=i/\i<2^62/\ -(2^62)<=j/\j<2^62)/\Q (j-i).toNat (λk=> .int (i+k)) ρ1
 | _=>False
theorem bA {A:AS}{i:Int}{v:V}(h:Rep K A H (.int i) v):v= .int i:=by simpa only[Rep]using h
theorem jC {tg a:Expr}{ta:UA}{p:Pos}(hg:Gl X "range")(hm:X.mg "range"=none)(ha:PUA X [a] ta)(hs:starEach [a] X.env=[(false,eval a X.env)]:=by rfl):PUI X tg (.Call (.Name "range" p) [a] [] pos) (qQ ta):=
 aR2 (aK4 hg hm ha hs) λσ H R ⟨C,ρ,Q0,I,h,k⟩=>⟨C,ρ,_,I,h,λds ρ1 vs H1 q f s r=>by
  split at q
  ·rename_i j
   obtain⟨v,vr,rfl,rv,rr⟩:=r.uncons;have:=rr.unnil;subst this;have:=bA rv;subst this;obtain⟨⟨h1,h2⟩,q⟩:=q;exact⟨j,rfl,h1,h2,k _ _ ρ1 _ H1 q f s aC0⟩
  ·exact q.elim⟩
end
section
variable {X:Cx}{a b e o:Expr}{es:List Expr}{pos:Pos}{ta tb te ti:UE}{K:PySem.W.Frag}{C:C0}{ρ ρ':Ev}{σ σ':L2.St}{H H':Hp}{A:AS}
theorem Frz.ow {i:Nat}{l:List D}(f:Frz ρ ρ')(h:ρ'[i]? =some (some (.ow l))):ρ[i]? =some (some (.ow l)):=by
 rcases f.2 i with q| ⟨l',_,q⟩
 ·exact q▸h
 ·rw[q]at h;cases h
def oS (ρ:Ev)(i:Nat)(Q:List D->Prop):Prop:=match ρ[i]? with
 | some (some (.ow l))=>Q l
 | _=>False
theorem jD {i:Nat}{Q:List D->Prop}(h:oS ρ i Q): ∃l,ρ[i]? =some (some (.ow l))/\Q l:=by
 unfold oS at h;split at h
 ·rename_i l e
  exact⟨l,e,h⟩
 ·exact h.elim
def zU (i:Nat)(t:UE):US:=λD ρ=>oS ρ i λ_=>t ρ λb ρ1=>oS ρ1 i λl=>l.length<sizeLine/\D.nx (ρ1.set i (some (.ow (l++[b.d]))))
theorem lR {x:Str}{p apos cpos:Pos}(i:Nat)(hx:PE X (.Name x p) (vU i))(he:PU X e te)
  (hbase:attributeBase (.Name x p) "append" X.env (eval (.Name x p) X.env)=eval (.Name x p) X.env:=by rfl)
  (hfew:((backTo cpos (starEach [e] X.env)).all (λx=> !x.1)&&(backToKw cpos (keywordEach [] X.env)).all (λx=>x.1.isSome)
   &&decide ([e].length+([]:List Keyword).length+(if([]:List Keyword).isEmpty then 0 else 1)<30))=true:=by rfl)
  (hline:(apos.endLine==cpos.line)=true:=by rfl) (hs:starEach [e] X.env=(false,eval e X.env)::starEach [] X.env:=by rfl) (hplain:(backTo cpos (starEach [] X.env)).any (·.1)=false:=by rfl)
  (hw:swapsWith (.Call (.Attribute (.Name x p) "append" apos) [e] [] cpos) none pos.line X.env=pure false:=by rfl) :
  PUS X (.Expr (.Call (.Attribute (.Name x p) "append" apos) [e] [] cpos) pos) (zU i te):=
 qP (aZ8 (b82 PySem.F.plainAttrs_list PySem.F.slot_list_append PySem.F.type_list_append t6 hx (vC he zM hs) hbase hfew hline hs hplain) hw) λD σ H ⟨C,ρ,D0,I,h,k⟩=>by
  obtain⟨l,hl,h⟩:=jD h;obtain⟨a,vs,h1,h2,h3,h4⟩:=I.ow i l hl;refine⟨.ref a,h1,.inl ⟨rfl,vs,SqL.of h2⟩,C,ρ,_,I,h,λb ρ1 v H1 q f s r=> ?_⟩
  obtain⟨l',hl',hz,q⟩:=jD q;have e:=f.ow hl';rw[hl]at e;cases e;have I1:=(I.frz f).same s;obtain⟨a',vs',g1,g2,g3,g4⟩:=I1.ow i l hl';rw[h1]at g1;cases g1;refine⟨a,vs',v,rfl,rfl,g2,by rw[<-g4.length];exact hz,k.nx _ _ _ q ?_⟩
  exact I1.write hl' h1 (g4.append (.cons (r.rep λa z=>I.avF f z) .nil))
def uSetI (i:Nat)(t ti:UE):US:=λD ρ=>t ρ λb ρ1=>oS ρ1 i λ_=>ti ρ1 λj ρ2=>oS ρ2 i λl=>match j.d with
 | .int k=>(match ixN l.length k with
  | some n=>D.nx (ρ2.set i (some (.ow (l.set n b.d))))
  | none=>False)
 | _=>False
def gIx (d i:D)(Q:D->Prop):Prop:=match kM d,i with
 | some l,.int k=>(match atI l k with
  | some x=>Q x
  | none=>False)
 | _,_=>False
def uIx (t:UV)(ti:UE):UE:=λρ Q=>t ρ λd ρ1=>ti ρ1 λi ρ2=>gIx d i.d λx=>Q (.pu x) ρ2
theorem aN.atI {l:List D}{vs:List V}{k:Int}{x:D}(r:aN K A H l vs)(h:atI l k=some x): ∃v,L2.atI vs k=some v/\Rep K A H x v:=by
 unfold L2.atI at h⊢;cases e:ixN l.length k with
 | none=>rw[e]at h;cases h
 | some j=>
  rw[e]at h;rw[<-r.length,e];exact r.get h
theorem aB8.mono {A':AS}(s:bU H H')(h: ∀a,A' a->A a): ∀{d:D} {v:V},aB8 K A H d v->aB8 K A' H' d v
 | .non,_,r=>Rep.mono (.sub s h) r
 | .bl _,_,r=>Rep.mono (.sub s h) r
 | .int _,_,r=>Rep.mono (.sub s h) r
 | .str _,_,r=>Rep.mono (.sub s h) r
 | .ty _,_,r=>Rep.mono (.sub s h) r
 | .tup _,_,⟨a,vs,e,c,r⟩=>⟨a,vs,e,c.imp (λc=>c.imp (s _ _) λ⟨o,z⟩=>⟨o,s _ _ z⟩) id,r.mono (.sub s h)⟩
 | .lst _,_,⟨a,vs,e,c,r⟩=>⟨a,vs,e,s _ _ c,r.mono (.sub s h)⟩
 | .rol _,_,⟨a,vs,e,c,r⟩=>⟨a,vs,e,s.seq c,r.mono (.sub s h)⟩
 | .obj _ _ _,_,r=>Rep.mono (.sub s h) r
 | .adr _,_,r=>Rep.mono (.sub s h) r
 | .xob _ _ _ _,_,r=>Rep.mono (.sub s h) r
theorem aB8.seq {d:D}{v:V}{l:List D}(r:aB8 K A H d v)(h:kM d=some l): ∃a vs,v= .ref a/\(SqL K H a vs\/SqT K H a vs)/\aN K A H l vs:=by
 cases d with
 | tup l'=>cases h;obtain⟨a,vs,e,c,r⟩:=r;exact⟨a,vs,e,.inr c,r⟩
 | lst l'=>cases h;obtain⟨a,vs,e,c,r⟩:=r;exact⟨a,vs,e,.inl (SqL.of c),r⟩
 | rol l'=>cases h;obtain⟨a,vs,e,c,r⟩:=r;exact⟨a,vs,e,.inl c,r⟩
 | _=>cases h
theorem b16 {d i:D}{Q:D->Prop}(h:gIx d i Q): ∃l k x,kM d=some l/\i= .int k/\atI l k=some x/\Q x:=by
 unfold gIx at h;split at h
 ·rename_i l k e
  split at h
  ·rename_i x ex
   exact⟨l,k,x,e,rfl,ex,h⟩
  ·exact h.elim
 ·exact h.elim
theorem a61 {t:UV}(ha:PUV X a t)(hb:PU X b ti)(hs:vD b):PU X (.Subscript a b pos) (uIx t ti):=
 bP (b81 ix_seq ha hb hs) λσ H Q ⟨C,ρ,Q0,I,h,k⟩=>⟨C,ρ,_,I,h,λd ρ1 v H1 q f s r=>by
  have I1:=(I.frz f).same s;refine⟨C,ρ1,_,I1,q,λi ρ2 w H2 q2 f2 s2 r2=> ?_⟩
  obtain⟨l,kk,x,e1,e2,e3,q2⟩:=b16 q2;have ri:=r2.rep λa z=>I1.avF f2 z
  rw[e2]at ri;have:=bA ri;subst this;obtain⟨a,vs,rfl,c,rs⟩:=(r.mono (A':=Av C ρ2 σ) s2 λa=>f2.av).seq e1
  obtain⟨u,e4,r4⟩:=rs.atI e3;have fin:=k (.pu x) ρ2 u H2 q2 (f.trans f2) (s.trans s2) r4;rcases c with c|c
  ·exact .inl ⟨a,vs,kk,u,rfl,rfl,c,e4,fin⟩
  ·exact .inr (.inl ⟨a,vs,kk,u,rfl,rfl,c,e4,fin⟩)⟩
abbrev UO:=Ev->(Option Int->Ev->Prop)->Prop
def lO (K:PySem.W.Frag)(t:UO):TO:=λσ H Q=> ∃C ρ Q0,EOk K C ρ σ H/\t ρ Q0/\ ∀i ρ' H',Q0 i ρ'->Frz ρ ρ'->bU H H'->Q i H'
def PUO (X:Cx)(e:Option Expr)(t:UO):Prop:=PO X e (lO X.K t)
theorem b86 {e:Option Expr}{t t':TO}(h:PO X e t)(i: ∀σ H Q,t' σ H Q->t σ H Q):PO X e t':=λpins s σ H Q I q=>h pins s σ H Q I (i σ H Q q)
def dH:UO:=λρ Q=>Q none ρ
def fA (t:UE):UO:=λρ Q=>t ρ λb ρ1=>match b.d with
 | .int i=>Q (some i) ρ1
 | _=>False
theorem cZ:PUO X none dH:=b86 b05 λσ H Q ⟨C,ρ,Q0,I,h,k⟩=>k _ _ _ h (.refl _) (.refl _)
theorem bW (h:PU X e te):PUO X (some e) (fA te):=b86 (aG4 h) λσ H Q ⟨C,ρ,Q0,I,h,k⟩=>⟨C,ρ,_,I,h,λb ρ1 v H1 q f s r=>by
 have r':=r.rep λa z=>I.avF f z
 generalize b.d=d at q r';split at q
 ·exact⟨_,bA r',k _ _ _ q f s⟩
 ·exact q.elim⟩
def cutD (l:List D)(lo hi:Option Int):List D:=(l.drop (HT.sIx l.length 0 lo)).take (HT.sIx l.length l.length hi-HT.sIx l.length 0 lo)
theorem aN.cut {l:List D}{vs:List V}(r:aN K A H l vs)(lo hi:Option Int):aN K A H (cutD l lo hi) (a56 vs lo hi):=by
 unfold cutD a56;rw[r.length];exact(r.drop _).take _
def gSl (d:D)(lo hi:Option Int)(Q:B->Prop):Prop:=match d with
 | .tup l=> ¬(HT.sIx l.length 0 lo=0/\HT.sIx l.length l.length hi=l.length)/\Q (.pu (.tup (cutD l lo hi)))
 | .lst l=>Q (.ow (cutD l lo hi))
 | .rol l=>Q (.ow (cutD l lo hi))
 | _=>False
def uSl (t:UV)(tl th:UO):UE:=λρ Q=>t ρ λd ρ1=>tl ρ1 λlo ρ2=>th ρ2 λhi ρ3=>gSl d lo hi λb=>Q b ρ3
theorem a62 {t:UV}{tl th:UO}{lo hi:Option Expr}{p2:Pos}(he:PUV X e t)(hl:PUO X lo tl)(hu:PUO X hi th):PU X (.Subscript e (.Slice lo hi none p2) pos) (uSl t tl th):=
 bP (vX (aG5.or aQ1) he hl hu) λσ H Q ⟨C,ρ,Q0,I,h,k⟩=>⟨C,ρ,_,I,h,λd ρ1 v H1 q f s r=>by
  have I1:=(I.frz f).same s;refine⟨C,ρ1,_,I1,q,λl2 ρ2 H2 q2 f2 s2=> ?_⟩
  have I2:=(I1.frz f2).same s2;refine⟨C,ρ2,_,I2,q2,λh3 ρ3 H3 q3 f3 s3=> ?_⟩
  have I3:=(I2.frz f3).same s3;have s13:=s2.trans s3;have sAll:=s.trans s13;have fAll:=f.trans (f2.trans f3);have r':=r.mono (A':=Av C ρ3 σ) s13 λa z=>f2.av (f3.av z)
  cases d with
  | tup l=>
   obtain⟨hw,q3⟩:=q3;obtain⟨a,vs,rfl,c,rs⟩:=r';exact .inr ⟨a,vs,rfl,c,by rw[<-rs.length];exact hw,λp n=>k _ ρ3 _ _ q3 fAll (sAll.trans (bI n _)) (dC (λa z=>I3.avSome z) n (rs.cut l2 h3))⟩
  | lst l=>
   obtain⟨a,vs,rfl,c,rs⟩:=r';exact .inl ⟨a,vs,rfl,SqL.of c,λp n=>k _ ρ3 _ _ q3 fAll (sAll.trans (bI n _)) (cF sAll n (rs.cut l2 h3))⟩
  | rol l=>
   obtain⟨a,vs,rfl,c,rs⟩:=r';exact .inl ⟨a,vs,rfl,c,λp n=>k _ ρ3 _ _ q3 fAll (sAll.trans (bI n _)) (cF sAll n (rs.cut l2 h3))⟩
  | _=>exact(show False from q3).elim⟩
def Sm (i:Int):Prop:=i.natAbs<2^9000
theorem Sm.log {i:Int}(h:Sm i):i.natAbs.log2<9000:=by
 by_cases z:i.natAbs=0
 ·rw[z];decide
 ·exact(Nat.log2_lt z).mpr h
def eR (d e:D)(Q:B->Prop):Prop:=match d,e with
 | .int i,.int j=>Q (.pu (.int (i+j)))
 | .lst l,.lst m=>l.length+m.length<=sizeLine/\Q (.ow (l++m))
 | .tup l,.tup m=>l.length+m.length<=sizeLine/\Q (.pu (.tup (l++m)))
 | _,_=>False
theorem aR4:OpR X (binaryOp .Add) (λx y H Q=> ∃a b ys,x= .ref a/\y= .ref b/\SqT X.K H a []/\SqT X.K H b ys/\Q (.ref b) H):=by
 intro pins s σ H x y v u Q I rx ry h;obtain⟨a,b,ys,rfl,rfl,ha,hb,q⟩:=h;cases rx;cases ry;obtain⟨its,r1,p1,_⟩:=I.tuple ha;obtain⟨its2,r2,p2,_⟩:=I.tuple hb;have e:its=[]:=by
  have:=r1.length;exact List.length_eq_zero_iff.mp this.symm
 subst e;obtain⟨⟨cls,dd,data,sl⟩,ho,hc,n,hd⟩:=id p1;obtain⟨⟨cls2,dd2,data2,sl2⟩,ho2,hc2,n2,hd2⟩:=id p2;simp only at hc hd hc2 hd2;subst hc hd hc2 hd2;exact concat_meets ⟨_,ho,rfl⟩ ⟨_,ho2,rfl⟩ noFill_tuple_add seq_tuple_add PySem.F.slot_tuple_add PySem.F.entry_tuple_add (PySem.F.args_tuple_add_2 _ _) (tuple_addW0 a b _ its2.toArray n n2 dd dd2 sl sl2 rfl) ⟨ho,ho2,⟨.ref b,H,I,rfl,q⟩⟩
theorem uQ {i:Int}:fX K A H H' (.pu (.int i)) (.int i):=by
 show Rep K A H' (.int i) (.int i)
 simp only[Rep]
theorem bN:OpU X (binaryOp .Add) eR:=by
 intro A H d e v w Q0 Q hA r1 r2 g k;unfold eR at g;split at g
 ·rename_i i j
  exact⟨_,op_add,i,j,bA r1,bA r2,k _ _ H g (.refl _) uQ⟩
 ·rename_i l m
  simp only[Rep]at r1 r2;obtain⟨a,vs,rfl,n1,c1,rs1⟩:=r1;obtain⟨b,ws,rfl,n2,c2,rs2⟩:=r2;exact⟨_,op_cat,a,b,vs,ws,rfl,rfl,c1,c2,by rw[<-rs1.length,<-rs2.length];exact g.1,λp n=>k _ _ _ g.2 (bI n _) (cF (.refl _) n (rs1.append rs2))⟩
 ·rename_i l m
  simp only[Rep]at r1 r2;obtain⟨a,vs,rfl,c1,rs1⟩:=r1;obtain⟨b,ws,rfl,c2,rs2⟩:=r2;obtain⟨hz,g⟩:=g
  by_cases hn:l=[]
  ·subst hn;have e1:vs=[]:=rs1.unnil;subst e1;refine⟨_,aR4,a,b,ws,rfl,rfl,c1.imp And.right id,c2.imp And.right id,k _ _ H g (.refl _) ?_⟩;show Rep X.K A H (.tup m) (.ref b);simp only[Rep];exact⟨b,ws,rfl,c2,rs2⟩
  refine⟨_,b06,a,b,vs,ws,rfl,rfl,c1.imp And.right id,c2.imp And.right id,λz=>hn ?_,by rw[<-rs1.length,<-rs2.length];exact hz,λz=> ?_,λz p n=> ?_⟩
  ·have:=rs1.length;rw[z]at this;exact List.length_eq_zero_iff.mp this
  ·have e2:=rs2.length;rw[z]at e2;have e3:m=[]:=List.length_eq_zero_iff.mp e2;subst e3;rw[append_nil]at g;refine k _ _ H g (.refl _) ?_;show Rep X.K A H (.tup l) (.ref a);simp only[Rep];exact⟨a,vs,rfl,c1,rs1⟩
  ·exact k _ _ _ g (bI n _) (dC hA n (rs1.append rs2))
 ·exact g.elim
def gI2 (f:Int->Int->(B->Prop)->Prop)(d e:D)(Q:B->Prop):Prop:=match d,e with
 | .int i,.int j=>f i j Q
 | _,_=>False
theorem qD {f:Int->Int->(B->Prop)->Prop}{d e:D}{Q:B->Prop}(h:gI2 f d e Q): ∃i j,d= .int i/\e= .int j/\f i j Q:=by
 unfold gI2 at h;split at h
 ·exact⟨_,_,rfl,rfl,h⟩
 ·exact h.elim
def gSub:D->D->(B->Prop)->Prop:=gI2 λi j Q=>Q (.pu (.int (i-j)))
theorem t7:OpU X (binaryOp .Sub) gSub:=by
 intro A H d e v w Q0 Q hA r1 r2 g k;obtain⟨i,j,rfl,rfl,g⟩:=qD g;exact⟨_,op_sub,i,j,bA r1,bA r2,k _ _ H g (.refl _) uQ⟩
theorem aG8 {i:Int}(h:Sm i):Builtin.Int.intBits i<=2^20:=le_trans (PyProof.Rows.intBits_le h) (by decide)
def j6 (d e:D)(Q:B->Prop):Prop:=match d,e with
 | .int i,.int j=>(aB3 i j\/(Sm i/\Sm j))/\Q (.pu (.int (i*j)))
 | .lst l,.int k=>(-(2^63)<=k/\k<2^63/\l.length*k.toNat<=sizeLine)/\Q (.ow (replicate k.toNat l).flatten)
 | _,_=>False
theorem b17:OpR X (binaryOp .Mult) (rI (λi j=>aB3 i j\/(Sm i/\Sm j)) λi j=> .int (i*j)):=opI λ_ _ _ _ _ _ _ hc q=>mul_int q (hc.elim aB3.ok λh=> .of_bits (aG8 h.1) (aG8 h.2))
theorem dI:OpU X (binaryOp .Mult) j6:=by
 intro A H d e v w Q0 Q hA r1 r2 g k;unfold j6 at g;split at g
 ·rename_i i j
  exact⟨_,b17,i,j,bA r1,bA r2,g.1,k _ _ H g.2 (.refl _) uQ⟩
 ·rename_i l kk
  have:=bA r2;subst this;simp only[Rep]at r1;obtain⟨a,vs,rfl,n1,c1,rs1⟩:=r1;obtain⟨⟨h1,h2,h3⟩,g⟩:=g;exact⟨_,op_rep,a,kk,vs,rfl,rfl,c1,h1,h2,by rw[<-rs1.length];exact h3,λp n=>k _ _ _ g (bI n _) (cF (.refl _) n (rs1.rep _))⟩
 ·exact g.elim
def b18:D->D->(B->Prop)->Prop:=gI2 λi j Q=>(j≠0/\Sm j)/\Q (.pu (.int (i.fdiv j)))
def uR:D->D->(B->Prop)->Prop:=gI2 λi j Q=>j≠0/\Q (.pu (.int (i.fmod j)))
theorem b19:OpR X (binaryOp .FloorDiv) (rI (λ_ j=>j≠0/\Sm j) λi j=> .int (i.fdiv j)):=opI λ_ _ _ _ _ _ _ hc q=>floordiv_int hc.1 q (.inl (PyProof.noPylong_of_log2 hc.2.log))
theorem ou_div:OpU X (binaryOp .FloorDiv) b18:=by
 intro A H d e v w Q0 Q hA r1 r2 g k;obtain⟨i,j,rfl,rfl,g⟩:=qD g;exact⟨_,b19,i,j,bA r1,bA r2,g.1,k _ _ H g.2 (.refl _) uQ⟩
theorem oU:OpU X (binaryOp .Mod) uR:=by
 intro A H d e v w Q0 Q hA r1 r2 g k;obtain⟨i,j,rfl,rfl,g⟩:=qD g;exact⟨_,b01,i,j,bA r1,bA r2,g.1,k _ _ H g.2 (.refl _) uQ⟩
def a63:D->D->(B->Prop)->Prop:=gI2 λi j Q=>b00 i j/\Q (.pu (.int (i^j.toNat)))
theorem t8:OpU X (binaryOp .Pow) a63:=by
 intro A H d e v w Q0 Q hA r1 r2 g k;obtain⟨i,j,rfl,rfl,g⟩:=qD g;exact⟨_,op_pow,i,j,bA r1,bA r2,g.1,k _ _ H g.2 (.refl _) uQ⟩
def rJ (p:Int->Int->Bool):D->D->(B->Prop)->Prop:=gI2 λi j Q=>Q (.pu (.bl (p i j)))
theorem aC1 {op:CmpOp}{p:Int->Int->Bool}(ho:OpR X (compareOp op) (rI0 λi j=> .bl (p i j))):OpU X (compareOp op) (rJ p):=by
 intro A H d e v w Q0 Q hA r1 r2 g k;obtain⟨i,j,rfl,rfl,g⟩:=qD g;exact⟨_,ho,i,j,bA r1,bA r2,k _ _ H g (.refl _) dG⟩
theorem aG9:OpU X (compareOp .Lt) (rJ λi j=>decide (i<j)):=aC1 op_lt
theorem aH0:OpU X (compareOp .Gt) (rJ λi j=>decide (j<i)):=aC1 op_gt
theorem ou_ge:OpU X (compareOp .GtE) (rJ λi j=>decide (j<=i)):=aC1 op_ge
def dB (neg:Bool)(d e:D)(Q:B->Prop):Prop:=match d,e with
 | .int i,.int j=>Q (.pu (.bl (neg ^^ decide (i=j))))
 | .bl i,.bl j=>Q (.pu (.bl (neg ^^ decide (i=j))))
 | .str i,.str j=>Q (.pu (.bl (neg ^^ decide (i=j))))
 | _,_=>False
theorem mV {b:Bool}{v:V}(h:Rep K A H (.bl b) v):v= .bl b:=by simpa only[Rep]using h
theorem aW {b:Str}{v:V}(h:Rep K A H (.str b) v):v= .str b:=by simpa only[Rep]using h
theorem dD:OpU X (compareOp .Eq) (dB false):=by
 intro A H d e v w Q0 Q hA r1 r2 g k;unfold dB at g;split at g
 ·rw[bA r1,bA r2];exact⟨_,aP4,rfl,k _ _ H g (.refl _) (by rw[vA,false_xor,beq_eq_decide_eq];exact dG)⟩
 ·rw[mV r1,mV r2];exact⟨_,aP4,rfl,k _ _ H g (.refl _) (by rw[zK,false_xor,beq_eq_decide_eq];exact dG)⟩
 ·rw[aW r1,aW r2];exact⟨_,aP4,rfl,k _ _ H g (.refl _) (by rw[vB,false_xor,beq_eq_decide_eq];exact dG)⟩
 ·exact g.elim
theorem rX:OpU X (compareOp .NotEq) (dB true):=by
 intro A H d e v w Q0 Q hA r1 r2 g k;unfold dB at g;split at g
 ·rw[bA r1,bA r2];exact⟨_,aP5,rfl,k _ _ H g (.refl _) (by rw[vA,true_xor,beq_eq_decide_eq];exact dG)⟩
 ·rw[mV r1,mV r2];exact⟨_,aP5,rfl,k _ _ H g (.refl _) (by rw[zK,true_xor,beq_eq_decide_eq];exact dG)⟩
 ·rw[aW r1,aW r2];exact⟨_,aP5,rfl,k _ _ H g (.refl _) (by rw[vB,true_xor,beq_eq_decide_eq];exact dG)⟩
 ·exact g.elim
end
section
variable {X:Cx}{a b e o:Expr}{es:List Expr}{pos:Pos}{ta tb te ti:UE}{K:PySem.W.Frag}{C:C0}{ρ ρ':Ev}{σ σ':L2.St}{H H':Hp}{A:AS}
def aR5 (t:UE):UE:=λρ Q=>t ρ λb ρ1=>match b.d with
 | .int i=>Q (.pu (.int (-i))) ρ1
 | _=>False
theorem aC2 (h:PU X a ta):PU X (.UnaryOp .USub a pos) (aR5 ta):=
 bP (pe_un un_neg h) λσ H Q ⟨C,ρ,Q0,I,h,k⟩=>⟨C,ρ,_,I,h,λb ρ1 v H1 q f s r=>by
  have r':=r.rep λa z=>I.avF f z
  generalize b.d=d at q r';split at q
  ·exact⟨_,bA r',k _ _ _ _ q f s uQ⟩
  ·exact q.elim⟩
def g1 (f:D->(B->Prop)->Prop)(ds:List D)(Q:B->Prop):Prop:=match ds with
 | [d]=>f d Q
 | _=>False
def g2 (f:D->D->(B->Prop)->Prop)(ds:List D)(Q:B->Prop):Prop:=match ds with
 | [d,e]=>f d e Q
 | _=>False
theorem rK {f:D->(B->Prop)->Prop}{ds:List D}{Q:B->Prop}{vs:List V}(h:g1 f ds Q)(r:aN K A H ds vs): ∃d v,ds=[d]/\vs=[v]/\Rep K A H d v/\f d Q:=by
 unfold g1 at h;split at h
 ·obtain⟨v,vr,rfl,rv,rr⟩:=r.uncons;have:=rr.unnil;subst this;exact⟨_,v,rfl,rfl,rv,h⟩
 ·exact h.elim
theorem aR6 {f:D->D->(B->Prop)->Prop}{ds:List D}{Q:B->Prop}{vs:List V}(h:g2 f ds Q)(r:aN K A H ds vs): ∃d e v w,ds=[d,e]/\vs=[v,w]/\Rep K A H d v/\Rep K A H e w/\f d e Q:=by
 unfold g2 at h;split at h
 ·obtain⟨v,vr,rfl,rv,rr⟩:=r.uncons;obtain⟨w,wr,rfl,rw',rr'⟩:=rr.uncons;have:=rr'.unnil;subst this;exact⟨_,_,v,w,rfl,rfl,rv,rw',h⟩
 ·exact h.elim
def aL2 (f:Int->(B->Prop)->Prop)(d:D)(Q:B->Prop):Prop:=match d with
 | .int i=>f i Q
 | _=>False
theorem a64 {f:Int->(B->Prop)->Prop}{d:D}{Q:B->Prop}(h:aL2 f d Q): ∃i,d= .int i/\f i Q:=by
 unfold aL2 at h;split at h
 ·exact⟨_,rfl,h⟩
 ·exact h.elim
def gAbs:List D->(B->Prop)->Prop:=g1 (aL2 λi Q=>Q (.pu (.int (if i<0 then -i else i))))
theorem cu_abs:jP X (.builtin "abs") gAbs:=by
 intro A H ds vs Q0 Q hA r g k;obtain⟨d,v,rfl,rfl,rv,g⟩:=rK g r;obtain⟨i,rfl,g⟩:=a64 g;exact⟨_,aP6,i,by rw[bA rv],k _ _ H g (.refl _) uQ⟩
def b20:List D->(B->Prop)->Prop:=g2 (gI2 λi j Q=>Q (.pu (.int (if j>i then j else i))))
theorem aR7 (hc:X.calm=true):jP X (.builtin "max") b20:=by
 intro A H ds vs Q0 Q hA r g k;obtain⟨d,e,v,w,rfl,rfl,rv,rw',g⟩:=aR6 g r;obtain⟨i,j,rfl,rfl,g⟩:=qD g;exact⟨_,aK7 hc,i,j,by rw[bA rv,bA rw'],k _ _ H g (.refl _) uQ⟩
def gMin:List D->(B->Prop)->Prop:=g2 (gI2 λi j Q=>Q (.pu (.int (if j<i then j else i))))
def gToInt:List D->(B->Prop)->Prop:=g1 λd Q=>match d with
 | .int i=>Q (.pu (.int i))
 | .bl k=>Q (.pu (.int (if k then 1 else 0)))
 | _=>False
def iH:List D->(B->Prop)->Prop:=g1 λd Q=>match kM d with
 | some l=>Q (.pu (.tup l))
 | none=>False
theorem lU:jP X (.type "tuple") iH:=by
 intro A H ds vs Q0 Q hA r g k;obtain⟨d,v,rfl,rfl,rv,g⟩:=rK g r;cases d with
 | tup l=>
  have rv':=rv;simp only[Rep]at rv;obtain⟨a,vs,rfl,c,rs⟩:=rv;exact⟨_,l4,a,vs,rfl,.inr ⟨c.imp And.right id,k _ _ H g (.refl _) rv'⟩⟩
 | lst l=>
  simp only[Rep]at rv;obtain⟨a,vs,rfl,n,c,rs⟩:=rv;exact⟨_,l4,a,vs,rfl,.inl ⟨SqL.of c,λp n=>k _ _ _ g (bI n _) (dC hA n rs)⟩⟩
 | rol l=>
  simp only[Rep]at rv;obtain⟨a,vs,rfl,c,rs⟩:=rv;exact⟨_,l4,a,vs,rfl,.inl ⟨c.imp And.right id,λp n=>k _ _ _ g (bI n _) (dC hA n rs)⟩⟩
 | _=>exact(show False from g).elim
def b21:List D->(B->Prop)->Prop:=g1 λd Q=>match kM d with
 | some l=>Q (.ow l)
 | none=>False
def kJ (t:UV):UE:=λρ Q=>t ρ λd ρ1=>match kM d with
 | some l=>Q (.pu (.int l.length)) ρ1
 | none=>False
theorem dJ {t:UV}{p:Pos}(ha:PUV X e t)(hg:Gl X "len")(hm:X.mg "len"=none)(hs:starEach [e] X.env=(false,eval e X.env)::starEach [] X.env:=by rfl)
  (hpl:(backTo pos (starEach [] X.env)).any (·.1)=false:=by rfl):PU X (.Call (.Name "len" p) [e] [] pos) (kJ t):=
 bP (a55 zQ hg hm PySem.boot_len (vC ha zM hs) (by decide) (by decide) hs hpl) λσ H Q ⟨C,ρ,Q0,I,h,k⟩=>⟨C,ρ,_,I,h,λd ρ1 v H1 q f s r=>by
  cases e:kM d with
  | none=>simp only[e]at q
  | some l=>
   simp only[e]at q;obtain⟨a,vs,rfl,c,rs⟩:=r.seq e;exact⟨a,vs,rfl,c,k _ _ _ _ q f s (by rw[rs.length];exact uQ)⟩⟩
def isI:D->String->Option Bool
 | .int _,"int"=>some true
 | .int _,"bool"=>some false
 | .int _,"tuple"=>some false
 | .int _,"list"=>some false
 | .bl _,"bool"=>some true
 | .bl _,"int"=>some true
 | .tup _,"tuple"=>some true
 | .tup _,"int"=>some false
 | .tup _,"list"=>some false
 | .lst _,"list"=>some true
 | .lst _,"tuple"=>some false
 | .lst _,"int"=>some false
 | _,_=>none
theorem rL {x:Value}{T:String}{prog:Program}{w:World}{A:Around}{E:Value->Shared->Prop}{s:Shared}{Q:Value->Shared->Prop}
  {P:(Result->Shared->Prop)->Shared->Prop} (hm:Meets (Builtin.«isinstance» ⟨[x,.type T],[]⟩) (λ_ R s=>P R s)) (h:P (λr s'=>match r with| .ok (.ret v)=>Q v s'| .ok _=>False| .error e=>E e s') s) :
  wpAny (model prog w) A (call (.builtin "isinstance") [x,.type T]) Q E s:=
 call_function_any kind_isinstance plain_isinstance entry_isinstance (args_isinstance _ _) (hm _ _ _ _ _ h)
theorem rep_ty {T:String}{v:V}(h:Rep K A H (.ty T) v):v= .ty T:=by simpa only[Rep]using h
def rIsi (K:PySem.W.Frag):List V->Hp->VK->Prop:=λxs H Q=> ∃x T k,xs=[x,.ty T]/\Q (.bl k) H/\
 ((∃i,x= .int i/\((T="int"/\k=true)\/((T="bool"\/T="tuple"\/T="list")/\k=false)))\/(∃c,x= .bl c/\(T="int"\/T="bool")/\k=true)\/
  (∃a ys,x= .ref a/\SqT K H a ys/\((T="tuple"/\k=true)\/((T="int"\/T="list")/\k=false)))\/(∃a ys,x= .ref a/\SqL K H a ys/\((T="list"/\k=true)\/((T="int"\/T="tuple")/\k=false))))
theorem tyT (T:String)(h:T="int"\/T="bool"\/T="tuple"\/T="list"):typeOf (.type T)=pure (.type "type"):=by
 rcases h with rfl|rfl|rfl|rfl<;>first|rfl|decide
theorem jQ:fR X (.builtin "isinstance") (rIsi X.K):=by
 intro pins s σ H xs us Q I r h;obtain⟨x,T,k,rfl,q,h⟩:=h;obtain⟨u,w',rfl,rx,ry⟩:=vals2 r;have e:w'=Value.type T:=ry;subst e;rcases h with⟨i,rfl,h⟩| ⟨c,rfl,h,rfl⟩| ⟨a,ys,rfl,hs,h⟩| ⟨a,ys,rfl,hs,h⟩
 ·obtain⟨t,rfl⟩:=rx;rcases h with⟨rfl,rfl⟩| ⟨h,rfl⟩
  ·exact call_isinstance_yes (typeIs_int s i t) (tyT _ (by simp)) PyProof.Rows.sub_int_int ⟨.bl true,H,I,rfl,q⟩
  ·rcases h with rfl|rfl|rfl
   ·exact rL (isinstance_false_int (by decide) (tyT _ (by simp)) PyProof.Rows.sub_int_bool) ⟨.bl false,H,I.tok _,rfl,q⟩
   ·exact rL (isinstance_false_int (by decide) (tyT _ (by simp)) PyProof.Rows.sub_int_tuple) ⟨.bl false,H,I.tok _,rfl,q⟩
   ·exact rL (isinstance_false_int (by decide) (tyT _ (by simp)) PyProof.Rows.sub_int_list) ⟨.bl false,H,I.tok _,rfl,q⟩
 ·cases rx;rcases h with rfl|rfl
  ·exact call_isinstance_yes (PySem.typeIs_bool s c) (tyT _ (by simp)) PyProof.Rows.sub_bool_int ⟨.bl true,H,I,rfl,q⟩
  ·exact call_isinstance_yes (PySem.typeIs_bool s c) (tyT _ (by simp)) PyProof.Rows.sub_bool_bool ⟨.bl true,H,I,rfl,q⟩
 ·cases rx;obtain⟨its,rv,p,hz⟩:=I.tuple hs;obtain⟨o,ho,hc,_⟩:=id p;rcases h with⟨rfl,rfl⟩| ⟨h,rfl⟩
  ·exact call_isinstance_yes p.typeIs (tyT _ (by simp)) PyProof.Rows.sub_tuple_tuple ⟨.bl true,H,I,rfl,q⟩
  ·rcases h with rfl|rfl
   ·exact rL (isinstance_false_tuple (by decide) (tyT _ (by simp)) PyProof.Rows.sub_tuple_int) ⟨⟨o,ho,hc⟩,.bl false,H,I.tok _,rfl,q⟩
   ·exact rL (isinstance_false_tuple (by decide) (tyT _ (by simp)) PyProof.Rows.sub_tuple_list) ⟨⟨o,ho,hc⟩,.bl false,H,I.tok _,rfl,q⟩
 ·cases rx;obtain⟨its,rv,p,hz⟩:=I.list hs;obtain⟨o,n,ho,hc,_⟩:=id p;rcases h with⟨rfl,rfl⟩| ⟨h,rfl⟩
  ·exact call_isinstance_yes p.isList.typeIs (tyT _ (by simp)) PyProof.Rows.sub_list_list ⟨.bl true,H,I,rfl,q⟩
  ·rcases h with rfl|rfl
   ·exact rL (isinstance_false_list (by decide) (tyT _ (by simp)) PyProof.Rows.sub_list_int) ⟨⟨o,ho,hc⟩,.bl false,H,I.tok _,rfl,q⟩
   ·exact rL (isinstance_false_list (by decide) (tyT _ (by simp)) PyProof.Rows.sub_list_tuple) ⟨⟨o,ho,hc⟩,.bl false,H,I.tok _,rfl,q⟩
def zV:List D->(B->Prop)->Prop:=g2 λd e Q=>match e with
 | .ty T=>(match d with
  | .int _=>if T="int" then Q (.pu (.bl true))else if T="bool"\/T="tuple"\/T="list" then Q (.pu (.bl false))else False
  | .bl _=>if T="int"\/T="bool" then Q (.pu (.bl true))else False
  | .tup _=>if T="tuple" then Q (.pu (.bl true))else if T="int"\/T="list" then Q (.pu (.bl false))else False
  | .lst _=>if T="list" then Q (.pu (.bl true))else if T="int"\/T="tuple" then Q (.pu (.bl false))else False
  | _=>False)
 | _=>False
theorem rM:jP X (.builtin "isinstance") zV:=by
 intro A H ds vs Q0 Q hA r g k;obtain⟨d,e,v,w,rfl,rfl,rv,rw',g⟩:=aR6 g r;have no: ∀{c:Bool},Q0 (.pu (.bl c))->Q (.bl c) H:=λz=>k _ _ H z (.refl _) dG
 cases e with
 | ty T=>
  rw[rep_ty rw'];cases d with
  | int i=>
   rw[bA rv]
   by_cases h1:T="int"
   ·simp only[h1,if_true]at g;exact⟨_,jQ,_,T,true,rfl,no g,.inl ⟨i,rfl,.inl ⟨h1,rfl⟩⟩⟩
   ·by_cases h2:T="bool"\/T="tuple"\/T="list"
    ·simp only[h1,h2,if_true,if_false]at g;exact⟨_,jQ,_,T,false,rfl,no g,.inl ⟨i,rfl,.inr ⟨h2,rfl⟩⟩⟩
    ·simp only[h1,h2,if_false]at g
  | bl c=>
   rw[mV rv]
   by_cases h1:T="int"\/T="bool"
   ·simp only[h1,if_true]at g;exact⟨_,jQ,_,T,true,rfl,no g,.inr (.inl ⟨c,rfl,h1,rfl⟩)⟩
   ·simp only[h1,if_false]at g
  | tup l=>
   obtain⟨a,vs,rfl,c,rs⟩:=rv.one
   by_cases h1:T="tuple"
   ·simp only[h1,if_true]at g;exact⟨_,jQ,_,T,true,rfl,no g,.inr (.inr (.inl ⟨a,vs,rfl,c,.inl ⟨h1,rfl⟩⟩))⟩
   ·by_cases h2:T="int"\/T="list"
    ·simp only[h1,h2,if_true,if_false]at g;exact⟨_,jQ,_,T,false,rfl,no g,.inr (.inr (.inl ⟨a,vs,rfl,c,.inr ⟨h2,rfl⟩⟩))⟩
    ·simp only[h1,h2,if_false]at g
  | lst l=>
   obtain⟨a,vs,rfl,c,rs⟩:=rv.one
   by_cases h1:T="list"
   ·simp only[h1,if_true]at g;exact⟨_,jQ,_,T,true,rfl,no g,.inr (.inr (.inr ⟨a,vs,rfl,SqL.of c,.inl ⟨h1,rfl⟩⟩))⟩
   ·by_cases h2:T="int"\/T="tuple"
    ·simp only[h1,h2,if_true,if_false]at g;exact⟨_,jQ,_,T,false,rfl,no g,.inr (.inr (.inr ⟨a,vs,rfl,SqL.of c,.inr ⟨h2,rfl⟩⟩))⟩
    ·simp only[h1,h2,if_false]at g
  | _=>exact(show False from g).elim
 | _=>exact(show False from g).elim
theorem u5 {x:Str}{T:String}{p:Pos}(hg:Gl X x)(hm:X.mg x=none)(hv:bootBuiltins x=some (.type T))(hn:x≠"__name__":=by decide)(hd:(x==("__debug__":Str))=false:=by decide):PU X (.Name x p) (uC (.ty T)):=
 vE (aZ4 (v:= .ty T) hg hm hv rfl hn hd) λA H=>by simp only[Rep]
def init (N:List Str)(ds:List D):Ev:=ds.map (λd=>some (.pu d))++replicate (N.length-ds.length) none
theorem oV {N:List Str}{ds:List D}{i:Nat}{z:B}(h:(init N ds)[i]? =some (some z)): ∃d,z= .pu d/\ds[i]? =some d:=by
 unfold init at h
 by_cases hi:i<ds.length
 ·rw[getElem?_append_left (by simpa using hi),getElem?_map]at h
  cases e:ds[i]? with
  | none=>rw[e]at h;cases h
  | some d=>rw[e]at h;cases h;exact⟨d,rfl,rfl⟩
 ·rw[List.getElem?_append_right (by simpa using hi),List.getElem?_replicate]at h
  split at h<;>cases h
theorem aH1 {N:List Str}{ds:List D}{vs:List V}(hA: ∀a,A a->H a≠none)(r:aN K A H ds vs):EOk K ⟨H,A⟩ (init N ds) (L2.start N vs) H:=by
 have own: ∀a,¬Own (init N ds) (L2.start N vs) a:=λa ⟨i,l,h1,_⟩=>by
  obtain⟨d,e,_⟩:=oV h1;cases e
 refine⟨?_,λi d h=> ?_,λi l h=> ?_,λi j l l' a h=> ?_,λi l h=> ?_,.refl _,hA⟩
 ·unfold init L2.start;simp[r.length]
 ·obtain⟨d',e,e2⟩:=oV h;cases e;obtain⟨v,h1,h2⟩:=r.get e2;refine⟨v,?_,h2.mono (.sub (.refl _) λa z=>z.elim id λz=>absurd z (own a))⟩
  unfold L2.start;have hv:i<vs.length:=(List.getElem?_eq_some_iff.mp h1).1;rw[getElem?_append_left (by simpa using hv),getElem?_map,h1]
  rfl
 ·obtain⟨d',e,_⟩:=oV h;cases e
 ·obtain⟨d',e,_⟩:=oV h;cases e
 ·obtain⟨d',e,_⟩:=oV h;cases e
theorem zW {P:Program}{w:World}{K:PySem.W.Frag}{mg:Str->Option Value}{base:Heap}{x qual:Str}{st:Stmt}{f:Addr}{fd:FuncData}{N ps:List Str}{k:Nat}{φ:Φ}(F:Fun K x qual st f fd)(S:aS N ps (a9 st))
  (len: ∀ds Q,φ ds Q->ds.length=ps.length)
  (body: ∀(cdv:Value) (A:Around) (outer:List Env) (s:Shared) (H:Hp) (E:XK),cV k (A.deeper (envOfC qual (a9 st) s.heap.objs.size f cdv))->
   ∃t,mS (jO CX0 P w K mg base N qual (a9 st) f cdv A outer s H E).nox (bY st) t/\ ∀ds Q,φ ds Q->t {nx:=λ_=>Q (.pu .non),rt:=Q} (init N ds)) :
  kI P w K mg base CX0 (k+1) f fd ps (spP K φ):=by
 refine F.ok S (λvs H Q E h=> ?_) (λcdv A outer s H vs Q E hr h=> ?_)
 ·obtain⟨A,ds,Q0,_,r,h,_⟩:=h;rw[<-r.length];exact len ds Q0 h
 ·obtain⟨A',ds,Q0,hA,r,h,q⟩:=h;obtain⟨t,ht,hq⟩:=body cdv A outer s H E hr;refine⟨_,ht,⟨H,A'⟩,init N ds,_,aH1 hA r,hq ds Q0 h,⟨λρ σ H' z I=> ?_,λb v H' z s r=>q b v H' z s r,λ_ _ _ z=>z.elim,λ_ _ _ z=>z.elim⟩⟩
  exact q _ _ H' z I.ext (show Rep _ _ _ _ _ by simp only[Rep])
end
structure Fn (P:Program)(w:World)(K:PySem.W.Frag)(mg:Str->Option Value)(base:Heap)(x:Str)(ps:List Str)(k:Nat)(φ:Φ):Prop where
 ex: ∃f fd,kI P w K mg base CX0 k f fd ps (spP K φ)/\Binds K fd ps []/\keepIn K (.ref f)=true/\mg x=some (.ref f)
section
variable {X:Cx}{e:Expr}{es:List Expr}{pos:Pos}
theorem aR8 {k k':Nat}{ps:List Str}{φ:Φ}{x:Str}{p:Pos}{t:UA}(F:Fn X.prog X.w X.K X.mg X.base x ps k φ)(hr:cV k' X.A)(hk:k<=k')(hg:Gl X x)(ha:PUA X (e::es) t)(hdb:(x==("__debug__":Str))=false:=by decide)
  (he:starEach (e::es) X.env=(false,eval e X.env)::starEach es X.env:=by rfl) (hpl:(backTo pos (starEach es X.env)).any (·.1)=false:=by rfl):PU X (.Call (.Name x p) (e::es) [] pos) (aK φ t):=by
 obtain⟨f,fd,G,b,kp,m⟩:=F.ex;exact b12 (E:=E0) G (hr.mono hk) hg m kp b (λ_ _ _ _ _ _ _ h=>h.elim) ha hdb he hpl
theorem pu_fn0 {k k':Nat}{ps:List Str}{φ:Φ}{x:Str}{p:Pos}(F:Fn X.prog X.w X.K X.mg X.base x ps k φ)(hr:cV k' X.A)(hk:k<=k')(hg:Gl X x)(hdb:(x==("__debug__":Str))=false:=by decide):PU X (.Call (.Name x p) [] [] pos) (aK φ aE):=by
 obtain⟨f,fd,G,b,kp,m⟩:=F.ex;exact aQ9 (E:=E0) G (hr.mono hk) hg m kp b (λ_ _ _ _ _ _ _ h=>h.elim) hdb
theorem il {n i:Nat}(hn:X.N.length=n)(h:i<n): ∀pins σ H s,Inv X pins σ H s->i<σ.length:=λ_ _ _ _ I=>by rw[I.len,hn];exact h
end
theorem Fn.mk' {P:Program}{w:World}{K:PySem.W.Frag}{mg:Str->Option Value}{base:Heap}{x qual:Str}{st:Stmt}{f:Addr}{fd:FuncData}{N ps:List Str}{k:Nat}{φ:Φ}(F:Fun K x qual st f fd)(m:mg x=some (.ref f))(b:Binds K fd ps [])(S:aS N ps (a9 st))
  (len: ∀ds Q,φ ds Q->ds.length=ps.length) {t:US}
  (der: ∀(cdv:Value) (A:Around) (outer:List Env) (s:Shared) (H:Hp) (E:XK),cV k (A.deeper (envOfC qual (a9 st) s.heap.objs.size f cdv))->mS (jO CX0 P w K mg base N qual (a9 st) f cdv A outer s H E).nox (bY st) t)
  (rd: ∀ds Q,φ ds Q->t {nx:=λ_=>Q (.pu .non),rt:=Q} (init N ds)):Fn P w K mg base x ps (k+1) φ:=
 ⟨f,fd,zW F S len λcdv A outer s H E hr=>⟨t,der cdv A outer s H E hr,rd⟩,b,F.kp,m⟩
def yK:Φ:=λds Q=> ∃ns:List Int,ds=[.rol (ns.map .int)]/\ns.length<=63/\Q (.pu (.bl true))
theorem yL {K:PySem.W.Frag}{A:AS}{H:Hp}: ∀ns:List Int,aN K A H (ns.map .int) (ns.map V.int)
 | []=> .nil
 | n::ns=> .cons (by simp only[Rep]) (yL ns)
theorem law_sp {K:PySem.W.Frag}{H:Hp}{a:Addr}{ns:List Int}(hl:ns.length<=63)(hS:SqL K H a (ns.map V.int)):spP K yK [.ref a] H (λv _=>v= .bl true) (λ_ _ _=>False):=by
 refine⟨λ_=>False,[.rol (ns.map .int)],λb=>b= .pu (.bl true),λ_ z=>z.elim,.cons ?_ .nil,⟨ns,rfl,hl,rfl⟩,λb v H' q s r=> ?_⟩
 ·simp only[Rep];exact⟨a,_,rfl,hS.imp (λz=>⟨λz=>z,z⟩) id,yL ns⟩
 ·subst q;have r':Rep K (λ_=>False) H' (.bl true) v:=r
  exact mV r'
theorem walkM {l:PySem.W.OpenLaw}{k:Nat}{x:Str}{q:Program}{loose:List Str}{XP:(Str->Option Value)->Heap->Prop}{YP:World->Heap->Prop}{d:DefRec}{K:Params->PySem.W.Frag}(hn:l.most=some 63)(hdf:d.params.defaults=[])(hr:cV k callerA)
  (hY: ∀(w:World) (h:Heap),YP w h->(K w.params).In h)
  (F: ∀(w:World) (mg:Str->Option Value) (fa:Addr) (h:Heap),(K w.params).In h->h.Ns mainGlobals mg->mg d.name=some (.ref fa)->
   ∃fd:FuncData,(∀(s:Shared) (u:Value),BindsTo s fd ⟨[u],[]⟩ [(x,u)])/\ ∀base:Heap,(K w.params).In base->base.Ns mainGlobals mg->kI l.prog w (K w.params) mg base CX0 k fa fd [x] (spP (K w.params) yK)) :
  PySem.W.WalkO q loose XP YP l.row.toRowW d [] (λf vs=>PySem.call f vs):=
 L2.walk_of (n:=63) (k:=k) (x:=x) (CX:=λ_=>CX0) (sp:=λw=>spP (K w.params) yK) hn (by decide) hdf hr hY F (λ_ _ a ns hl _ hS=>law_sp hl hS) λ_ _ _ _ _ z=>z
end M
end
section
namespace L2
open PySem PySem.Spec PyProof.Rows
def aJ (X:Cx)(N:List Str)(scope:Scope)(cl:List (Str×Addr))(C:Addr)(s:Shared)(H:Hp)(fp:List Addr)(pins:List (Addr×Obj)):Cx where
 prog:=X.prog
 w:=X.w
 K:=X.K
 mg:=X.mg
 base:=X.base
 A:=X.A
 N:=N
 s₀:=s
 H₀:=H
 env:=compEnvC scope cl C X.env
 outer:=X.stack
 stack:=X.stack
 ex:=fp
 fn:=λx=>scope.names.lookup x==some .cell
 calm:=X.calm
 pn:=X.pn++pins
 xe:=λ_ _=>False
theorem mW {env:Env}: ∀(names:List (Str×NameKind)),(∀y∈names,y.2= .free-> ∃c,env.cells.lookup y.1=some c)-> ∀cs:List (Str×Addr),(∀x c,cs.lookup x=some c->env.cells.lookup x=some c)->
  ∃cl,(forIn names cs fun(x:Str×NameKind) r=>(do if(x.2==NameKind.free)=true then do let c<-cellOf env x.1;pure (ForInStep.yield ((x.1,c)::r))else pure (ForInStep.yield r)):Sem (List (Str×Addr)))=pure cl/\
   (∀x c,cl.lookup x=some c->env.cells.lookup x=some c)/\(∀x c,cs.lookup x=some c-> ∃c',cl.lookup x=some c')/\ ∀y∈names,y.2= .free-> ∃c,cl.lookup y.1=some c
 | [],_,cs,hcs=>⟨cs,rfl,hcs,λx c h=>⟨c,h⟩,λy hy=>by simp at hy⟩
 | (n,k)::r,h,cs,hcs=>by
  have hr: ∀y∈r,y.2= .free-> ∃c,env.cells.lookup y.1=some c:=λy hy=>h y (mem_cons_of_mem _ hy)
  by_cases hk:k= .free
  ·subst hk;obtain⟨c,hc⟩:=h (n,.free) mem_cons_self rfl;have e1:cellOf env n=pure c:=by unfold cellOf;rw[hc]
   have hcs': ∀x c',List.lookup x ((n,c)::cs)=some c'->env.cells.lookup x=some c':=λx c' q=>by
    rw[lookup_cons]at q;split at q
    ·rename_i e
     have:x=n:=by simpa using e
     subst this;cases q;exact hc
    ·exact hcs x c' q
   obtain⟨cl,h1,h2,h3,h4⟩:=mW r hr ((n,c)::cs) hcs';have hn: ∃c',cl.lookup n=some c':=h3 n c (by rw[lookup_cons];simp)
   refine⟨cl,?_,h2,λx c' q=> ?_,λy hy hf=> ?_⟩
   ·rw[List.forIn_cons];show(do let c<-cellOf env n;pure (ForInStep.yield ((n,c)::cs))) >>= _=_;rw[e1];exact h1
   ·by_cases z:x=n
    ·subst z;exact hn
    ·refine h3 x c' ?_
     rw[lookup_cons];have:(x==n)=false:=by simpa using z
     rw[this];exact q
   ·rcases List.mem_cons.mp hy with rfl|hy
    ·exact hn
    ·exact h4 y hy hf
  ·obtain⟨cl,h1,h2,h3,h4⟩:=mW r hr cs hcs;refine⟨cl,?_,h2,h3,λy hy hf=> ?_⟩
   ·rw[List.forIn_cons];have:(k==NameKind.free)=false:=by simpa using hk
    show(if(k==NameKind.free)=true then _ else _) >>= _=_
    rw[this];exact h1
   ·rcases List.mem_cons.mp hy with rfl|hy
    ·exact absurd hf hk
    ·exact h4 y hy hf
structure bC (env:Env)(XN N:List Str)(cap:List (Option Nat))(scope:Scope):Prop where
 kind:scope.kind= .function
 owns: ∀y∈scope.names,y.2= .cell->scope.names.lookup y.1=some .cell
 freeK: ∀y∈scope.names,y.2= .free->scope.names.lookup y.1=some .free
 names: ∀y∈scope.names,y.2= .local->scope.names.lookup y.1=some .local
 frees: ∀y∈scope.names,y.2= .free->env.kindOf y.1=some .cell\/env.kindOf y.1=some .free
 caps: ∀(i j:Nat) (x:Str),N[i]? =some x->cap[i]? =some (some j)->XN[j]? =some x/\(x,NameKind.free)∈scope.names/\scope.names.lookup x=some .free
 len:cap.length=N.length
def j4 (σ:L2.St)(cap:List (Option Nat))(last:Nat)(D:Addr):L2.St:=(cap.map λc=>c.bind λj=>(σ[j]?).join).set last (some (.ref D))
theorem oW {env:Env}{x:Str}{k:NameKind}: ∀{names:List (Str×NameKind)},names.lookup x=some k->
  (names.map fun(n,k)=>if(k==NameKind.free&&env.scope.kind== .function&&env.kindOf n==some .cell)then(n,NameKind.cell)else(n,k)).lookup x=
   some (if(k==NameKind.free&&env.scope.kind== .function&&env.kindOf x==some .cell)then NameKind.cell else k)
 | [],h=>by simp at h
 | (n,k')::r,h=>by
  rw[map_cons];rw[lookup_cons]at h;dsimp only
  by_cases e:(x==n)=true
  ·have e':x=n:=by simpa using e
   subst e';rw[e]at h;cases h;split<;>simp
  ·have e2:(x==n)=false:=by simpa using e
   rw[e2]at h;have ih:=oW (env:=env) h;split
   ·rw[lookup_cons,e2];exact ih
   ·rw[lookup_cons,e2];exact ih
theorem g9 {env:Env}{x:Str}{k:NameKind}: ∀{names:List (Str×NameKind)},(names.map fun(n,k)=>if(k==NameKind.free&&env.scope.kind== .function&&env.kindOf n==some .cell)then(n,NameKind.cell)else(n,k)).lookup x=some k->
  ∃k',names.lookup x=some k'/\(x,k')∈names/\(k=k'\/k'= .free)
 | [],h=>by simp at h
 | (n,k')::r,h=>by
  rw[map_cons]at h;dsimp only at h
  by_cases e:(x==n)=true
  ·have e':x=n:=by simpa using e
   subst e';refine⟨k',by rw[lookup_cons,e],mem_cons_self,?_⟩
   split at h
   ·rename_i c
    right
    simp only[and_eq_true,beq_iff_eq]at c;exact c.1.1
   ·rw[lookup_cons,e]at h;cases h;exact .inl rfl
  ·have e2:(x==n)=false:=by simpa using e
   have h':(r.map fun(n,k)=>if(k==NameKind.free&&env.scope.kind== .function&&env.kindOf n==some .cell)then(n,NameKind.cell)else(n,k)).lookup x=some k:=by
    split at h
    ·rw[lookup_cons,e2]at h;exact h
    ·rw[lookup_cons,e2]at h;exact h
   obtain⟨k2,h1,h2,h3⟩:=g9 h';exact⟨k2,by rw[lookup_cons,e2];exact h1,mem_cons_of_mem _ h2,h3⟩
theorem qE {x:Str}{c:Addr}: ∀(names:List (Str×NameKind)) (h:Heap) (acc:List (Str×Addr)),(cellsFrom h.objs.size names acc).lookup x=some c->
  acc.lookup x=some c\/(h.objs.size<=c/\(x,NameKind.cell)∈names/\(pushCells h names).IsCell c none)
 | [],_,_,e=> .inl e
 | (y,k)::r,h,acc,e=>by
  unfold cellsFrom at e;unfold pushCells
  by_cases hk:(k==NameKind.cell)=true
  ·rw[if_pos hk]at e⊢;have hk':k= .cell:=by simpa using hk
   have sz:(h.push {cls:= .type "cell",data:= .cell none}).objs.size=h.objs.size+1:=size_push ..;rw[<-sz]at e;rcases qE r _ _ e with q| ⟨q1,q2,q3⟩
   ·rw[lookup_cons]at q;split at q
    ·rename_i e1
     have:x=y:=by simpa using e1
     subst this;cases q;exact .inr ⟨le_refl _,by rw[hk'];exact mem_cons_self,⟨_,pushCells_keeps _ _ _ _ (get?_push_size _ rfl),rfl⟩⟩
    ·exact .inl q
   ·exact .inr ⟨by lia,mem_cons_of_mem _ q2,q3⟩
  ·rw[if_neg hk]at e⊢;rcases qE r h acc e with q| ⟨q1,q2,q3⟩
   ·exact .inl q
   ·exact .inr ⟨q1,mem_cons_of_mem _ q2,q3⟩
theorem qF: ∀(names:List (Str×NameKind)) (n:Nat) (acc:List (Str×Addr)),(∀x c,acc.lookup x=some c->c<n)->(∀x y c,acc.lookup x=some c->acc.lookup y=some c->x=y)->
  ∀x y c,(cellsFrom n names acc).lookup x=some c->(cellsFrom n names acc).lookup y=some c->x=y
 | [],_,_,_,hi=>hi
 | (z,k)::r,n,acc,hl,hi=>by
  unfold cellsFrom
  by_cases hk:(k==NameKind.cell)=true
  ·rw[if_pos hk];refine qF r (n+1) _ (λx c e=> ?_) (λx y c e1 e2=> ?_)
   ·rw[lookup_cons]at e;split at e
    ·cases e;exact Nat.lt_succ_self n
    ·exact Nat.lt_succ_of_lt (hl x c e)
   ·rw[lookup_cons]at e1 e2;split at e1
    ·rename_i q1
     cases e1;split at e2
     ·rename_i q2
      exact(by simpa using q1:x=z).trans (by simpa using q2:y=z).symm
     ·exact absurd (hl y _ e2) (lt_irrefl _)
    ·split at e2
     ·cases e2;exact absurd (hl x _ e1) (lt_irrefl _)
     ·exact hi x y c e1 e2
  ·rw[if_neg hk];exact qF r n acc hl hi
theorem gS {x:Str}{c:Addr}: ∀(names:List (Str×NameKind)) (n:Nat) (acc:List (Str×Addr)),((x,NameKind.cell)∈names\/ ∀c,acc.lookup x=some c->n<=c)->(cellsFrom n names acc).lookup x=some c->n<=c
 | [],_,_,h,e=>by
  rcases h with h|h
  ·simp at h
  ·exact h c e
 | (z,k)::r,n,acc,h,e=>by
  unfold cellsFrom at e
  by_cases hk:(k==NameKind.cell)=true
  ·rw[if_pos hk]at e;have hk':k= .cell:=by simpa using hk
   rcases h with h|h
   ·rcases List.mem_cons.mp h with h|h
    ·cases h;have:n<=c:=by
      by_cases q: ∃c',(cellsFrom (n+1) r ((x,n)::acc)).lookup x=some c'/\(x,NameKind.cell)∈r
      ·obtain⟨c',e',m⟩:=q;have:=gS (c:=c) r (n+1) _ (.inl m) e
       lia
      ·have nm:(x,NameKind.cell) ∉ r:=λm=>q ⟨c,e,m⟩
       have:=cells_keep r (n+1) ((x,n)::acc) nm;rw[this,lookup_cons]at e;simp at e;exact Nat.le_of_eq e
     exact this
    ·have:=gS (c:=c) r (n+1) _ (.inl h) e
     lia
   ·by_cases q:(x,NameKind.cell)∈r
    ·have:=gS (c:=c) r (n+1) _ (.inl q) e
     lia
    ·have:=cells_keep r (n+1) ((z,n)::acc) q;rw[this,lookup_cons]at e;split at e
     ·cases e;exact le_refl _
     ·exact h c e
  ·rw[if_neg hk]at e;refine gS (c:=c) r n acc (h.imp (λm=> ?_) id) e
   rcases List.mem_cons.mp m with m|m
   ·cases m;exact absurd (by decide) hk
   ·exact m
where
 cells_keep {x:Str}: ∀(names:List (Str×NameKind)) (n:Nat) (acc:List (Str×Addr)),(x,NameKind.cell) ∉ names->(cellsFrom n names acc).lookup x=acc.lookup x
 | [],_,_,_=>rfl
 | (z,k)::r,n,acc,h=>by
  unfold cellsFrom
  by_cases hk:(k==NameKind.cell)=true
  ·rw[if_pos hk];have hk':k= .cell:=by simpa using hk
   rw[cells_keep r (n+1) _ λm=>h (mem_cons_of_mem _ m),lookup_cons]
   split
   ·rename_i e
    have:x=z:=by simpa using e
    subst this;exact absurd (by rw[hk'];exact mem_cons_self) h
   ·rfl
  ·rw[if_neg hk];exact cells_keep r n acc λm=>h (mem_cons_of_mem _ m)
theorem cells_keep {x:Str}(names:List (Str×NameKind))(n:Nat)(acc:List (Str×Addr))(h:(x,NameKind.cell) ∉ names):(cellsFrom n names acc).lookup x=acc.lookup x:=gS.cells_keep names n acc h
theorem rY {M:Model}{A:Around}{E:Value->Shared->Prop}{s:Shared}{scope:Scope}{globals:Addr}{cl:List (Str×Addr)}{qual:Str}{env0:Env}{Q:Env->Shared->Prop}
  (hQ:Q {scope:=scope,locals:=s.heap.objs.size,globals:=globals,cells:=cellsFrom (s.heap.objs.size+1) scope.names cl,qual:=qual,func:=none,code:=env0.code,frame:=env0.frame,builtins:=env0.builtins} {s with heap:=pushCells (s.heap.push {cls:= .type "dict",data:= .dict #[]}) scope.names}) :
  wpAny M A (newFunctionEnv scope globals cl [] qual none .none (some env0)) Q E s:=by
 simp only[newFunctionEnv,Option.isSome_some,if_true];refine wpAny_bind (wpAny_alloc ?_);refine wpAny_bind (wpAny_layCells _ (λname kind cells=>by cases hkc:kind==NameKind.cell<;>simp[hkc]) _ _ _ _ ?_)
 rw[show({s with heap:=s.heap.push {cls:= .type "dict",data:= .dict #[]}}:Shared).heap.objs.size=s.heap.objs.size+1 from size_push ..]
 rw[List.forIn_nil];exact wpAny_bind (wpAny_pure (wpAny_pure hQ))
section
variable {X:Cx}{pins:List (Addr×Obj)}{σ:L2.St}{H:Hp}{s:Shared}{N:List Str}{cap:List (Option Nat)}{scope:Scope}
theorem u6 {fp:List Addr}{last:Nat}{D:Addr}{cl0 cl:List (Str×Addr)}{h1:Heap}{m0:Str->Option Value}{tk:Nat}(S:bC X.env X.N N cap scope)(I:Inv X pins σ H s)(hf: ∀b∈fp,rG X pins H b)(hfs: ∀b∈fp,b<s.heap.objs.size)
  (hcl: ∀x c,cl0.lookup x=some c->X.env.cells.lookup x=some c) (hcl2: ∀y∈scope.names,y.2= .free-> ∃c,cl0.lookup y.1=some c) (hN: ∀x,N[last]? =some x->scope.names.lookup x=none)
  (hns:h1.Ns s.heap.objs.size m0) (hk: ∀b o,s.heap.get? b=some o->h1.get? b=some o)
  (c1: ∀x c,cl.lookup x=some c->cl0.lookup x=some c\/(s.heap.objs.size<c/\h1.IsCell c none)) (c2: ∀x y c,cl.lookup x=some c->cl.lookup y=some c->x=y)
  (c3: ∀x,(x,NameKind.free)∈scope.names->cl.lookup x=cl0.lookup x) (c4: ∀x,scope.names.lookup x=some .cell-> ∃c,cl.lookup x=some c) (c5: ∀x c,scope.names.lookup x=some .cell->cl.lookup x=some c->s.heap.objs.size<=c) :
  Inv (aJ X N scope cl s.heap.objs.size s H fp pins) [] (j4 σ cap last D) H {s with heap:=h1,toks:=tk}:=by
 have sz:X.base.objs.size<=s.heap.objs.size:=le_trans I.ok.bsz I.sz;have kindF: ∀x,(aJ X N scope cl s.heap.objs.size s H fp pins).env.kindOf x=some .cell\/(aJ X N scope cl s.heap.objs.size s H fp pins).env.kindOf x=some .free->(x,NameKind.free)∈scope.names\/scope.names.lookup x=some .cell:=λx h=>by
  have: ∃k,(k= .cell\/k= .free)/\(relabel scope X.env).names.lookup x=some k:=by
   rcases h with h|h
   ·exact⟨_,.inl rfl,h⟩
   ·exact⟨_,.inr rfl,h⟩
  obtain⟨k,hk,h⟩:=this;obtain⟨k',h1,h2,h3⟩:=g9 h;rcases h3 with rfl|rfl
  ·rcases hk with rfl|rfl
   ·exact .inr (S.owns _ h2 rfl)
   ·exact .inl h2
  ·exact .inl h2
 have cne: ∀x c,cl.lookup x=some c-> ∀b∈fp,c≠b:=λx c h b hb=>by
  rcases c1 x c h with q| ⟨q,_⟩
  ·exact(hf b hb).2.2.2.2.1 x c (hcl x c q)
  ·exact λz=>by subst z;exact absurd (Nat.lt_trans q (hfs c hb)) (lt_irrefl _)
 refine⟨⟨I.ok.mod,S.kind,I.ok.glob,I.ok.blt,le_refl _,c2,λx h=> ?_,λx c h e=> ?_,I.ok.hd,I.ok.frames,.inl rfl,λb hb=> ?_,I.bs,sz,λb o e hb=> ?_,λb hb=> ?_,I.stack,I.stkFree⟩,
  rfl,I.bare,Un.kept hk,⟨m0,hns,λi x v e1 e2 e3=> ?_⟩,λx c h=> ?_,I.hok.fresh (le_refl _),λx c h=> ?_,λp hp=> ?_,I.hok.kept hk,?_⟩
 ·rcases kindF x h with q|q
  ·obtain⟨c,e⟩:=hcl2 _ q rfl;exact⟨c,(c3 x q).trans e⟩
  ·exact c4 x q
 ·exact c5 x c (by simpa using(show(scope.names.lookup x==some NameKind.cell)=true from h)) e
 ·exact⟨ne_of_lt (hfs b hb),λx c h=>cne x c h b hb⟩
 ·rcases(hf b hb).2.2.2.1 with z|z
  ·exact I.ok.noex b o e z
  ·have:=lt_size e;exact absurd (lt_of_lt_of_le this (le_trans I.ok.bsz z)) (lt_irrefl _)
 ·intro z;rcases List.mem_cons.mp (I.stkSub b z)with z|z
  ·exact(hf b hb).2.1 z
  ·exact(hf b hb).2.2.1 z
 ·have e1':N[i]? =some x:=e1;unfold j4 at e2
  by_cases hl:last=i
  ·subst hl;have z:=hN x e1';rcases e3 with e3|e3|e3
   ·obtain⟨k',h1,_⟩:=g9 (show(relabel scope X.env).names.lookup x=_ from e3)
    rw[z]at h1;cases h1
   ·obtain⟨k',h1,_⟩:=g9 (show(relabel scope X.env).names.lookup x=_ from e3)
    rw[z]at h1;cases h1
   ·obtain⟨k',h1,_⟩:=g9 (show(relabel scope X.env).names.lookup x=_ from e3)
    rw[z]at h1;cases h1
  ·rw[M.get_set_ne hl,getElem?_map]at e2;cases e4:cap[i]? with
   | none=>rw[e4]at e2;cases e2
   | some c=>
    rw[e4]at e2;cases c with
    | none=>cases e2
    | some j=>
     have e2':(σ[j]?).join=some v:=by simpa using e2
     have e5:σ[j]? =some (some v):=by
      cases q:σ[j]? with
      | none=>rw[q]at e2';cases e2'
      | some w=>rw[q]at e2';cases w with
       | none=>cases e2'
       | some w'=>cases e2';rfl
     obtain⟨a1,a2,a3⟩:=S.caps i j x e1' e4;have kx:=S.frees _ a2 rfl;obtain⟨m,hn,hl'⟩:=I.loc;have vis:Vis X.env.scope x:=by
      rcases kx with kx|kx
      ·exact .inr (.inl kx)
      ·exact .inr (.inr kx)
     obtain⟨u,r,l⟩:=hl' j x v a1 e5 vis;refine⟨u,r,.inr ⟨?_,?_⟩⟩
     ·have q:=oW (env:=X.env) a3;show(relabel scope X.env).names.lookup x=_\/(relabel scope X.env).names.lookup x=_;unfold relabel;dsimp only;rw[q];split
      ·exact .inl rfl
      ·exact .inr rfl
     ·rcases l with⟨l,_⟩| ⟨_,c,hc,hcell⟩
      ·rcases kx with kx|kx<;>·rw[kx]at l;cases l
      ·obtain⟨c',hc'⟩:=hcl2 _ a2 rfl;have:=hcl x c' hc';rw[hc]at this;cases this;obtain⟨o,ho,hd⟩:=hcell;exact⟨c,(c3 x a2).trans hc',o,hk _ _ ho,hd⟩
 ·rcases c1 x c h with q| ⟨_,q⟩
  ·obtain⟨v,o,ho,hd⟩:=I.cell x c (hcl x c q);exact⟨v,o,hk _ _ ho,hd⟩
  ·exact⟨_,q⟩
 ·rcases c1 x c h with q| ⟨q,_⟩
  ·exact I.freeC x c (hcl x c q)
  ·exact I.hok.fresh (le_of_lt q)
 ·have hp':p∈X.pn++pins:=by
   have:p∈(X.pn++pins)++[]:=hp
   simpa using this
  obtain⟨a1,a2,a3,a4,a5⟩:=I.pin p hp';refine⟨hk _ _ a1,a2,ne_of_lt (lt_size a1),λz=> ?_,a5⟩
  rcases List.mem_cons.mp (I.stkSub p.1 z)with z|z
  ·exact a3 z
  ·exact a4 z
 ·unfold j4;rw[length_set,length_map];exact S.len
theorem lW {fp:List Addr}{cl:List (Str×Addr)}{C:Addr}{σ':L2.St}{H':Hp}{s':Shared}{h2:Heap}{pins':List (Addr×Obj)}(I:Inv X pins σ H s)(hf: ∀b∈fp,rG X pins H b)(hC:s.heap.objs.size<=C)
  (I':Inv (aJ X N scope cl C s H fp pins) pins' σ' H' s') (hs:SameBut C s'.heap h2):Inv X pins σ H' {s' with heap:=h2}:=by
 have nC: ∀b o,s.heap.get? b=some o->b≠C:=λb o e z=>by
  subst z;exact absurd (lt_of_lt_of_le (lt_size e) hC) (lt_irrefl _)
 have get: ∀b,b≠C->h2.get? b=s'.heap.get? b:=λb hb=>hs.2 b hb
 have U:=I'.base;have u:Un (frs X.stack) fp H H' s.heap h2:=by
  refine⟨λb o e n h1 hx=> ?_,λb o e n h1 hx=> ?_,U.free,λb o e hx=> ?_,U.tups,U.frzs,U.tbls⟩
  ·rw[get b (nC b o e)];exact U.keep b o e n h1 hx
  ·rw[get b (nC b o e)];exact U.slot b o e n h1 hx
  ·rw[get b (nC b o e)];exact U.there b o e hx
 have fC:H' C=none:=I'.free;have hok:HOk X.prog X.w H' h2:=λa o e=>by
  have na:a≠C:=λz=>by subst z;rw[fC]at e;cases e
  refine(I'.hok a o e).stay (λb u hb q=> ?_) (λ_ q=>q) λ_ _ q=>q
  have nb:b≠C:=by
   rcases hb with rfl|hb
   ·exact na
   ·exact λz=>by subst z;rw[fC]at hb;cases hb
  rw[get b nb];exact q
 obtain⟨hh,gg,dd,tt,oo⟩:=s';have eo:oo=s.os:=I'.os;subst eo;have fin:=I.call (h':=h2) (g':=gg) (d':=dd) (t':=tt) (ch:=fp) u hok I'.bare λb hb=>⟨(hf b hb).2.2.2.1,(hf b hb).2.1,(hf b hb).2.2.2.2.1,(hf b hb).2.2.2.2.2⟩
 exact fin
end
theorem iI {prog:Program}{w:World}{A:Around}{R:Result->Shared->Prop}{s:Shared}{elt target iter:Expr}{ifs:List Expr}{scope:Scope}{pos:Pos}{it acc:Value}{env:Env}(I:Nat->Shared->Prop)
  (turn: ∀n s,I n s->wpAny (model prog w) A (pyNext it) (λr s₁=>match r with
   | none=>R (.ok .next) s₁
   | some v=>wpAny (model prog w) A (letOwnedTupleGo target it v) (λ_ s₂=>wpAny (model prog w) A (assign target env v) (λ_ s₂=>
     wpAny (model prog w) A (forIn ifs true λc r=>if r=true then do let ok<-isTrue c env (eval c env);pure (ForInStep.yield ok)else pure (ForInStep.yield r)) (λok s₃=>
      if ok=true then wpAny (model prog w) A (eval elt env) (λx s₄=>
       wpAny (model prog w) A (call (.builtin "list.append") [acc,x]) (λ_ s₅=> ∃m,m<n/\I m s₅) (notedBy (model prog w) A env λe s'=>R (.error e) s') s₄) (notedBy (model prog w) A env λe s'=>R (.error e) s') s₃
      else ∃m,m<n/\I m s₃) (notedBy (model prog w) A env λe s'=>R (.error e) s') s₂) (notedBy (model prog w) A env λe s'=>R (.error e) s') s₂) (notedBy (model prog w) A env λe s'=>R (.error e) s') s₁) (notedBy (model prog w) A env λe s'=>R (.error e) s') s)
  (n:Nat) (h:I n s):codeAny (model prog w) A (.compLoop (.ListComp elt [⟨target,iter,ifs,0⟩] scope pos) 0 it acc env) R s:=by
 refine codeAny_loop rfl I (λn s hI=> ?_) n h
 show wpAny _ A ((compTurn (.ListComp elt [⟨target,iter,ifs,0⟩] scope pos) 0 it acc env).onRaise (λx=>do noteFrame x env;theTreesLotGoes x)) _ _ s
 refine wpAny_noted ?_
 rw[compTurn_list];refine wpAny_bind (wpAny_standAt (wpAny_bind (wpAny_mono (turn n s hI) (λr s₁ h₁=> ?_) λ_ _ h'=>h')))
 cases r with
 | none=>exact wpAny_pure h₁
 | some v=>
  refine wpAny_bind (wpAny_mono h₁ (λ_ s₂ h₂=>wpAny_bind (wpAny_mono h₂ (λ_ s₂ h₂=>wpAny_bind (wpAny_mono h₂ (λok s₃ h₃=> ?_) λ_ _ h'=>h')) λ_ _ h'=>h')) λ_ _ h'=>h')
  cases ok with
  | false=>exact wpAny_pure ⟨rfl,h₃⟩
  | true=>
   exact wpAny_bind (wpAny_bind (wpAny_mono h₃ (λx s₄ h₄=>wpAny_bind (wpAny_mono h₄ (λ_ s₅ h₅=>wpAny_pure (wpAny_pure ⟨rfl,h₅⟩)) λ_ _ h'=>h')) λ_ _ h'=>h'))
def PTs (X:Cx)(ifs:List Expr)(t:TT):Prop:=
 ∀(pins:List (Addr×Obj)) (s:Shared) (σ:L2.St) (H:Hp) (Q:Bool->Hp->Prop),Inv X pins σ H s->t σ H Q->
  wpAny (model X.prog X.w) X.A (forIn ifs true λc r=>if r=true then do let ok<-isTrue c X.env (eval c X.env);pure (ForInStep.yield ok)else pure (ForInStep.yield r)) (TP X pins σ Q) X.xe s
theorem b22 {X:Cx}:PTs X [] (λ_ H Q=>Q true H):=λpins s σ H Q I h=>wpAny_tests_nil ⟨H,I,h⟩
def w8 (cap:List (Option Nat))(last:Nat)(wi:TI)(g:TG)(tt:TT)(te:TE):TE:=λσ H Q=>wi σ H λJ H1=> ∀D,H1 D=none-> ∃W:Nat->Nat->L2.St->Hp->Prop,(∃m,W 0 m (j4 σ cap last D) (upd H1 D (.lst [])))/\ ∀i m σ' H',W i m σ' H'->
 (J.stop i H'/\Q (.ref D) H')\/(J.go i H'/\ ∃Nx:L2.St->Hp->Prop,(∀σ2 H2,Nx σ2 H2-> ∃m',m'<m/\W (i+1) m' σ2 H2)/\ ∀x H2,J.yld i H' x H2->g x σ' H2 λσ3 H3=>tt σ3 H3 λc H4=>
  if c=true then te σ3 H4 λy H5=> ∃ys,H5 D=some (.lst ys)/\ys.length<sizeLine/\Nx σ3 (upd H5 D (.lst (ys++[y])))else Nx σ3 H4)
theorem yM {X:Cx}{RR:Value->Addr->Result->Shared->Prop}{elt iter tg:Expr}{ifs:List Expr}{scope:Scope}{pos:Pos}{N:List Str}{cap:List (Option Nat)}{last:Nat}{wi:TI}{g:TG}{tt:TT}{te:TE}(hc:X.calm=true)(hi:PI X tg iter wi)(S:bC X.env X.N N cap scope)
  (hN: ∀x,N[last]? =some x->scope.names.lookup x=none)
  (hg: ∀cl C s H fp pins,PG (aJ X N scope cl C s H fp pins) tg g) (ht: ∀cl C s H fp pins,PTs (aJ X N scope cl C s H fp pins) ifs tt) (he: ∀cl C s H fp pins,PE (aJ X N scope cl C s H fp pins) elt te)
  {pins:List (Addr×Obj)} {s:Shared} {σ:L2.St} {H:Hp} {Q:VK} {cl:List (Str×Addr)} (I:Inv X pins σ H s) (h:w8 cap last wi g tt te σ H Q) (hcl: ∀x c,cl.lookup x=some c->X.env.cells.lookup x=some c) (hcl2: ∀y∈scope.names,y.2= .free-> ∃c,cl.lookup y.1=some c)
  (fin: ∀(D:Addr) (fp:List Addr) (H3:Hp) (s3:Shared) (σ':L2.St) (H':Hp) (s':Shared),Inv X pins σ H3 s3->(∀b∈fp,rG X pins H3 b)->Inv (aJ X N scope (cellsFrom (s3.heap.objs.size+1) scope.names cl) s3.heap.objs.size s3 H3 fp pins) [] σ' H' s'->Q (.ref D) H'->RR (.ref D) s3.heap.objs.size (.ok .next) s') :
  wpAny (model X.prog X.w) X.A (eval iter X.env) (λx s₁=>wpAny (model X.prog X.w) X.A (pyIter x) (λit s₂=>wpAny (model X.prog X.w) X.A (newList []) (λacc s₃=>
   wpAny (model X.prog X.w) X.A (newFunctionEnv scope X.env.globals cl [] X.env.qual none .none (some X.env)) (λcenv s₄=>
    codeAny (model X.prog X.w) X.A (.compStart (.ListComp elt [⟨tg,iter,ifs,0⟩] scope pos) 0 it acc {cenv with scope:=relabel scope X.env}) (RR acc cenv.locals) s₄) X.xe s₃) X.xe s₂) X.xe s₁) X.xe s:=by
 refine thn (hi pins s σ H _ I h) λxv s1 h1=>thn h1 λit s2 h2=> ?_
 obtain⟨ita,fp,tn,J,H2,rfl,I2,T,st2,f2,q⟩:=h2;refine wpAny_newObj_type ?_ (by show 0<=sizeLine;decide)
 have fD:H2 s2.heap.objs.size=none:=I2.hok.fresh (le_refl _);obtain⟨W,⟨m0,w0⟩,turn⟩:=q s2.heap.objs.size fD;have I3:Inv X pins σ (upd H2 s2.heap.objs.size (.lst [])) {s2 with heap:=s2.heap.push {cls:= .type "list",data:= .seq ([]:List Value).toArray}}:=I2.lnew (t':=s2.toks) .nil (zero_le _);have fpne: ∀b∈fp,b≠s2.heap.objs.size:=λb hb=>by
  obtain⟨o,ho,_⟩:=T.obj 0 _ st2 b hb;exact ne_of_lt (lt_size ho)
 have f3: ∀b∈fp,rG X pins (upd H2 s2.heap.objs.size (.lst [])) b:=λb hb=>⟨by rw[cU (fpne b hb)];exact(f2 b hb).1,(f2 b hb).2⟩
 have k23: ∀b o,s2.heap.get? b=some o->(s2.heap.push {cls:= .type "list",data:= .seq ([]:List Value).toArray}).get? b=some o:=λb o e=>get?_push_of_some _ e
 have st3:tn 0 (s2.heap.push {cls:= .type "list",data:= .seq ([]:List Value).toArray}):=T.keep 0 _ _ st2 λb hb o e=>k23 b o e
 have fps: ∀b∈fp,b< (s2.heap.push {cls:= .type "list",data:= .seq ([]:List Value).toArray}).objs.size:=λb hb=>by
  obtain⟨o,ho,_⟩:=T.obj 0 _ st3 b hb;exact lt_size ho
 generalize hS3:({s2 with heap:=s2.heap.push {cls:= .type "list",data:= .seq ([]:List Value).toArray}}:Shared)=s3 at I3;have hh3:s3.heap=s2.heap.push {cls:= .type "list",data:= .seq ([]:List Value).toArray}:=by rw[<-hS3]
 rw[<-hh3]at st3 fps;refine rY ?_;have sz3:(s3.heap.push {cls:= .type "dict",data:= .dict #[]}).objs.size=s3.heap.objs.size+1:=size_push ..;have hns₁:(pushCells (s3.heap.push {cls:= .type "dict",data:= .dict #[]}) scope.names).Ns s3.heap.objs.size (λ_=>none):=(Heap.Ns.new s3.heap (.type "dict")).keeps (pushCells_keeps _ _)
 have k34: ∀b o,s3.heap.get? b=some o->(pushCells (s3.heap.push {cls:= .type "dict",data:= .dict #[]}) scope.names).get? b=some o:=λb o e=>pushCells_keeps _ _ _ _ (get?_push_of_some _ e)
 have I4:=u6 (tk:=s3.toks) (last:=last) (D:=s2.heap.objs.size) (cl:=cellsFrom (s3.heap.objs.size+1) scope.names cl) S I3 f3 fps hcl hcl2 hN hns₁ k34
  (λx c e=>by
   rw[<-sz3]at e;rcases qE _ _ _ e with q| ⟨q1,_,q3⟩
   ·exact .inl q
   ·exact .inr ⟨by lia,q3⟩)
  (qF _ _ _ (λx c e=>by
   obtain⟨v,q⟩:=I3.cell x c (hcl x c e);exact Nat.lt_succ_of_lt q.lt) λx y c e1 e2=>I3.ok.inj x y c (hcl x c e1) (hcl y c e2))
  (λx m=>cells_keep _ _ _ λm'=>by
   have h1:=S.owns _ m' rfl;have h2:=S.freeK _ m rfl;rw[h1]at h2;cases h2)
  (λx e=>Option.isSome_iff_exists.mp (cellsFrom_some _ _ _ (.inl e)))
  (λx c e1 e2=>by
   have:=gS scope.names (s3.heap.objs.size+1) cl (.inl (PySem.mem_of_lookup e1)) e2
   lia)
 have st4:tn 0 (pushCells (s3.heap.push {cls:= .type "dict",data:= .dict #[]}) scope.names):=T.keep 0 _ _ st3 λb hb o e=>k34 b o e
 generalize hcl':cellsFrom (s3.heap.objs.size+1) scope.names cl=cl' at I4;have loop:codeAny (model X.prog X.w) X.A (.compLoop (.ListComp elt [⟨tg,iter,ifs,0⟩] scope pos) 0 (.ref ita) (.ref s2.heap.objs.size) (compEnvC scope cl' s3.heap.objs.size X.env))
   (RR (.ref s2.heap.objs.size) s3.heap.objs.size) {s3 with heap:=pushCells (s3.heap.push {cls:= .type "dict",data:= .dict #[]}) scope.names,toks:=s3.toks}:=by
  have stat: ∀{H':Hp},(∀b∈fp,H' b=none)-> ∀b∈fp,rG (aJ X N scope cl' s3.heap.objs.size s3 (upd H2 s2.heap.objs.size (.lst [])) fp pins) [] H' b:=λ{H'} hn b hb=>by
   refine⟨hn b hb,ne_of_lt (fps b hb),λz=> ?_,.inl hb,λx c e=>(I4.ok.exf b hb).2 x c e,λp hp=> ?_⟩
   ·rcases List.mem_cons.mp (I3.stkSub b z)with z|z
    ·exact(f3 b hb).2.1 z
    ·exact(f3 b hb).2.2.1 z
   ·have:p∈(X.pn++pins)++[]:=hp;exact(f3 b hb).2.2.2.2.2 p (by simpa using this)
  have hcb:(aJ X N scope cl' s3.heap.objs.size s3 (upd H2 s2.heap.objs.size (.lst [])) fp pins).calm=true:=hc;refine iI (λn s'=> ∃i σ' H',Inv (aJ X N scope cl' s3.heap.objs.size s3 (upd H2 s2.heap.objs.size (.lst [])) fp pins) [] σ' H' s'/\tn i s'.heap/\(∀b∈fp,H' b=none)/\W i n σ' H') ?_ m0 ⟨0,_,_,I4,st4,λb hb=>(f3 b hb).1,w0⟩
  rintro n s5 ⟨i,σ5,H5,I5,st5,fr5,w5⟩;rcases turn i n σ5 H5 w5 with⟨stop,qn⟩| ⟨go,Nx,hNx,step⟩
  ·refine wpAny_mono (T.done (aJ X N scope cl' s3.heap.objs.size s3 (upd H2 s2.heap.objs.size (.lst [])) fp pins) rfl rfl rfl hcb i [] s5 σ5 H5 (λ_ _=>False) I5 (stat fr5) st5 stop) (λr s6 hr=> ?_) (λ_ _ z=>z.elim)
   obtain⟨rfl,I6⟩:=hr;exact fin _ fp _ s3 σ5 H5 s6 I3 f3 (hcl'▸I6) qn
  ·refine wpAny_mono (T.item (aJ X N scope cl' s3.heap.objs.size s3 (upd H2 s2.heap.objs.size (.lst [])) fp pins) rfl rfl rfl hcb i [] s5 σ5 H5 (λ_ _=>False) I5 (stat fr5) st5 go) (λr s6 hr=> ?_) (λ_ _ z=>z.elim)
   obtain⟨u,rfl,h6⟩:=hr;refine wpAny_mono h6 (λ_ s7 h7=> ?_) (λ_ _ z=>z.elim)
   obtain⟨x,H7,I7,r7,y7,st7,fr7⟩:=h7;have I7':=I7.pinned (stat fr7) (T.obj _ _ st7);refine wpAny_mono (hg _ _ _ _ _ _ _ s7 σ5 H7 x u _ I7' r7 (step x H7 y7)) (λ_ s8 h8=> ?_) (λ_ _ z=>False.elim z)
   obtain⟨σ8,H8,I8,q8⟩:=h8;have again: ∀{σ9:L2.St} {H9:Hp} {s9:Shared},Inv (aJ X N scope cl' s3.heap.objs.size s3 (upd H2 s2.heap.objs.size (.lst [])) fp pins) ([]++t5 fp s7.heap) σ9 H9 s9->Nx σ9 H9-> ∃m,m<n/\ ∃i σ' H',Inv (aJ X N scope cl' s3.heap.objs.size s3 (upd H2 s2.heap.objs.size (.lst [])) fp pins) [] σ' H' s9/\tn i s9.heap/\(∀b∈fp,H' b=none)/\W i m σ' H':=λ{σ9 H9 s9} I9 n9=>by
    obtain⟨m',hm,w9⟩:=hNx σ9 H9 n9;refine⟨m',hm,i+1,σ9,H9,I9.unpinned,T.keep _ _ _ st7 λb hb o e=>(I9.pin (b,o) (mem_append_right _ (mem_append_right _ (gR hb e)))).1,λb hb=> ?_,w9⟩
    obtain⟨o,e,d⟩:=T.obj _ _ st7 b hb;exact(I9.pin (b,o) (mem_append_right _ (mem_append_right _ (gR hb e)))).2.1
   refine wpAny_mono (ht _ _ _ _ _ _ _ s8 σ8 H8 _ I8 q8) (λc s9 h9=> ?_) (λ_ _ z=>False.elim z)
   obtain⟨H9,I9,q9⟩:=h9;cases c with
   | false=>exact again I9 q9
   | true=>
    rw[if_pos rfl]at q9⊢;refine wpAny_mono (he _ _ _ _ _ _ _ s9 σ8 H9 _ I9 q9) (λv s10 h10=> ?_) (λ_ _ z=>False.elim z)
    obtain⟨y,H10,I10,r10,ys,e10,z10,q10⟩:=h10;refine wpAny_mono (t6 (X:=(aJ X N scope cl' s3.heap.objs.size s3 (upd H2 s2.heap.objs.size (.lst [])) fp pins)) _ s10 σ8 H10 (.ref s2.heap.objs.size) [y] (.ref s2.heap.objs.size) [v] (λv H=>v= .non/\Nx σ8 H) I10 rfl (.cons r10 .nil) ⟨_,ys,y,rfl,rfl,e10,z10,rfl,q10⟩) (λ_ s11 h11=> ?_) (λ_ _ z=>False.elim z)
    obtain⟨_,H11,I11,_,_,q11⟩:=h11;exact again I11 q11
 exact codeAny_compStart_list loop (T.self _ 0 _ _ _ st4 loop)
theorem qR {X:Cx}{N:List Str}{cap:List (Option Nat)}{scope:Scope}{pins:List (Addr×Obj)}{s:Shared}{σ:L2.St}{H:Hp}(S:bC X.env X.N N cap scope)(I:Inv X pins σ H s) :
  ∃cl,closureFor scope X.env=pure cl/\(∀x c,cl.lookup x=some c->X.env.cells.lookup x=some c)/\ ∀y∈scope.names,y.2= .free-> ∃c,cl.lookup y.1=some c:=by
 obtain⟨cl,h1,h2,_,h4⟩:=mW (env:=X.env) scope.names (λy hy hf=>I.ok.has y.1 (S.frees y hy hf)) [] (λx c q=>by simp at q)
 refine⟨cl,?_,h2,h4⟩
 have e:closureFor scope X.env=(forIn scope.names [] fun(x:Str×NameKind) r=>(do if(x.2==NameKind.free)=true then do let c<-cellOf X.env x.1;pure (ForInStep.yield ((x.1,c)::r))else pure (ForInStep.yield r)):Sem (List (Str×Addr))) >>= λr=>pure r:=by
  rfl
 rw[e,h1];rfl
theorem b23 {X:Cx}{elt iter tg:Expr}{ifs:List Expr}{scope:Scope}{pos:Pos}{N:List Str}{cap:List (Option Nat)}{last:Nat}{wi:TI}{g:TG}{tt:TT}{te:TE}(hc:X.calm=true)(hi:PI X tg iter wi)(S:bC X.env X.N N cap scope)
  (hN: ∀x,N[last]? =some x->scope.names.lookup x=none)
  (hg: ∀cl C s H fp pins,PG (aJ X N scope cl C s H fp pins) tg g) (ht: ∀cl C s H fp pins,PTs (aJ X N scope cl C s H fp pins) ifs tt) (he: ∀cl C s H fp pins,PE (aJ X N scope cl C s H fp pins) elt te)
  (hs: ∀x,foldedSetIterable iter X.env x=pure x:=by intro _;rfl):PE X (.ListComp elt [⟨tg,iter,ifs,0⟩] scope pos) (w8 cap last wi g tt te):=by
 intro pins s σ H Q I h;rw[eval_ListComp];obtain⟨cl,hcl0,hcl,hcl2⟩:=qR S I;refine wpAny_comprehension_free (use:=none) rfl hs hcl0 S.kind S.names ?_;refine yM (RR:=λacc C=>compPost (model X.prog X.w) X.A X.xe none (EP X pins σ Q) acc C) hc hi S hN hg ht he I h hcl hcl2 λD fp H3 s3 σ' H' s' I3 f3 I' q=> ?_
 obtain⟨m6,hn6,_⟩:=I'.loc;exact⟨m6,hn6,λh' hs'=>⟨.ref D,H',lW I3 f3 (le_refl _) I' hs',rfl,q⟩⟩
theorem aC3 {X:Cx}{elt iter tg:Expr}{ifs:List Expr}{scope:Scope}{pos spos py:Pos}{y:Str}{i:Nat}{N:List Str}{cap:List (Option Nat)}{last:Nat}{wi:TI}{g:TG}{tt:TT}{te:TE}(hc:X.calm=true)(hi:PI X tg iter wi)(S:bC X.env X.N N cap scope)
  (hN: ∀x,N[last]? =some x->scope.names.lookup x=none)
  (hg: ∀cl C s H fp pins,PG (aJ X N scope cl C s H fp pins) tg g) (ht: ∀cl C s H fp pins,PTs (aJ X N scope cl C s H fp pins) ifs tt) (he: ∀cl C s H fp pins,PE (aJ X N scope cl C s H fp pins) elt te)
  (hy:PG X (.Name y py) (qO i)) (hsw:swapsWith (.ListComp elt [⟨tg,iter,ifs,0⟩] scope pos) (some (.Name y py)) spos.line X.env=pure true:=by rfl)
  (hs: ∀x,foldedSetIterable iter X.env x=pure x:=by intro _;rfl):PS X (.Assign [.Name y py] (.ListComp elt [⟨tg,iter,ifs,0⟩] scope pos) spos) (aP0 (w8 cap last wi g tt te) (qO i)):=by
 intro pins s σ H D I h;rw[exec_Assign_Name_used _ _ _ _ hsw];refine wpAny_bind (wpAny_standAt (wpAny_bind ?_));obtain⟨cl,hcl0,hcl,hcl2⟩:=qR S I;show wpAny _ X.A (do let _<-comprehension (.ListComp elt [⟨tg,iter,ifs,0⟩] scope pos) scope X.env _ (newList []) false (eval iter X.env) (some (assign (.Name y py) X.env))) _ _ s
 refine wpAny_bind (wpAny_mono (wpAny_comprehension_free (use:=some (assign (.Name y py) X.env)) (Q:=λ_ s'=>SP X pins D .next s') rfl hs hcl0 S.kind S.names ?_) (λ_ s' hq=>wpAny_pure (wpAny_pure hq)) λ_ _ e=>e)
 refine yM (RR:=λacc C=>compPost (model X.prog X.w) X.A X.xe (some (assign (.Name y py) X.env)) (λ_ s'=>SP X pins D .next s') acc C) hc hi S hN hg ht he I h hcl hcl2 λD' fp H3 s3 σ' H' s' I3 f3 I' q=> ?_
 obtain⟨m6,hn6,_⟩:=I'.loc;obtain⟨o6,es6,ep6,ho6,rest6⟩:=id hn6;have J:Inv X pins σ H' s':=lW (h2:=s'.heap) I3 f3 (le_refl _) I' (.refl ..);have fC:H' s3.heap.objs.size=none:=I'.free;have neL:s3.heap.objs.size≠X.env.locals:=ne_of_gt I3.lt;have neF:s3.heap.objs.size ∉ X.fs:=I3.nofs (le_refl _);have neC: ∀x c,X.env.cells.lookup x=some c->c≠s3.heap.objs.size:=λx c e z=>by
  obtain⟨v,qq⟩:=I3.cell x c e;exact absurd (lt_of_lt_of_le qq.lt (by rw[z];exact le_refl _)) (lt_irrefl _)
 have neP: ∀p∈X.pn++pins,p.1≠s3.heap.objs.size:=λp hp z=>by
  have:=lt_size (I3.pin p hp).1;rw[z]at this;exact lt_irrefl _ this
 have nd: ∀v,o6.data≠ .cell v:=λv z=>by
  have:o6.data= .dict es6 ep6:=rest6.1;rw[this]at z;cases z
 have J':Inv X (pins++[(s3.heap.objs.size,o6)]) σ H' s':=J.pins_of λp hp=>(List.mem_append.mp hp).elim (λz=>J.pin p (mem_append_right _ z)) λz=>by
  have e:p=(s3.heap.objs.size,o6):=by simpa using z
  subst e;exact⟨ho6,fC,neL,neF,nd⟩
 show wpAny _ X.A (assign (.Name y py) X.env (.ref D')) _ _ _
 refine thn (hy _ s' σ H' (.ref D') (.ref D') D.nx J' rfl q) λ_ s7 ⟨σ7,H7,I7,q7⟩=> ?_
 obtain⟨e7,n7,_⟩:=I7.pin (s3.heap.objs.size,o6) (mem_append_right _ (mem_append_right _ (by simp)))
 refine⟨m6,⟨o6,es6,ep6,e7,rest6⟩,λh' hs'=> ?_⟩
 have I8:=I7.unpinned;exact⟨σ7,H7,I8.turned (t':=s7.toks) (λb o hb e=>(hs'.2 b hb).trans e) n7 neL (.inr (le_trans I3.sz (le_refl _))) neC neP,q7⟩
end L2
namespace M
open PySem PySem.Spec PyProof.Rows L2
def b24:B->B
 | .pu d=> .pu d
 | .ow l=> .bo l
 | .bo l=> .bo l
def lX (ρ:Ev)(cap:List (Option Nat))(last:Nat):Ev:=(cap.map λc=>c.bind λj=>((ρ[j]?).join).map b24).set last (some (.ow []))
def b25 (ρ:Ev)(j:Nat):Ev:=match ρ[j]? with
 | some (some (.ow l))=>ρ.set j (some (.pu (.lst l)))
 | _=>ρ
def l5:Ev->List Nat->Ev
 | ρ,[]=>ρ
 | ρ,j::js=>l5 (b25 ρ j) js
theorem aR9 (ρ:Ev)(j:Nat):Frz ρ (b25 ρ j):=by
 unfold b25;split
 ·rename_i l e
  exact .set e
 ·exact .refl _
theorem wA: ∀(js:List Nat) (ρ:Ev),Frz ρ (l5 ρ js)
 | [],ρ=> .refl _
 | j::js,ρ=>(aR9 ρ j).trans (wA js _)
def cQ (js:List Nat)(cap:List (Option Nat))(last:Nat)(ui:UI)(g:UG)(tt:UT)(te:UE):UE:=λρ Q=>ui ρ λn it ρ1=> ∃Pv:Nat->Ev->Prop,Pv 0 (lX (l5 ρ1 js) cap last)/\
 (∀i ρ',i<n->Pv i ρ'->g (.pu (it i)) ρ' λρ2=>tt ρ2 λc ρ3=>if c=true then te ρ3 λb ρ4=>oS ρ4 last λl=>l.length<sizeLine/\Pv (i+1) (ρ4.set last (some (.ow (l++[b.d]))))else Pv (i+1) ρ3)/\
 ∀ρ',Pv n ρ'->oS ρ' last λl=>Q (.ow l) (l5 ρ1 js)
section
variable {X:Cx}{K:PySem.W.Frag}{C:C0}{ρ ρ':Ev}{σ σ':L2.St}{H H':Hp}
theorem aS0 {cap:List (Option Nat)}{last:Nat}{Dn:Addr}(I:EOk K C ρ σ H)(hl:last<cap.length)(n:H Dn=none) :
  EOk K ⟨H,Av C ρ σ⟩ (lX ρ cap last) (j4 σ cap last Dn) (upd H Dn (.lst [])):=by
 have pu: ∀(i:Nat) (z:B),last≠i->(lX ρ cap last)[i]? =some (some z)-> ∃(j:Nat) (z':B),cap[i]? =some (some j)/\z=b24 z'/\ρ[j]? =some (some z'):=λi z ne h=>by
  unfold lX at h;rw[get_set_ne ne,getElem?_map]at h;cases e4:cap[i]? with
  | none=>rw[e4]at h;cases h
  | some c=>
   rw[e4]at h;cases c with
   | none=>cases h
   | some j=>
    have h':((ρ[j]?).join).map b24=some z:=by simpa using h
    cases q:ρ[j]? with
    | none=>rw[q]at h';cases h'
    | some w=>
     rw[q]at h';cases w with
     | none=>cases h'
     | some w'=>cases h';exact⟨j,w',rfl,rfl,q⟩
 have sgm: ∀(i j:Nat) (v:V),last≠i->cap[i]? =some (some j)->σ[j]? =some (some v)->(j4 σ cap last Dn)[i]? =some (some v):=λi j v e e1 h1=>by
  unfold j4;rw[get_set_ne e,getElem?_map,e1];show some ((σ[j]?).join)=_;rw[h1];rfl
 have atl:(lX ρ cap last)[last]? =some (some (.ow [])):=by
  unfold lX;exact cI (by rw[length_map];exact hl)
 have sal:(j4 σ cap last Dn)[last]? =some (some (.ref Dn)):=by
  unfold j4;exact cI (by rw[length_map];exact hl)
 have noOw: ∀(i:Nat) (l:List D),last≠i->(lX ρ cap last)[i]? ≠some (some (.ow l)):=λi l e h=>by
  obtain⟨j,z',_,z,_⟩:=pu i _ e h;cases z'<;>cases z
 have own: ∀a,Own (lX ρ cap last) (j4 σ cap last Dn) a->a=Dn:=λa ⟨i,l,h1,h2⟩=>by
  by_cases e:last=i
  ·subst e;rw[sal]at h2;cases h2;rfl
  ·exact absurd h1 (noOw i l e)
 have P:fG (Av C ρ σ) H (Av ⟨H,Av C ρ σ⟩ (lX ρ cap last) (j4 σ cap last Dn)) (upd H Dn (.lst [])):=λb o nb e=>by
  have ne:b≠Dn:=λz=>by subst z;rw[n]at e;cases e
  refine⟨?_,by rw[cU ne];exact e⟩
  rintro(z|z)
  ·exact nb z
  ·exact ne (own b z)
 refine⟨by unfold lX j4;rw[length_set,length_set,length_map,length_map],λi d h=> ?_,λi l h=> ?_,λi j l l' a h1 h2 h3 h4=> ?_,λi l h=> ?_,bI n _,λa z=>I.avSome z⟩
 ·by_cases e:last=i
  ·subst e;rw[atl]at h;cases h
  ·obtain⟨j,z',e1,z,e2⟩:=pu i _ e h;cases z' with
   | pu d'=>
    cases z;obtain⟨v,h1,h2⟩:=I.pu j d e2;exact⟨v,sgm i j v e e1 h1,h2.mono P⟩
   | ow l=>cases z
   | bo l=>cases z
 ·by_cases e:last=i
  ·subst e;rw[atl]at h;cases h;exact⟨Dn,[],sal,lN,n,.nil⟩
  ·exact absurd h (noOw i l e)
 ·have e1:last=i:=Decidable.byContradiction λe=>absurd h1 (noOw i l e)
  have e2:last=j:=Decidable.byContradiction λe=>absurd h2 (noOw j l' e)
  exact e1.symm.trans e2
 ·by_cases e:last=i
  ·subst e;rw[atl]at h;cases h
  ·obtain⟨j,z',e1,z,e2⟩:=pu i _ e h;cases z' with
   | pu d'=>cases z
   | ow l'=>
    cases z;obtain⟨a,vs,h1,h2,h3,h4⟩:=I.ow j l e2;exact⟨a,vs,sgm i j _ e e1 h1,.inr ⟨j,l,e2,h1⟩,h2,h4.mono P⟩
   | bo l'=>
    cases z;obtain⟨a,vs,h1,h2,h3,h4⟩:=I.bo j l e2;exact⟨a,vs,sgm i j _ e e1 h1,.inl h2,I.ext _ _ h3,h4.mono P⟩
theorem b87 {js:List Nat}{cap:List (Option Nat)}{last:Nat}{ui:UI}{g:UG}{T:List Nat}{tt:UT}{te:UE}(hl:last<cap.length)(hT:last ∉ T)(σ:L2.St)(H:Hp)(Q:VK)(h:lE K (cQ js cap last ui g tt te) σ H Q) :
  w8 cap last (lI K ui) (lG K T g) (lT K tt) (lE K te) σ H Q:=by
 obtain⟨C,ρ,Q0,I,h,k⟩:=h;refine⟨C,ρ,_,I,h,λn it ρ1 J H1 q f s ok Dn nD=> ?_⟩
 obtain⟨Pv,p0,turn,fin⟩:=q;have fz:=wA js ρ1;have I1:EOk K C (l5 ρ1 js) σ H1:=((I.frz f).same s).frz fz;generalize l5 ρ1 js=ρ2 at fz I1 p0 fin;have P12: ∀{A':AS} {H':Hp},fG (Av C ρ2 σ) H1 A' H'->fG (Av C ρ1 σ) H1 A' H':=λp b o nb e=>p b o (λz=>nb (fz.av z)) e
 have I2:=aS0 I1 hl nD;have own0: ∀{ρ':Ev} {σ':L2.St} {H':Hp},EOk K ⟨H1,Av C ρ2 σ⟩ ρ' σ' H'->fG (Av C ρ2 σ) H1 (Av ⟨H1,Av C ρ2 σ⟩ ρ' σ') H':=λ{ρ' σ' H'} J' b o nb e=>by
  refine⟨?_,J'.ext b o e⟩
  rintro(z| ⟨i,l,h1,h2⟩)
  ·exact nb z
  ·obtain⟨a,vs,h3,h4,h5,_⟩:=J'.ow i l h1;rw[h2]at h3;cases h3;have e':(⟨H1,Av C ρ2 σ⟩:C0).H0 b=some o:=e;rw[h5]at e';cases e'
 have sal:(j4 σ cap last Dn)[last]? =some (some (.ref Dn)):=by
  unfold j4;exact cI (by rw[length_map];exact hl)
 refine⟨λi m σ' H'=>m=n-i/\i<=n/\σ'[last]? =some (some (.ref Dn))/\ ∃ρ',EOk K ⟨H1,Av C ρ2 σ⟩ ρ' σ' H'/\Pv i ρ',⟨n,rfl,zero_le _,sal,_,I2,p0⟩,?_⟩
 rintro i m σ' H' ⟨rfl,hi,hlast,ρ',J',p'⟩;have P:=P12 (own0 J')
 by_cases hlt:i<n
 ·refine .inr ⟨ok.go _ _ i P hlt,λσ2 H2=>σ2[last]? =some (some (.ref Dn))/\ ∃ρ3,EOk K ⟨H1,Av C ρ2 σ⟩ ρ3 σ2 H2/\Pv (i+1) ρ3,λσ2 H2 z=>⟨n-(i+1),by omega,rfl,hlt,z⟩,λx H2 y=> ?_⟩
  obtain⟨s2,r2⟩:=ok.yld _ _ i x H2 P (λa z=>J'.avSome z) hlt y
  refine⟨_,ρ',.pu (it i),H',_,J',s2,r2,turn i ρ' hlt p',λρ3 σ3 H3 q3 J3 same3=> ?_⟩
  have l3:σ3[last]? =some (some (.ref Dn)):=(same3 last hT).trans hlast;refine⟨_,ρ3,_,J3,q3,λc ρ4 H4 q4 f4 s4=> ?_⟩
  have J4:=(J3.frz f4).same s4;cases c with
  | false=>
   dsimp only at q4⊢;rw[if_neg Bool.false_ne_true]at q4⊢;exact⟨l3,ρ4,J4,q4⟩
  | true=>
   dsimp only at q4⊢;rw[if_pos rfl]at q4⊢;refine⟨_,ρ4,_,J4,q4,λb ρ5 v H5 q5 f5 s5 r5=> ?_⟩
   have J5:=(J4.frz f5).same s5;obtain⟨l,hl5,hz,q5⟩:=jD q5;obtain⟨a,vs,g1,g2,g3,g4⟩:=J5.ow last l hl5;rw[l3]at g1;cases g1;refine⟨vs,g2,by rw[<-g4.length];exact hz,l3,_,J5.write hl5 l3 (g4.append (.cons (r5.rep λa z=>J4.avF f5 z) .nil)),q5⟩
 ·have e:i=n:=by omega
  subst e;obtain⟨l,hl5,q5⟩:=jD (fin ρ' p');obtain⟨a,vs,g1,g2,g3,g4⟩:=J'.ow last l hl5;rw[hlast]at g1;cases g1;refine .inl ⟨ok.stop _ _ P,k _ _ _ _ q5 (f.trans fz) (s.trans J'.ext) ⟨Dn,vs,rfl,s.free nD,g2,?_⟩⟩;refine g4.mono λb o nb e=>⟨?_,e⟩
  rintro(z|z)
  ·exact nb (.inl z)
  ·subst z;exact nb (.inr ⟨last,l,hl5,hlast⟩)
theorem cR: ∀{X:Cx},PTs X [] (lT X.K λρ Q=>Q true ρ):=λ{X} pins s σ H Q I ⟨C,ρ,Q0,J,h,k⟩=>b22 pins s σ H Q I (k _ ρ H h (.refl _) (.refl _))
theorem b26 {elt iter tg:Expr}{ifs:List Expr}{scope:Scope}{pos:Pos}{N:List Str}{js:List Nat}{cap:List (Option Nat)}{last:Nat}{ui:UI}{g:UG}{T:List Nat}{tt:UT}{te:UE}(hc:X.calm=true)(hi:PUI X tg iter ui)(S:bC X.env X.N N cap scope)
  (hN: ∀x,N[last]? =some x->scope.names.lookup x=none) (hl:last<cap.length) (hT:last ∉ T)
  (hg: ∀cl C s H fp pins,PUG (aJ X N scope cl C s H fp pins) tg T g) (ht: ∀cl C s H fp pins,PTs (aJ X N scope cl C s H fp pins) ifs (lT X.K tt)) (he: ∀cl C s H fp pins,PU (aJ X N scope cl C s H fp pins) elt te)
  (hs: ∀x,foldedSetIterable iter X.env x=pure x:=by intro _;rfl):PU X (.ListComp elt [⟨tg,iter,ifs,0⟩] scope pos) (cQ js cap last ui g tt te):=
 bP (b23 (g:=lG X.K T g) (tt:=lT X.K tt) (te:=lE X.K te) hc hi S hN hg ht he hs) (b87 hl hT)
theorem aC4 {elt iter tg:Expr}{ifs:List Expr}{scope:Scope}{pos spos py:Pos}{y:Str}{N:List Str}{js:List Nat}{cap:List (Option Nat)}{last:Nat}{ui:UI}{g:UG}{T:List Nat}{tt:UT}{te:UE}(i:Nat)(hc:X.calm=true)(hi:PUI X tg iter ui)(S:bC X.env X.N N cap scope)
  (hN: ∀x,N[last]? =some x->scope.names.lookup x=none) (hl:last<cap.length) (hT:last ∉ T)
  (hg: ∀cl C s H fp pins,PUG (aJ X N scope cl C s H fp pins) tg T g) (ht: ∀cl C s H fp pins,PTs (aJ X N scope cl C s H fp pins) ifs (lT X.K tt)) (he: ∀cl C s H fp pins,PU (aJ X N scope cl C s H fp pins) elt te)
  (hy:PG X (.Name y py) (qO i)) (hi': ∀pins σ H s,Inv X pins σ H s->i<σ.length) (hsw:swapsWith (.ListComp elt [⟨tg,iter,ifs,0⟩] scope pos) (some (.Name y py)) spos.line X.env=pure true:=by rfl)
  (hs: ∀x,foldedSetIterable iter X.env x=pure x:=by intro _;rfl):PUS X (.Assign [.Name y py] (.ListComp elt [⟨tg,iter,ifs,0⟩] scope pos) spos) (aX i (cQ js cap last ui g tt te)):=by
 intro pins s σ H D I q;refine aC3 (g:=lG X.K T g) (tt:=lT X.K tt) (te:=lE X.K te) hc hi S hN hg ht he hy hsw hs pins s σ H D I ?_;obtain⟨C,ρ,D0,J,h,k⟩:=q;exact b87 hl hT σ H _ ⟨C,ρ,_,J,h,λb ρ1 v H1 q f s1 r=>k.nx _ _ _ q ((J.frz f).store s1 r (hi' pins σ H s I))⟩
end
end M
end
section
namespace L2
open PySem PySem.Spec PyProof.Rows
section
variable {X:Cx}
theorem aH2 {bs:List Bool}: ∀{its:List Value},aZ (bs.map V.bl) its->LSm.BoolsAre its bs:=by
 induction bs with
 | nil=>intro its r;cases r;exact .nil
 | cons b bs ih=>
  intro its r;cases r with
  | cons r1 r2=>
   cases r1;exact .cons b (ih r2)
theorem aC5 (hc:X.calm=true):fR X (.builtin "all") (λxs H Q=> ∃(p:Addr) (bs:List Bool),xs=[.ref p]/\SqL X.K H p (bs.map V.bl)/\Q (.bl (bs.all id)) H):=by
 intro pins s σ H xs us Q I r h;obtain⟨p,bs,rfl,hq,q⟩:=h;obtain⟨u,rfl,rx⟩:=vals1 r;cases rx;obtain⟨its,rv,pl,hz⟩:=I.list hq;have ba:=aH2 rv;refine call_all_walk (wpAny_pyIter_list pl.isList ?_);have hne:p≠s.heap.objs.size:=by
  obtain⟨o,n,e,_⟩:=pl;exact ne_of_lt (lt_size e)
 refine⟨s.heap.objs.size,_,_,_,_,_,λi=>(bs[i]?).getD true,rfl,Walks.list (A:=X.A.in1) (I.ok.hd hc) s.heap.objs.size p (λz=>hne z) its.toArray,⟨⟨_,get?_push_size _ rfl,rfl,rfl⟩,pl.isList.push _⟩,?_,λh' tk hk=> ?_⟩
 ·intro i v s' Q' E' hP hQ;obtain⟨b,hb,rfl⟩:=ba.get i v (by simpa using hP)
  refine wpAny_truthy_bool ?_
  have e:(λi=>(bs[i]?).getD true) i=b:=by simp[hb]
  dsimp only at hQ;rw[hb]at hQ;exact hQ
 ·have e:=LSm.range_all bs;have hl:=ba.length;have e2:its.toArray.size=bs.length:=by rw[size_toArray,hl]
  rw[e2,e];exact⟨.bl (bs.all id),H,I.kept λb o e=>hk b o (by simpa using ne_of_lt (lt_size e)) (get?_push_of_some _ e),rfl,q⟩
def lY (esc:List (Str×NameKind))(XN N:List Str)(cap:List (Option Nat))(scope:Scope)(last:Nat):Bool:=
 (scope.kind== .function)&&scope.names.all (λy=>y.2 != .cell||scope.names.lookup y.1==some .cell)&&scope.names.all (λy=>y.2 != .free||scope.names.lookup y.1==some .free)&&scope.names.all (λy=>y.2 != .local||scope.names.lookup y.1==some .local)&&
 scope.names.all (λy=>y.2 != .free||esc.lookup y.1==some .cell||esc.lookup y.1==some .free)&&
 (N.zip cap).all (λz=>match z.2 with|none=>true|some j=>XN[j]? ==some z.1&&scope.names.contains (z.1,.free)&&scope.names.lookup z.1==some .free)&&
 (cap.length==N.length)&&(match N[last]? with|some x=>(scope.names.lookup x).isNone|none=>true)
theorem bC.of {env:Env}{esc:List (Str×NameKind)}{XN N:List Str}{cap:List (Option Nat)}{scope:Scope}{last:Nat}(he:env.scope.names=esc)(h:lY esc XN N cap scope last=true) :
  bC env XN N cap scope/\ ∀x,N[last]? =some x->scope.names.lookup x=none:=by
 unfold lY at h;simp only[and_eq_true,all_eq_true,beq_iff_eq]at h;obtain⟨⟨⟨⟨⟨⟨⟨h1,h2⟩,h2'⟩,h3⟩,h4⟩,h5⟩,h6⟩,h7⟩:=h;have hk: ∀x,env.kindOf x=esc.lookup x:=λx=>by unfold Env.kindOf;rw[he]
 refine⟨⟨h1,λy hy hl=>by have:=h2 y hy;rw[hl]at this;simpa using this,λy hy hl=>by have:=h2' y hy;rw[hl]at this;simpa using this,λy hy hl=> ?_,λy hy hf=> ?_,λi j x e1 e2=> ?_,h6⟩,λx e=> ?_⟩
 ·have:=h3 y hy;rw[hl]at this
  simpa using this
 ·have:=h4 y hy;rw[hf]at this;rw[hk]
  simpa using this
 ·have hm:(x,some j)∈N.zip cap:=by
   refine List.mem_of_getElem? (i:=i) ?_
   rw[List.getElem?_zip_eq_some];exact⟨e1,e2⟩
  have:=h5 _ hm;simp only[and_eq_true,beq_iff_eq]at this;obtain⟨⟨a,b⟩,c⟩:=this;exact⟨a,by simpa using b,c⟩
 ·rw[e]at h7
  simpa using h7
end
end L2
namespace M
open PySem PySem.Spec PyProof.Rows L2
section
variable {X:Cx}{K:PySem.W.Frag}{A:AS}{H:Hp}
def fJ:List D->Option (List Bool)
 | []=>some []
 | .bl b::r=>(fJ r).map (b::·)
 | _=>none
def aS1:List D->Option (List Int)
 | []=>some []
 | .int b::r=>(aS1 r).map (b::·)
 | _=>none
theorem rN: ∀{l:List D} {bs:List Bool} {vs:List V},fJ l=some bs->aN K A H l vs->vs=bs.map V.bl
 | [],bs,vs,h,r=>by cases h;exact r.unnil
 | d::r,bs,vs,h,q=>by
  obtain⟨v,vr,rfl,rv,rr⟩:=q.uncons;cases d with
  | bl b=>
   have h':(fJ r).map (b::·)=some bs:=h;cases e:fJ r with
   | none=>rw[e]at h';cases h'
   | some bs'=>
    rw[e]at h';cases h';rw[mV rv,rN e rr];rfl
  | _=>cases h
def zX:List D->(B->Prop)->Prop:=g1 λd Q=>match d with
 | .lst l=>(match fJ l with
  | some bs=>Q (.pu (.bl (bs.all id)))
  | none=>False)
 | _=>False
theorem wB (hc:X.calm=true):jP X (.builtin "all") zX:=by
 intro A H ds vs Q0 Q hA r g k;obtain⟨d,v,rfl,rfl,rv,g⟩:=rK g r;cases d with
 | lst l=>
  dsimp only at g;cases e:fJ l with
  | none=>rw[e]at g;exact g.elim
  | some bs=>
   rw[e]at g;simp only[Rep]at rv;obtain⟨a,vs,rfl,n,c,rs⟩:=rv;rw[rN e rs]at c;exact⟨_,aC5 hc,a,bs,rfl,SqL.of c,k _ _ H g (.refl _) dG⟩
 | _=>exact(show False from g).elim
def gSum:List D->(B->Prop)->Prop:=g1 λd Q=>match d with
 | .lst l=>(match aS1 l with
  | some ns=>Q (.pu (.int ns.sum))
  | none=>False)
 | _=>False
theorem b27 {x:Str}{i:Int}{t:Tok}{p:Pos}(hg:Gl X x)(hm:X.mg x=some (.int i t))(hd:(x==("__debug__":Str))=false:=by decide):PU X (.Name x p) (uC (.int i)):=
 vE (zJ (v:= .int i) hg hm ⟨t,rfl⟩ hd) λA H=>by simp only[Rep]
theorem wC:bootBuiltins "all"=some (.builtin "all"):=by decide +kernel
theorem cS {elt iter tg:Expr}{ifs:List Expr}{scope:Scope}{pos:Pos}{esc:List (Str×NameKind)}{N:List Str}{js:List Nat}{cap:List (Option Nat)}{last:Nat}{ui:UI}{g:UG}{T:List Nat}{tt:UT}{te:UE}{XN:List Str}(he0:X.env.scope.names=esc)(hx0:X.N=XN)(lk:lY esc XN N cap scope last=true)(hl:last<cap.length)(hT:last ∉ T)(hc:X.calm=true)(hi:PUI X tg iter ui)
  (hg: ∀cl C s H fp pins,PUG (aJ X N scope cl C s H fp pins) tg T g) (ht: ∀cl C s H fp pins,PTs (aJ X N scope cl C s H fp pins) ifs (lT X.K tt)) (he: ∀cl C s H fp pins,PU (aJ X N scope cl C s H fp pins) elt te)
  (hs: ∀x,foldedSetIterable iter X.env x=pure x:=by intro _;rfl):PU X (.ListComp elt [⟨tg,iter,ifs,0⟩] scope pos) (cQ js cap last ui g tt te):=
 b26 hc hi (bC.of he0 (hx0▸lk)).1 (bC.of he0 (hx0▸lk)).2 hl hT hg ht he hs
theorem a65 {elt iter tg:Expr}{ifs:List Expr}{scope:Scope}{pos spos py:Pos}{y:Str}{esc:List (Str×NameKind)}{N:List Str}{js:List Nat}{cap:List (Option Nat)}{last:Nat}{ui:UI}{g:UG}{T:List Nat}{tt:UT}{te:UE}(i:Nat){XN:List Str}(he0:X.env.scope.names=esc)(hx0:X.N=XN)(lk:lY esc XN N cap scope last=true)(hl:last<cap.length)(hT:last ∉ T)(hc:X.calm=true)(hi:PUI X tg iter ui)
  (hg: ∀cl C s H fp pins,PUG (aJ X N scope cl C s H fp pins) tg T g) (ht: ∀cl C s H fp pins,PTs (aJ X N scope cl C s H fp pins) ifs (lT X.K tt)) (he: ∀cl C s H fp pins,PU (aJ X N scope cl C s H fp pins) elt te)
  (hy:PG X (.Name y py) (qO i)) (hi': ∀pins σ H s,Inv X pins σ H s->i<σ.length) (hsw:swapsWith (.ListComp elt [⟨tg,iter,ifs,0⟩] scope pos) (some (.Name y py)) spos.line X.env=pure true:=by rfl)
  (hs: ∀x,foldedSetIterable iter X.env x=pure x:=by intro _;rfl):PUS X (.Assign [.Name y py] (.ListComp elt [⟨tg,iter,ifs,0⟩] scope pos) spos) (aX i (cQ js cap last ui g tt te)):=
 aC4 i hc hi (bC.of he0 (hx0▸lk)).1 (bC.of he0 (hx0▸lk)).2 hl hT hg ht he hy hi' hsw hs
def uDrop (te:UE):US:=λD ρ=>te ρ λ_ ρ1=>D.nx ρ1
theorem aS2: ∀ds ρ Q,aG6 ds ρ Q->ds.length=0:=λds ρ Q h=>by rw[h.1];rfl
theorem yN {i n:Nat}{u:UGs}(h: ∀ds ρ Q,u ds ρ Q->ds.length=n): ∀ds ρ Q,vZ i u ds ρ Q->ds.length=n+1:=λds ρ Q q=>by
 cases ds with
 | nil=>exact(show False from q).elim
 | cons d r=>rw[length_cons,h r _ Q q.2]
end
end M
end
section
namespace HT
open PySem PyProof.Rows
end HT
namespace L2
open PySem PySem.Spec PyProof.Rows
end L2
namespace M
open PySem PySem.Spec PyProof.Rows L2
section
variable {X:Cx}{K:PySem.W.Frag}{A:AS}{H:Hp}{e e3:Expr}{t3:UE}{pos p2:Pos}
def gRev (d:D)(Q:B->Prop):Prop:=match d with
 | .tup l=>Q (.pu (.tup l.reverse))
 | _=>False
def uRev (t:UV)(t3:UE):UE:=λρ Q=>t ρ λd ρ1=>t3 ρ1 λb ρ2=>b.d= .int (-1)/\gRev d λb=>Q b ρ2
end
end M
end
section
namespace L2
open PySem PySem.Spec PyProof.Rows
end L2
namespace M
open PySem PySem.Spec PyProof.Rows L2
section
variable {X:Cx}{K:PySem.W.Frag}{H:Hp}{pos:Pos}
def uRngD (ta:UA):UI:=λρ Q=>ta ρ λds ρ1=>match ds with
 | [.int i,.int j,.int m]=>m= -1/\(-(2^31)<=i/\i<2^31/\ -(2^31)<=j/\j<2^31)/\Q (i-j).toNat (λk=> .int (i-k)) ρ1
 | _=>False
end
end M
end
section
namespace L2
open PySem PySem.Spec PyProof.Rows
def aL3 (T:Bool)(h:Heap)(a:Addr)(xs:Array Value):Prop:=match T with
 | false=>h.IsList a xs
 | true=>h.IsTuple a xs
def uS (T:Bool)(h:Heap)(it a:Addr)(i:Nat):Prop:=match T with
 | false=>h.IsListIter it a i
 | true=>h.IsTupleIter it a i
def sqObj (T:Bool)(a:Addr):Obj:=match T with
 | false=>{cls:= .type "list_iterator",data:= .fields #[.ref a,.int 0 0]}
 | true=>{cls:= .type "tuple_iterator",data:= .fields #[.ref a,.int 0 0]}
def SqV (K:PySem.W.Frag)(T:Bool)(H:Hp)(a:Addr)(xs:List V):Prop:=match T with
 | false=>SqL K H a xs
 | true=>SqT K H a xs
theorem aL3.at {T:Bool}{h h':Heap}{a:Addr}{xs:Array Value}(x:aL3 T h a xs)(e: ∀o,h.get? a=some o->h'.get? a=some o):aL3 T h' a xs:=by
 cases T<;>(obtain⟨o,ho,r⟩:=x;exact⟨o,e o ho,r⟩)
theorem uS.at {T:Bool}{h h':Heap}{it a:Addr}{i:Nat}(x:uS T h it a i)(e: ∀o,h.get? it=some o->h'.get? it=some o):uS T h' it a i:=by
 cases T<;>(obtain⟨o,ho,r⟩:=x;exact⟨o,e o ho,r⟩)
theorem aL3.lt {T:Bool}{h:Heap}{a:Addr}{xs:Array Value}(x:aL3 T h a xs):a<h.objs.size:=by
 cases T<;>(obtain⟨o,ho,r⟩:=x;exact lt_size ho)
theorem uS.lt {T:Bool}{h:Heap}{it a:Addr}{i:Nat}(x:uS T h it a i):it<h.objs.size:=by
 cases T<;>(obtain⟨o,ho,r⟩:=x;exact lt_size ho)
theorem uS.rec' {T:Bool}{h:Heap}{it a:Addr}{i:Nat}(x:uS T h it a i): ∃o,h.get? it=some o/\ ∀v,o.data≠ .cell v:=by
 cases T<;>(obtain⟨o,ho,hc,hd⟩:=x;exact⟨o,ho,λv z=>by rw[hd]at z;cases z⟩)
theorem uS.new {T:Bool}(h:Heap)(a:Addr):uS T (h.push (sqObj T a)) h.objs.size a 0:=by
 cases T<;>exact⟨_,get?_push_size _ rfl,rfl,rfl⟩
section
variable {X:Cx}{pins:List (Addr×Obj)}{σ:St}{H:Hp}{s:Shared}
theorem Inv.sq {T:Bool}{a:Addr}{xs:List V}(I:Inv X pins σ H s)(h:SqV X.K T H a xs): ∃its:List Value,aZ xs its/\aL3 T s.heap a its.toArray/\xs.length<=sizeLine:=by
 cases T with
 | false=>obtain⟨its,rv,p,hz⟩:=I.list h;exact⟨its,rv,p.isList,hz⟩
 | true=>obtain⟨its,rv,p,hz⟩:=I.tuple h;exact⟨its,rv,p,hz⟩
end
structure ZSt (T1 T2:Bool)(z TI TO i1 i2 l1 l2:Addr)(f0:Value)(i:Nat)(h:Heap):Prop where
 hz:IsZip h z TI TO f0
 hI:IsPair h TI (.ref i1) (.ref i2)
 hO: ∃a b,IsPair h TO a b
 h1:uS T1 h i1 l1 i
 h2:uS T2 h i2 l2 i
theorem ZSt.objs {T1 T2:Bool}{z TI TO i1 i2 l1 l2:Addr}{f0:Value}{i:Nat}{h:Heap}(st:ZSt T1 T2 z TI TO i1 i2 l1 l2 f0 i h): ∀b∈[z,TI,TO,i1,i2],∃o,h.get? b=some o/\ ∀v,o.data≠ .cell v:=λb hb=>by
 obtain⟨hz,hI,⟨a,c,hO⟩,h1,h2⟩:=st;simp only[mem_cons,not_mem_nil,or_false]at hb;rcases hb with rfl|rfl|rfl|rfl|rfl
 ·exact⟨_,hz,λv q=>by cases q⟩
 ·exact⟨_,hI,λv q=>by cases q⟩
 ·exact⟨_,hO,λv q=>by cases q⟩
 ·exact h1.rec'
 ·exact h2.rec'
def ESt (T:Bool)(e it l:Addr)(i:Nat)(h:Heap):Prop:=(∃old,IsEnum h e it i old)/\uS T h it l i
theorem ESt.objs {T:Bool}{e it l:Addr}{i:Nat}{h:Heap}(st:ESt T e it l i h): ∀b∈[e,it],∃o,h.get? b=some o/\ ∀v,o.data≠ .cell v:=λb hb=>by
 obtain⟨⟨old,he⟩,h1⟩:=st;simp only[mem_cons,not_mem_nil,or_false]at hb;rcases hb with rfl|rfl
 ·exact⟨_,he,λv q=>by cases q⟩
 ·exact h1.rec'
end L2
end
section
namespace L2
open PySem PySem.Spec PyProof.Rows
end L2
namespace HT
open PySem PyProof.Rows
section
variable {prog:Program}{w:World}{A:Around}{E:Value->Shared->Prop}{s:Shared}
theorem getItem_tuple_whole {t sl:Addr}{items:Array Value}{vl vu:Value}{lo hi:Option Int}{Q:Value->Shared->Prop}(ht:IsTup s.heap t items)(hs:s.heap.IsSliceOf sl vl vu .none)(pl:IsPart vl lo)(pu:IsPart vu hi)
  (hw:sIx items.size 0 lo=0/\sIx items.size items.size hi=items.size) (h:Q (.ref t) s):wpAny (model prog w) A (getItem (.ref t) (.ref sl)) Q E s:=by
 obtain⟨os,hos,hcs,hds⟩:=id hs;have hTs:s.TypeIs (.ref sl) "slice":=⟨os,hos,hcs⟩;unfold getItem;try with_reducible refine wpAny_holding ?_
 first|refine wpAny_bind (wpAny_pure ?_)|skip
 refine wpAny_bind (wpAny_sequenceKey ht.typeIs (by decide) ?_)
 refine wpAny_bind (wpAny_callSpecial?_slot (name:=Str.ofString "__getitem__") ht.typeIs PyProof.Rows.slot_tuple_getitem (wpAny_call_entry PyProof.Rows.slot_tuple_getitem ht.typeIs entry_tuple_getitem ?_ (args_tuple_getitem _ _)))
 show wpAny _ _ (Builtin.Tuple.tupleItemsOf (.ref t) >>= _) _ _ s
 refine wpAny_bind (tupleItemsOf_ ht ?_)
 refine wpAny_bind (wpAny_typeOf hTs ?_)
 rw[if_pos (by decide)]
 refine wpAny_bind (lQ hs pl pu ?_)
 have hyes:(((sIx items.size 0 lo:Nat):Int)==0&&(1:Int)==1&&(sIx items.size items.size hi-sIx items.size 0 lo)==items.size)=true:=by
  rw[hw.1,hw.2];simp
 show wpAny _ _ (if(((sIx items.size 0 lo:Nat):Int)==0&&(1:Int)==1&&(sIx items.size items.size hi-sIx items.size 0 lo)==items.size)=true then _ else _) _ _ s
 rw[if_pos hyes];show wpAny _ _ (Builtin.Tuple.tupleIsExact (.ref t) >>= _) _ _ s;unfold Builtin.Tuple.tupleIsExact;refine wpAny_bind (wpAny_bind (wpAny_typeOf ht.typeIs (wpAny_pure ?_)));show wpAny _ _ (if(Value.type "tuple"==Value.type "tuple")=true then _ else _) _ _ s;rw[if_pos (by decide)]
 refine wpAny_bind (wpAny_rule ?_)
 first
  | exact wpAny_pure ⟨_,rfl,wpAny_pure h⟩
  | exact wpAny_bind (wpAny_pure (wpAny_pure ⟨_,rfl,wpAny_pure h⟩))
  | exact wpAny_bind (wpAny_pure ⟨_,rfl,wpAny_pure h⟩)
end
end HT
namespace L2
open PySem PySem.Spec PyProof.Rows
section
variable {X:Cx}
def rSlW (K:PySem.W.Frag):V->Option Int->Option Int->Hp->VK->Prop:=λx lo hi H Q=> ∃a xs,x= .ref a/\SqT K H a xs/\(HT.sIx xs.length 0 lo=0/\HT.sIx xs.length xs.length hi=xs.length)/\Q (.ref a) H
theorem aS3:SlR X (rSlW X.K):=by
 intro pins s σ H x v vl vu lo hi sl Q I rx hs pl pu h;obtain⟨a,xs,rfl,hx,hw,q⟩:=h;cases rx;obtain⟨its,r,ht,hz⟩:=I.tuple hx;have dR:its.toArray.size=xs.length:=by rw[size_toArray];exact r.length.symm
 exact⟨"tuple",_,PyProof.Rows.slot_tuple_getitem.lookup,ht.typeIs,HT.getItem_tuple_whole ht hs pl pu (by rw[dR];exact hw) ⟨.ref a,H,I,rfl,q⟩⟩
end
end L2
namespace M
open PySem PySem.Spec PyProof.Rows L2
section
variable {X:Cx}{K:PySem.W.Frag}{A:AS}{H:Hp}{e a b:Expr}{te ti:UE}{pos p2:Pos}{C:C0}{ρ ρ':Ev}{σ:L2.St}
def gSlT (d:D)(lo hi:Option Int)(Q:B->Prop):Prop:=match d with
 | .tup l=>Q (.pu (.tup (cutD l lo hi)))
 | .lst l=>Q (.ow (cutD l lo hi))
 | .rol l=>Q (.ow (cutD l lo hi))
 | _=>False
def b28 (t:UE)(tl th:UO):UE:=λρ Q=>t ρ λb0 ρ1=>tl ρ1 λlo ρ2=>th ρ2 λhi ρ3=>gSlT b0.d lo hi λb=>Q b ρ3
theorem aL4 (l:List D)(lo hi:Option Int)(h:HT.sIx l.length 0 lo=0/\HT.sIx l.length l.length hi=l.length):cutD l lo hi=l:=by
 unfold cutD;rw[h.1,h.2];simp
theorem aL5 {tl th:UO}{lo hi:Option Expr}(he:PU X e te)(hl:PUO X lo tl)(hu:PUO X hi th):PU X (.Subscript e (.Slice lo hi none p2) pos) (b28 te tl th):=
 bP (vX ((aG5.or aQ1).or aS3) he hl hu) λσ H Q ⟨C,ρ,Q0,I,h,k⟩=>⟨C,ρ,_,I,h,λb0 ρ1 v H1 q f s r=>by
  have I1:=(I.frz f).same s;have rr:=r.rep λa z=>I.avF f z
  refine⟨C,ρ1,_,I1,q,λl2 ρ2 H2 q2 f2 s2=> ?_⟩
  have I2:=(I1.frz f2).same s2;refine⟨C,ρ2,_,I2,q2,λh3 ρ3 H3 q3 f3 s3=> ?_⟩
  have I3:=(I2.frz f3).same s3;have s13:=s2.trans s3;have sAll:=s.trans s13;have fAll:=f.trans (f2.trans f3);have r':Rep X.K (Av C ρ3 σ) H3 b0.d v:=rr.mono (.sub s13 λa z=>f2.av (f3.av z))
  generalize b0.d=d at r' q3;cases d with
  | tup l=>
   have r2:=r';simp only[Rep]at r';obtain⟨a,vs,rfl,c,rs⟩:=r';have dR:=rs.length
   by_cases hw:HT.sIx l.length 0 l2=0/\HT.sIx l.length l.length h3=l.length
   ·refine .inr ⟨a,vs,rfl,c.imp And.right id,by rw[<-dR];exact hw,k _ ρ3 _ _ q3 fAll sAll ?_⟩
    show Rep _ _ _ (.tup (cutD l l2 h3)) _
    rw[aL4 l l2 h3 hw];exact r2
   ·exact .inl (.inr ⟨a,vs,rfl,c.imp And.right id,by rw[<-dR];exact hw,λp n=>k _ ρ3 _ _ q3 fAll (sAll.trans (bI n _)) (dC (λa z=>I3.avSome z) n (rs.cut l2 h3))⟩)
  | lst l=>
   simp only[Rep]at r';obtain⟨a,vs,rfl,n0,c,rs⟩:=r';exact .inl (.inl ⟨a,vs,rfl,SqL.of c,λp n=>k _ ρ3 _ _ q3 fAll (sAll.trans (bI n _)) (cF sAll n (rs.cut l2 h3))⟩)
  | rol l=>
   simp only[Rep]at r';obtain⟨a,vs,rfl,c,rs⟩:=r';exact .inl (.inl ⟨a,vs,rfl,c.imp And.right id,λp n=>k _ ρ3 _ _ q3 fAll (sAll.trans (bI n _)) (cF sAll n (rs.cut l2 h3))⟩)
  | _=>exact(show False from q3).elim⟩
mutual
def pd:D->Option PyData
 | .non=>some .none
 | .bl b=>some (.bool b)
 | .int i=>some (.int i)
 | .tup l=>(pdL l).map .tuple
 | .lst l=>(pdL l).map .list
 | .rol l=>(pdL l).map .list
 | .str _=>none
 | .ty _=>none
 | .obj _ _ _=>none
 | .adr _=>none
 | .xob _ _ _ _=>none
def pdL:List D->Option (List PyData)
 | []=>some []
 | d::r=>(pd d).bind λx=>(pdL r).map (x::·)
end
theorem a66 {d:D}{r:List D}{xs:List PyData}(h:pdL (d::r)=some xs): ∃x ys,xs=x::ys/\pd d=some x/\pdL r=some ys:=by
 simp only[pdL]at h;cases e:pd d with
 | none=>rw[e]at h;cases h
 | some x=>
  rw[e]at h;cases e2:pdL r with
  | none=>rw[e2]at h;cases h
  | some ys=>rw[e2]at h;cases h;exact⟨x,ys,rfl,rfl,rfl⟩
theorem jE {α β:Type}{o:Option α}{f:α->β}{y:β}(h:o.map f=some y): ∃x,o=some x/\y=f x:=by
 cases o with
 | none=>cases h
 | some x=>cases h;exact⟨x,rfl,rfl⟩
mutual
theorem zY: ∀(d:D) {x:PyData},pd d=some x->x.canLay0=true
 | .non,x,h=>by simp only[pd]at h;cases h;rfl
 | .bl b,x,h=>by simp only[pd]at h;cases h;rfl
 | .int i,x,h=>by simp only[pd]at h;cases h;rfl
 | .tup l,x,h=>by simp only[pd]at h;obtain⟨xs,e,rfl⟩:=jE h;simp only[PyData.canLay0];exact vF l e
 | .lst l,x,h=>by simp only[pd]at h;obtain⟨xs,e,rfl⟩:=jE h;simp only[PyData.canLay0];exact vF l e
 | .rol l,x,h=>by simp only[pd]at h;obtain⟨xs,e,rfl⟩:=jE h;simp only[PyData.canLay0];exact vF l e
 | .str _,x,h=>by simp only[pd]at h;cases h
 | .ty _,x,h=>by simp only[pd]at h;cases h
 | .obj _ _ _,x,h=>by simp only[pd]at h;cases h
 | .adr _,x,h=>by simp only[pd]at h;cases h
 | .xob _ _ _ _,x,h=>by simp only[pd]at h;cases h
theorem vF: ∀(l:List D) {xs:List PyData},pdL l=some xs->PyData.canLayAll0 xs=true
 | [],xs,h=>by simp only[pdL]at h;cases h;rfl
 | d::r,xs,h=>by
  obtain⟨x,ys,rfl,e1,e2⟩:=a66 h;simp only[PyData.canLayAll0,and_eq_true];exact⟨zY d e1,vF r e2⟩
end
section
variable {pins:List (Addr×Obj)}{s:Shared}
mutual
theorem t9 (I:Inv X pins σ H s): ∀(d:D) {x:PyData} {v:V} {u:Value},pd d=some x->Rep X.K A H d v->RelV v u-> ∃as,Reads s.heap u x as
 | .non,x,v,u,h,r,q=>by simp only[pd]at h;cases h;simp only[Rep]at r;subst r;cases q;exact⟨_,.none⟩
 | .bl b,x,v,u,h,r,q=>by simp only[pd]at h;cases h;simp only[Rep]at r;subst r;cases q;exact⟨_,.bool b⟩
 | .int i,x,v,u,h,r,q=>by simp only[pd]at h;cases h;simp only[Rep]at r;subst r;obtain⟨t,rfl⟩:=q;exact⟨_,.int i t⟩
 | .tup l,x,v,u,h,r,q=>by
  simp only[pd]at h;obtain⟨xs,e,rfl⟩:=jE h;simp only[Rep]at r;obtain⟨a,vs,rfl,c,rs⟩:=r;cases q;obtain⟨its,rv,⟨o,ho,hc,n,hd⟩,hz⟩:=I.tuple (c.imp And.right id);obtain⟨as,ra⟩:=mX I l e rs rv;exact⟨_,.tuple ho hc hd (by simpa using ra)⟩
 | .lst l,x,v,u,h,r,q=>by
  simp only[pd]at h;obtain⟨xs,e,rfl⟩:=jE h;simp only[Rep]at r;obtain⟨a,vs,rfl,n0,c,rs⟩:=r;cases q;obtain⟨its,rv,p,hz⟩:=I.list (SqL.of c);obtain⟨o,ho,hc,n,hd⟩:=p.isList;obtain⟨as,ra⟩:=mX I l e rs rv;exact⟨_,.list ho hc hd (by simpa using ra)⟩
 | .rol l,x,v,u,h,r,q=>by
  simp only[pd]at h;obtain⟨xs,e,rfl⟩:=jE h;simp only[Rep]at r;obtain⟨a,vs,rfl,c,rs⟩:=r;cases q;obtain⟨its,rv,p,hz⟩:=I.list (c.imp And.right id);obtain⟨o,ho,hc,n,hd⟩:=p.isList;obtain⟨as,ra⟩:=mX I l e rs rv;exact⟨_,.list ho hc hd (by simpa using ra)⟩
 | .str _,x,v,u,h,r,q=>by simp only[pd]at h;cases h
 | .ty _,x,v,u,h,r,q=>by simp only[pd]at h;cases h
 | .obj _ _ _,x,v,u,h,r,q=>by simp only[pd]at h;cases h
 | .adr _,x,v,u,h,r,q=>by simp only[pd]at h;cases h
 | .xob _ _ _ _,x,v,u,h,r,q=>by simp only[pd]at h;cases h
theorem mX (I:Inv X pins σ H s): ∀(l:List D) {xs:List PyData} {vs:List V} {us:List Value},pdL l=some xs->aN X.K A H l vs->aZ vs us-> ∃as,ReadsAll s.heap us xs as
 | [],xs,vs,us,h,r,q=>by simp only[pdL]at h;cases h;have:=r.unnil;subst this;cases q;exact⟨_,.nil⟩
 | d::l,xs,vs,us,h,r,q=>by
  obtain⟨x,ys,rfl,e1,e2⟩:=a66 h;obtain⟨v,vr,rfl,r1,rs⟩:=r.uncons;cases q with
  | cons q1 q2=>
   obtain⟨as,h1⟩:=t9 I d e1 r1 q1;obtain⟨bs,h2⟩:=mX I l e2 rs q2;exact⟨_,.cons h1 h2⟩
end
end
def b29 (neg:Bool)(d e:D)(Q:B->Prop):Prop:= ∃p q,pd d=some p/\pd e=some q/\p.depth<=60/\Q (.pu (.bl (neg ^^ p.eqv q)))
theorem aS4 (hu:X.A.units+64<cLine):OpU X (compareOp .Eq) (b29 false):=by
 intro A H d e v w Q0 Q hA r1 r2 g k;obtain⟨p,q,e1,e2,hd,g⟩:=g;refine⟨λx y H Q=> ∃(A:AS) (d e:D) (p q:PyData),Rep X.K A H d x/\Rep X.K A H e y/\pd d=some p/\pd e=some q/\p.depth<=60/\Q (.bl (p.eqv q)) H,?_,A,d,e,p,q,r1,r2,e1,e2,hd,k _ _ H g (.refl _) (by rw[false_xor];exact dG)⟩
 rintro pins s σ H x y v u Q I rx ry ⟨A,d,e,p,q,r1,r2,e1,e2,hd,h⟩;obtain⟨as,ra⟩:=t9 I d e1 r1 rx;obtain⟨bs,rb⟩:=t9 I e e2 r2 ry;exact SeqAt.compareEq_reads ra rb (zY d e1) (zY e e2) (by lia) ⟨.bl _,H,I,rfl,h⟩
def SqA (K:PySem.W.Frag)(A:AS)(H:Hp)(T:Bool)(a:Addr)(vs:List V):Prop:=match T with
 | false=>(¬A a/\Rd H a (.lst vs))\/KL K a vs
 | true=>(¬A a/\Rd H a (.tup vs))\/KT K a vs
theorem fG.self:fG A H A H:=λ_ _ n e=>⟨n,e⟩
theorem Rep.sq {d:D}{v:V}{l:List D}(r:Rep K A H d v)(h:kM d=some l): ∃T a vs,v= .ref a/\SqA K A H T a vs/\aN K A H l vs:=by
 cases d with
 | tup l'=>cases h;simp only[Rep]at r;obtain⟨a,vs,e,c,r⟩:=r;exact⟨true,a,vs,e,c,r⟩
 | lst l'=>cases h;simp only[Rep]at r;obtain⟨a,vs,e,n,c,r⟩:=r;exact⟨false,a,vs,e,.inl ⟨n,.inl c⟩,r⟩
 | rol l'=>cases h;simp only[Rep]at r;obtain⟨a,vs,e,c,r⟩:=r;exact⟨false,a,vs,e,c,r⟩
 | _=>cases h
theorem aN.at {l:List D}{vs:List V}{i:Nat}(r:aN K A H l vs)(hi:i<l.length): ∃x,vs[i]? =some x/\Rep K A H (l.getD i .non) x:=r.get (by rw[getD_eq_getElem?_getD,getElem?_eq_getElem hi];rfl)
def uZip (ta:UA):UI:=λρ Q=>ta ρ λds ρ1=>match ds with
 | [d,e]=>(match kM d,kM e with
  | some l,some m=>Q (min l.length m.length) (λi=> .tup [l.getD i .non,m.getD i .non]) ρ1
  | _,_=>False)
 | _=>False
def uEnum (ta:UA):UI:=λρ Q=>ta ρ λds ρ1=>match ds with
 | [d]=>(match kM d with
  | some l=>Q l.length (λi=> .tup [.int (i:Int),l.getD i .non]) ρ1
  | none=>False)
 | _=>False
def uRevR (ta:UA):UI:=λρ Q=>ta ρ λds ρ1=>match ds with
 | [.int j]=>(-(2^31)<=j/\j<2^31)/\Q j.toNat (λk=> .int ((j.toNat:Int)-1-k)) ρ1
 | _=>False
end
end M
end
section
namespace M
open PySem PySem.Spec PyProof.Rows L2
section
variable {X:Cx}{a b c e:Expr}{ta tb tc te:UE}{pos:Pos}
def uChain (g g':D->D->(B->Prop)->Prop)(ta tb tc:UE):UE:=λρ Q=>ta ρ λx ρ1=>tb ρ1 λy ρ2=>g x.d y.d λb=>isB (λk ρ3=>if k=true then tc ρ3 λz ρ4=>g' y.d z.d λb'=>Q b' ρ4 else Q (.pu (.bl false)) ρ3) b ρ2
theorem aN.dropLast {K:PySem.W.Frag}{A:AS}{H:Hp}{l:List D}{vs:List V}(h:aN K A H l vs):aN K A H l.dropLast vs.dropLast:=by
 rw[List.dropLast_eq_take,List.dropLast_eq_take,h.length];exact h.take _
def uPop (i:Nat):US:=λD ρ=>oS ρ i λl=>l≠[]/\D.nx (ρ.set i (some (.ow l.dropLast)))
end
end M
end
section
namespace L2
open PySem PySem.Spec PyProof.Rows
end L2
end
section
namespace L2
open PySem PySem.Spec PyProof.Rows
def wD (h:Heap)(a l:Addr)(i:Int):Prop:= ∃o,h.get? a=some o/\o.cls= .type "reversed"/\o.data= .fields #[.ref l,rawInt i]
theorem wD.at {h h':Heap}{a l:Addr}{i:Int}(x:wD h a l i)(e: ∀o,h.get? a=some o->h'.get? a=some o):wD h' a l i:=let ⟨o,ho,r⟩:=x;⟨o,e _ ho,r⟩
section
variable {prog:Program}{w:World}{A:Around}{E:Value->Shared->Prop}{s:Shared}
theorem wD.typeIs {a l:Addr}{i:Int}(x:wD s.heap a l i):s.TypeIs (.ref a) "reversed":=let ⟨o,ho,hc,_⟩:=x;⟨o,ho,hc⟩
end
end L2
namespace M
open PySem PySem.Spec PyProof.Rows L2
section
variable {X:Cx}{A:AS}{H:Hp}{K:PySem.W.Frag}{pos:Pos}{a:Expr}
def uRevT (ta:UA):UI:=λρ Q=>ta ρ λds ρ1=>match ds with
 | [.tup l]=>Q l.length (λi=>l.getD (l.length-1-i) .non) ρ1
 | _=>False
def gMulT (d e:D)(Q:B->Prop):Prop:=match d,e with
 | .tup l,.int k=>(l≠[]/\ -(2^63)<=k/\k<2^63/\l.length*k.toNat<=sizeLine)/\Q (.pu (.tup (replicate k.toNat l).flatten))
 | _,_=>False
end
end M
end
section
namespace M
open PySem PySem.Spec PyProof.Rows L2
end M
end
section
namespace L2
open PySem PySem.Spec PyProof.Rows
section
variable {X:Cx}
theorem aC6 (hc:X.calm=true):fR X (.builtin "any") (λxs H Q=> ∃(p:Addr) (bs:List Bool),xs=[.ref p]/\SqL X.K H p (bs.map V.bl)/\Q (.bl (bs.any id)) H):=by
 intro pins s σ H xs us Q I r h;obtain⟨p,bs,rfl,hq,q⟩:=h;obtain⟨u,rfl,rx⟩:=vals1 r;cases rx;obtain⟨its,rv,pl,hz⟩:=I.list hq;have ba:=aH2 rv;refine call_any_walk (wpAny_pyIter_list pl.isList ?_);have hne:p≠s.heap.objs.size:=by
  obtain⟨o,n,e,_⟩:=pl;exact ne_of_lt (lt_size e)
 refine⟨s.heap.objs.size,_,_,_,_,_,λi=>(bs[i]?).getD false,rfl,Walks.list (A:=X.A.in1) (I.ok.hd hc) s.heap.objs.size p (λz=>hne z) its.toArray,⟨⟨_,get?_push_size _ rfl,rfl,rfl⟩,pl.isList.push _⟩,?_,λh' tk hk=> ?_⟩
 ·intro i v s' Q' E' hP hQ;obtain⟨b,hb,rfl⟩:=ba.get i v (by simpa using hP)
  refine wpAny_truthy_bool ?_
  dsimp only at hQ;rw[hb]at hQ;exact hQ
 ·have e:=LSm.range_any bs;have hl:=ba.length;have e2:its.toArray.size=bs.length:=by rw[size_toArray,hl]
  rw[e2,e];exact⟨.bl (bs.any id),H,I.kept λb o e=>hk b o (by simpa using ne_of_lt (lt_size e)) (get?_push_of_some _ e),rfl,q⟩
end
end L2
namespace M
open PySem PySem.Spec PyProof.Rows L2
section
variable {X:Cx}
def aL6:List D->(B->Prop)->Prop:=g1 λd Q=>match d with
 | .lst l=>(match fJ l with
  | some bs=>Q (.pu (.bl (bs.any id)))
  | none=>False)
 | _=>False
theorem aC7 (hc:X.calm=true):jP X (.builtin "any") aL6:=by
 intro A H ds vs Q0 Q hA r g k;obtain⟨d,v,rfl,rfl,rv,g⟩:=rK g r;cases d with
 | lst l=>
  dsimp only at g;cases e:fJ l with
  | none=>rw[e]at g;exact g.elim
  | some bs=>
   rw[e]at g;simp only[Rep]at rv;obtain⟨a,vs,rfl,n,c,rs⟩:=rv;rw[rN e rs]at c;exact⟨_,aC6 hc,a,bs,rfl,SqL.of c,k _ _ H g (.refl _) dG⟩
 | _=>exact(show False from g).elim
theorem aC8:bootBuiltins "any"=some (.builtin "any"):=by decide +kernel
end
end M
end
section
namespace L2
open PySem PySem.Spec PyProof.Rows
end L2
namespace M
open PySem PySem.Spec PyProof.Rows L2
section
variable {X:Cx}{a:Expr}{pos:Pos}{ta:UE}
def gMaxL:List D->(B->Prop)->Prop:=g1 λd Q=>match d with
 | .lst l=>(match aS1 l with
  | some ns=>0<ns.length/\ ∀m:Int,m∈ns->(∀a∈ns,a<=m)->Q (.pu (.int m))
  | none=>False)
 | _=>False
def D.isN:D->Bool
 | .non=>true
 | _=>false
theorem aH3 {K:PySem.W.Frag}{A:AS}{H:Hp}: ∀{d:D} {v:V},Rep K A H d v->decide (v= .non)=d.isN
 | .non,v,h=>by simp only[Rep]at h;subst h;rfl
 | .bl _,v,h=>by simp only[Rep]at h;subst h;rfl
 | .int _,v,h=>by simp only[Rep]at h;subst h;rfl
 | .str _,v,h=>by simp only[Rep]at h;subst h;rfl
 | .ty _,v,h=>by simp only[Rep]at h;subst h;rfl
 | .tup _,v,h=>by simp only[Rep]at h;obtain⟨a,vs,rfl,_⟩:=h;rfl
 | .lst _,v,h=>by simp only[Rep]at h;obtain⟨a,vs,rfl,_⟩:=h;rfl
 | .rol _,v,h=>by simp only[Rep]at h;obtain⟨a,vs,rfl,_⟩:=h;rfl
 | .obj _ _ _,v,h=>by simp only[Rep]at h;obtain⟨a,dx,vs,rfl,_⟩:=h;rfl
 | .adr _,v,h=>by simp only[Rep]at h;subst h;rfl
 | .xob _ _ _ _,v,h=>by simp only[Rep]at h;obtain⟨vs,rfl,_⟩:=h;rfl
def rZ (neg:Bool)(t:UE):UE:=λρ Q=>t ρ λb ρ1=>Q (.pu (.bl (neg ^^ b.d.isN))) ρ1
theorem lIsN (σ:L2.St)(H:Hp)(Q:VK)(h:lE X.K (rZ false ta) σ H Q):tIsN (lE X.K ta) σ H Q:=by
 obtain⟨C,ρ,Q0,I,h,k⟩:=h;refine⟨C,ρ,_,I,h,λb ρ' v H' q f s r=> ?_⟩
 have e:=aH3 (r.rep λa z=>I.avF f z)
 refine k _ ρ' _ H' q f s ?_
 show Rep _ _ _ _ _
 simp only[Rep,false_xor];rw[e]
theorem lNotN (σ:L2.St)(H:Hp)(Q:VK)(h:lE X.K (rZ true ta) σ H Q):b77 (lE X.K ta) σ H Q:=by
 obtain⟨C,ρ,Q0,I,h,k⟩:=h;refine⟨C,ρ,_,I,h,λb ρ' v H' q f s r=> ?_⟩
 have e:=aH3 (r.rep λa z=>I.avF f z)
 refine k _ ρ' _ H' q f s ?_
 show Rep _ _ _ _ _
 simp only[Rep,true_xor];rw[e]
theorem aS5 {j pos'}(ha:PU X a ta):PU X (.Compare a [.Is] [.Constant .none j pos'] pos) (rZ false ta):=bP (pe_cmp (aO6 ha)) lIsN
theorem zZ {j pos'}(ha:PU X a ta):PUT X (.Compare a [.Is] [.Constant .none j pos'] pos) (bB (rZ false ta)):=a57 (aO7 (aO6 ha)) λσ H Q h=>lIsN σ H _ (b11 σ H Q h)
theorem wE {j pos'}(ha:PU X a ta):PUT X (.Compare a [.IsNot] [.Constant .none j pos'] pos) (bB (rZ true ta)):=a57 (aO7 (aZ5 ha)) λσ H Q h=>lNotN σ H _ (b11 σ H Q h)
end
end M
end
section
namespace M
open PySem PySem.Spec PyProof.Rows L2
mutual
def D.nl:D->Bool
 | .tup l=>D.nls l
 | .lst _=>false
 | .rol _=>false
 | .obj _ _ _=>false
 | .adr _=>false
 | .xob _ _ _ _=>false
 | .non=>true
 | .bl _=>true
 | .int _=>true
 | .str _=>true
 | .ty _=>true
def D.nls:List D->Bool
 | []=>true
 | d::l=>d.nl&&D.nls l
end
section
variable {K:PySem.W.Frag}{A A':AS}{H H':Hp}
mutual
theorem Rep.nl (p: ∀a vs,¬A a->Rd H a (.tup vs)-> ¬A' a/\Rd H' a (.tup vs)): ∀{d:D} {v:V},d.nl=true->Rep K A H d v->Rep K A' H' d v
 | .non,_,_,h=>h
 | .bl _,_,_,h=>h
 | .int _,_,_,h=>h
 | .str _,_,_,h=>h
 | .ty _,_,_,h=>h
 | .tup l,v,q,h=>by
  simp only[Rep]at h⊢;obtain⟨a,vs,e,c,r⟩:=h;simp only[D.nl]at q;refine⟨a,vs,e,?_,aN.nl p q r⟩;rcases c with⟨n,c⟩|c
  ·exact .inl (p a vs n c)
  ·exact .inr c
 | .lst _,_,q,_=>by simp only[D.nl]at q;cases q
 | .rol _,_,q,_=>by simp only[D.nl]at q;cases q
 | .obj _ _ _,_,q,_=>by simp only[D.nl]at q;cases q
 | .adr _,_,q,_=>by simp only[D.nl]at q;cases q
 | .xob _ _ _ _,_,q,_=>by simp only[D.nl]at q;cases q
theorem aN.nl (p: ∀a vs,¬A a->Rd H a (.tup vs)-> ¬A' a/\Rd H' a (.tup vs)): ∀{l:List D} {vs:List V},D.nls l=true->aN K A H l vs->aN K A' H' l vs
 | [],_,_,h=>by simp only[aN]at h ⊢; exact h
 | d::ds,vs,q,h=>by
  simp only[aN]at h⊢;simp only[D.nls,and_eq_true]at q;obtain⟨v,vr,e,r,rs⟩:=h;exact⟨v,vr,e,Rep.nl p q.1 r,aN.nl p q.2 rs⟩
end
end
section
variable {X:Cx}{st:Stmt}{sts:List Stmt}{e o:Expr}{pos:Pos}{t u:US}{te to:UE}{K:PySem.W.Frag}{C:C0}{ρ ρ':Ev}{σ:L2.St}{H H':Hp}
def uLook (t:UT):UT:=λρ Q=>t ρ λb _=>Q b ρ
def uLookE (t:UE):UE:=λρ Q=>t ρ λb _=>match b with
 | .pu d=>d.nl=true/\Q (.pu d) ρ
 | _=>False
def keepO:Option B->Option B
 | some (.pu d)=>if d.nl=true then some (.pu d)else none
 | some (.ow l)=>if D.nls l=true then some (.ow l)else none
 | _=>none
def uAppZ (to te:UE):US:=λD ρ=>to ρ λb ρ1=>match b with
 | .pu (.lst l)=>te ρ1 λ_ ρ2=>l.length<sizeLine/\D.nx (ρ2.map keepO)
 | _=>False
end
def ltL:List Int->List Int->Bool
 | [],[]=>false
 | [],_::_=>true
 | _::_,[]=>false
 | a::x,b::y=>if a=b then ltL x y else decide (a<b)
section
variable {X:Cx}
def gSort2:List D->(B->Prop)->Prop:=g1 λd Q=> ∃(i j:Int) (us ws:List Int),d= .lst [.tup ((i::us).map D.int),.tup ((j::ws).map D.int)]/\
 Q (.ow (if ltL (j::ws) (i::us)=true then [.tup ((j::ws).map D.int),.tup ((i::us).map D.int)]else [.tup ((i::us).map D.int),.tup ((j::ws).map D.int)]))
end
section
variable {prog:Program}{w:World}{A:Around}{E:Value->Shared->Prop}{s:Shared}
def yO (prog:Program)(w:World)(A:Around)(E:Value->Shared->Prop)(fin:Bool)(Q:Value->Shared->Prop):List (Value×Value)->Shared->Prop
 | [],s=>Q (.bool fin) s
 | (p,q)::r,s=>wpAny (model prog w) A (eqBool p q) (λe s'=>if e=true then yO prog w A E fin Q r s' else wpAny (model prog w) A (richCompare .LtE p q) Q E s') E s
theorem yO.mono {fin:Bool}{Q Q':Value->Shared->Prop}(k: ∀v s,Q v s->Q' v s): ∀(l:List (Value×Value)) (s:Shared),yO prog w A E fin Q l s->yO prog w A E fin Q' l s
 | [],s,h=>k _ s h
 | (p,q)::r,s,h=>by
  have h':wpAny (model prog w) A (eqBool p q) (λe s'=>if e=true then yO prog w A E fin Q r s' else wpAny (model prog w) A (richCompare .LtE p q) Q E s') E s:=h
  refine wpAny_mono h' (λe s' he=> ?_) λ_ _ z=>z
  cases e
  ·rw[if_neg (by decide)]at he⊢
   exact wpAny_mono he k λ_ _ z=>z
  ·rw[if_pos rfl]at he⊢;exact yO.mono k r s' he
end
end M
end
section
namespace L2
open PySem PySem.Spec PyProof.Rows
end L2
namespace M
open PySem PySem.Spec PyProof.Rows L2
end M
end
section
namespace L2
open PySem PySem.Spec PyProof.Rows
end L2
namespace M
open PySem PySem.Spec PyProof.Rows L2
end M
end
section
namespace L2
open PySem PySem.Spec PyProof.Rows
section
variable {X:Cx}{e e3:Expr}{te:TE}{t3:TO}{pos p2:Pos}
theorem xM (its:List Value):slicePick its.toArray none none (some (-1))=its.reverse.toArray:=by
 unfold slicePick
 congr 1
 have hb:sliceBounds none none (some (-1)) its.toArray.size=((its.length:Int)-1,-1,-1):=by
  simp[sliceBounds]
 rw[hb];have hr:sliceRange ((its.length:Int)-1) (-1) (-1)=(range its.length).map λk=>its.length-1-k:=by
  unfold sliceRange;simp only[show ¬((-1:Int)>0)by decide,if_false]
  by_cases c:(its.length:Int)-1> -1
  ·rw[if_pos c,show -(-1:Int)=1 by decide,Int.ediv_one,show((its.length:Int)-1- -1- -1-1).toNat=its.length by omega]
   apply List.map_congr_left
   intro k hk;have:=List.mem_range.mp hk;omega
  ·rw[if_neg c,show its.length=0 by omega]
   rfl
 dsimp only;rw[hr,List.filterMap_map];apply ext_getElem?;intro i
 by_cases c:i<its.length
 ·rw[List.getElem?_reverse c];have e:(range its.length).filterMap ((λx=>its.toArray[x]?)∘λk=>its.length-1-k)=(range its.length).map λk=>its.getD (its.length-1-k) .none:=by
   rw[<-List.filterMap_eq_map];have fc: ∀(l:List Nat) (f g:Nat->Option Value),(∀m∈l,f m=g m)->l.filterMap f=l.filterMap g:=by
    intro l f g h
    induction l with
    | nil=>rfl
    | cons a l ih=>rw[filterMap_cons,filterMap_cons,h a (mem_cons_self ..),ih λm hm=>h m (mem_cons_of_mem _ hm)]
   apply fc
   intro k hk;have:=List.mem_range.mp hk;simp only[Function.comp,List.getElem?_toArray,getD_eq_getElem?_getD];rw[getElem?_eq_getElem (by omega)]
   rfl
  rw[e,getElem?_map,List.getElem?_range c,getElem?_eq_getElem (show its.length-1-i<its.length by omega)]
  simp only[map_some,getD_eq_getElem?_getD];rw[getElem?_eq_getElem (show its.length-1-i<its.length by omega)]
  rfl
 ·have h1:((range its.length).filterMap ((λx=>its.toArray[x]?)∘λk=>its.length-1-k)).length<=its.length:=by
   have:=List.length_filterMap_le ((λx=>its.toArray[x]?)∘λk=>its.length-1-k) (range its.length)
   simpa using this
  rw[getElem?_eq_none (by omega),getElem?_eq_none (by rw[length_reverse];omega)]
def tRevL (K:PySem.W.Frag)(te:TE)(t3:TO):TE:=λσ H Q=>te σ H λx H1=>t3 σ H1 λl H3=>l=some (-1)/\ ∃a xs,x= .ref a/\SqL K H3 a xs/\ ∀p,H3 p=none->Q (.ref p) (upd H3 p (.lst xs.reverse))
theorem b30 (he:PE X e te)(h3:PO X (some e3) t3):PE X (.Subscript e (.Slice none none (some e3) p2) pos) (tRevL X.K te t3):=by
 intro pins s σ H Q I h;refine Subscript_ (thn (he pins s σ H _ I h) λv s1 ⟨x,H1,I1,r1,q1⟩=> ?_)
 refine wpAny_Slice ?_
 rw[evalPart_none];refine wpAny_pure ?_;refine wpAny_pure ?_;refine thn (h3 pins s1 σ H1 _ I1 q1) λv3 s3 ⟨l,H3,I3,p3,q3⟩=> ?_
 obtain⟨rfl,a,xs,rfl,hx,q⟩:=q3;cases r1;have I4:Inv X pins σ H3 {s3 with heap:=s3.heap.push {cls:= .type "slice",data:= .fields #[.none,.none,v3]}}:=I3.kept (t':=s3.toks) λb ob q=>get?_push_of_some _ q
 obtain⟨its,r,ht,hz⟩:=I4.list hx;have dR:its.toArray.size=xs.length:=by rw[size_toArray];exact r.length.symm
 have hg:wpAny (model X.prog X.w) X.A (getItem (.ref a) (.ref s3.heap.objs.size)) (EP X pins σ Q) X.xe {s3 with heap:=s3.heap.push {cls:= .type "slice",data:= .fields #[.none,.none,v3]}}:=by
  refine wpAny_getItem_list_slice ht.isList (Heap.IsSliceOf.new ..) .none .none p3 (by decide) ?_ (by rw[dR];exact hz)
  rw[xM];refine⟨.ref _,_,I4.laid (t':=s3.toks) (o:= .lst xs.reverse) (λb ob q=>get?_push_of_some _ q) (le_refl _) ?_,rfl,q _ (I4.hok.fresh (le_refl _))⟩
  exact⟨by rw[length_reverse];exact hz,_,0,r.reverse,get?_push_size _ rfl⟩
 exact tail_any (ops:=[.ref a,.ref s3.heap.objs.size]) ht.isList.typeIs slot_list_getitem.lookup hg (by with_unfolding_all rfl)
end
end L2
namespace M
open PySem PySem.Spec PyProof.Rows L2
section
variable {X:Cx}{K:PySem.W.Frag}{A:AS}{H:Hp}{e e3:Expr}{t3:UE}{pos p2:Pos}
def aS6 (t:UV)(t3:UE):UE:=λρ Q=>t ρ λd ρ1=>t3 ρ1 λb ρ2=>b.d= .int (-1)/\match d with
 | .lst l=>Q (.ow l.reverse) ρ2
 | _=>False
theorem b31 {t:UV}(he:PUV X e t)(h3:PU X e3 t3):PU X (.Subscript e (.Slice none none (some e3) p2) pos) (aS6 t t3):=
 bP (b30 he (aG4 h3)) λσ H Q ⟨C,ρ,Q0,I,h,k⟩=>⟨C,ρ,_,I,h,λd ρ1 v H1 q f s r=>by
  have I1:=(I.frz f).same s;refine⟨C,ρ1,_,I1,q,λb ρ2 v3 H2 q2 f2 s2 r2=> ?_⟩
  obtain⟨eb,q2⟩:=q2;have ri:=r2.rep λa z=>I1.avF f2 z
  rw[eb]at ri;have:=bA ri;subst this;refine⟨-1,rfl,rfl,?_⟩;have r':=r.mono (A':=Av C ρ2 σ) s2 λa z=>f2.av z
  cases d with
  | lst l=>
   obtain⟨a,vs,rfl,c,rs⟩:=r';exact⟨a,vs,rfl,SqL.of c,λp n=>k _ ρ2 _ _ q2 (f.trans f2) ((s.trans s2).trans (bI n _)) (cF (s.trans s2) n rs.reverse)⟩
  | _=>exact q2.elim⟩
end
end M
end
section
namespace M
open PySem PySem.Spec PyProof.Rows L2
section
variable {X:Cx}{e:Expr}{es:List Expr}{pos:Pos}{te:UE}
theorem ilB {i:Nat}(h:Nat.ble (i+1) X.N.length=true): ∀pins σ H s,Inv X pins σ H s->i<σ.length:=il rfl (Nat.le_of_ble_eq_true h)
theorem aI (i:Nat){x:Str}{pos:Pos}(h:PE X (.Name x pos) (vU i):=by exact pv _):PU X (.Name x pos) (aA i):=eY i h
theorem cB (i:Nat){x:Str}{pos:Pos}(h:PE X (.Name x pos) (vU i):=by exact pv _):PUV X (.Name x pos) (aQ i):=oP i h
theorem bR {x:Str}{pos':Pos}(i:Nat)(hN:X.N.Nodup)(he:PU X e te)(hi:X.N[i]? =some x:=by rfl)(hx:Loc X.env.scope x:=by first|exact Or.inl rfl|exact Or.inr rfl)(hs:swapsWith e (some (.Name x pos')) pos.line X.env=pure false:=by rfl)(hf:X.fn x=true\/X.env.scope.names.lookup x=some .local:=by first|exact .inl rfl|exact .inr rfl|assumption)
  (hl: ∀pins σ H s,Inv X pins σ H s->i<σ.length:=by exact ilB rfl):PUS X (.Assign [.Name x pos'] e pos) (aX i te):=w6 i hN hi hx he hs hf hl
theorem eZ {a b:Expr}{ti:UE}{t:UV}(ha:PUV X a t)(hb:PU X b ti)(hs:vD b:=by exact λ_ _=>rfl):PU X (.Subscript a b pos) (uIx t ti):=a61 ha hb hs
theorem cY {k k':Nat}{ps:List Str}{φ:Φ}{x:Str}{p:Pos}{t:UA}(F:Fn X.prog X.w X.K X.mg X.base x ps k φ)(hr:cV k' X.A)(ha:PUA X (e::es) t)(hk:k<=k':=by decide)(hg:Gl X x:=by rfl)(hdb:(x==("__debug__":Str))=false:=by decide)
  (he:starEach (e::es) X.env=(false,eval e X.env)::starEach es X.env:=by rfl) (hpl:(backTo pos (starEach es X.env)).any (·.1)=false:=by rfl):PU X (.Call (.Name x p) (e::es) [] pos) (aK φ t):=aR8 F hr hk hg ha hdb he hpl
end
section
variable {X:Cx}{es:List Expr}{t:UA}
theorem bK {i:Int}{j}{p:Pos}(h:PUA X es t):PUA X (.Constant (.int i) j p::es) (a6 (uC (.int i)) t):=a7 aB h rfl
theorem aR (i:Nat){x:Str}{p:Pos}(h:PUA X es t)(a:PE X (.Name x p) (vU i):=by exact pv _):PUA X (.Name x p::es) (a6 (aA i) t):=a7 (eY i a) h rfl
structure WA (X:Cx)(es:List Expr)(t:UA):Prop where
 out:PUA X es t
theorem aS7:WA X [] aE:=⟨a8⟩
structure WS (X:Cx)(sts:List Stmt)(t:US):Prop where
 out:mS X sts t
theorem b88 {sts:List Stmt}{u:US}(h:mS X sts u):WS X sts u:=⟨h⟩
theorem ws_lw {x:Str}{pos pos' p:Pos}{i:Nat}{sts:List Stmt}{u:US}(h:WA X es t)(r:WS X sts u)(hN:X.N.Nodup)(hi:X.N[i]? =some x:=by rfl)(hx:Loc X.env.scope x:=by first|exact Or.inl rfl|exact Or.inr rfl)(hf:X.fn x=true\/X.env.scope.names.lookup x=some .local:=by first|exact .inl rfl|exact .inr rfl|assumption)
  (hl: ∀pins σ H s,Inv X pins σ H s->i<σ.length:=by exact ilB rfl):WS X (.Assign [.Name x pos'] (.List es p) pos::sts) (aL (aX i (iP t)) u):=⟨aD (w6 i hN hi hx (fH h.out) rfl hf hl) r.out⟩
end
section
variable {X:Cx}{a b e o:Expr}{es:List Expr}{pos:Pos}{ta tb te ti to:UE}{K:PySem.W.Frag}{C:C0}{ρ ρ':Ev}{σ σ':L2.St}{H H':Hp}{A:AS}
theorem aC9 {x:Str}:fX K A H H' (.pu (.str x)) (.str x):=by
 show Rep K A H' (.str x) (.str x)
 simp only[Rep]
def eB (d e:D)(Q:B->Prop):Prop:=match d,e with
 | .str i,.str j=>i.length+j.length<=sizeLine/\Q (.pu (.str (i++j)))
 | _,_=>False
theorem bV:OpU X (binaryOp .Add) eB:=by
 intro A H d e v w Q0 Q hA r1 r2 g k;unfold eB at g;split at g
 ·exact⟨_,aB4,_,_,aW r1,aW r2,g.1,k _ _ H g.2 (.refl _) aC9⟩
 ·exact g.elim
def b32 (d e:D)(Q:B->Prop):Prop:=match d,e with
 | .str i,.str j=>Q (.pu (.bl (!(Builtin.Str.occurrences j i 0 j.length 1).isEmpty)))
 | _,_=>False
theorem ou_inS:OpU X (compareOp .In) b32:=by
 intro A H d e v w Q0 Q hA r1 r2 g k;unfold b32 at g;split at g
 ·exact⟨_,aK6,_,_,aW r1,aW r2,k _ _ H g (.refl _) dG⟩
 ·exact g.elim
def aD0 (d e:D)(Q:B->Prop):Prop:=match d,e with
 | .str z,.int i=>z.length<=sizeLine/\ ∃c,atI z.cps.toList i=some c/\Q (.pu (.str ⟨#[c]⟩))
 | _,_=>False
theorem a00 (ha:PU X a ta)(hb:PU X b ti)(hs:vD b):PU X (.Subscript a b pos) (uOp aD0 ta ti):=
 bP (b81 aQ2 ha hb hs) λσ H Q ⟨C,ρ,Q0,I,h,k⟩=>⟨C,ρ,_,I,h,λd ρ1 v H1 q f s r=>by
  have I1:=(I.frz f).same s;refine⟨C,ρ1,_,I1,q,λi ρ2 w H2 q2 f2 s2 r2=> ?_⟩
  have r1:=(r.rep λa z=>I.avF f z)
  have ri:=r2.rep λa z=>I1.avF f2 z
  generalize d.d=x at q2 r1;generalize i.d=y at q2 ri;unfold aD0 at q2;split at q2
  ·obtain⟨hz,c,e,q2⟩:=q2;exact⟨_,_,c,aW r1,bA ri,hz,e,k _ _ _ _ q2 (f.trans f2) (s.trans s2) aC9⟩
  ·exact q2.elim⟩
def b33:List D->(B->Prop)->Prop:=g1 (aL2 λi Q=>i.natAbs.log2<1920/\Q (.pu (.str (Str.ofString (toString i)))))
theorem aS8:jP X (.type "str") b33:=by
 intro A H ds vs Q0 Q hA r g k;obtain⟨d,v,rfl,rfl,rv,g⟩:=rK g r;obtain⟨i,rfl,g⟩:=a64 g;exact⟨_,zL,i,by rw[bA rv],g.1,k _ _ H g.2 (.refl _) aC9⟩
def aS9 (f:Str->(B->Prop)->Prop)(d:D)(Q:B->Prop):Prop:=match d with
 | .str x=>f x Q
 | _=>False
theorem a67 {f:Str->(B->Prop)->Prop}{d:D}{Q:B->Prop}(h:aS9 f d Q): ∃i,d= .str i/\f i Q:=by
 unfold aS9 at h;split at h
 ·exact⟨_,rfl,h⟩
 ·exact h.elim
def yP:List D->(B->Prop)->Prop:=g1 (aS9 λx Q=>x.length<=sizeLine/\Q (.pu (.int x.length)))
theorem vG:jP X (.builtin "len") yP:=by
 intro A H ds vs Q0 Q hA r g k;obtain⟨d,v,rfl,rfl,rv,g⟩:=rK g r;obtain⟨i,rfl,g⟩:=a67 g;exact⟨_,zR,i,by rw[aW rv],g.1,k _ _ H g.2 (.refl _) uQ⟩
theorem xN:fR X (.type "int") (λxs H Q=> ∃x n,xs=[.str x]/\intText? x=some n/\x.length<=640/\Q (.int n) H):=by
 intro pins s σ H xs us Q I r h;obtain⟨x,n,rfl,hn,hl,q⟩:=h;obtain⟨u,rfl,t,rfl⟩:=vals1 r;exact PySem.W.KIN.call_text hn hl ⟨.int n,H,I.tok _,⟨_,rfl⟩,q⟩
def a68:List D->(B->Prop)->Prop:=g1 (aS9 λx Q=> ∃n,intText? x=some n/\x.length<=640/\Q (.pu (.int n)))
theorem a01:jP X (.type "int") a68:=by
 intro A H ds vs Q0 Q hA r g k;obtain⟨d,v,rfl,rfl,rv,g⟩:=rK g r;obtain⟨i,rfl,n,e,hl,g⟩:=a67 g;exact⟨_,xN,i,n,by rw[aW rv],e,hl,k _ _ H g (.refl _) uQ⟩
theorem aH4 {x y:Str}{t:Tok}{p:Pos}(hg:Gl X x)(hm:X.mg x=some (.str y t))(hd:(x==("__debug__":Str))=false:=by decide):PU X (.Name x p) (uC (.str y)):=
 vE (zJ hg hm (v:= .str y) ⟨t,rfl⟩ hd) λA H=>by simp only[Rep]
theorem sl_str:SlR X (λx lo hi H Q=> ∃z,x= .str z/\z.length<=sizeLine/\Q (.str (Txt.slice z lo hi)) H):=by
 intro pins s σ H x v vl vu lo hi sl Q I rx hs pl pu h;obtain⟨z,rfl,hz,q⟩:=h;obtain⟨t,rfl⟩:=rx;refine⟨"str",_,slot_str_getitem.lookup,typeIs_str _ _ _,?_⟩;have fin: ∀l u:Option (Int×Tok),l.map (·.1)=lo->u.map (·.1)=hi->s.heap.IsSlice sl l u none->wpAny (model X.prog X.w) X.A (getItem (.str z t) (.ref sl)) (EP X pins σ Q) X.xe s:=λl u el eu hl=>by
  subst el eu;refine wpAny_getItem_str_slice hl rfl (post_val_or_str ⟨le_trans (Txt.slice_le z _ _) hz,λt' k=>⟨.str _,H,I.tok _,⟨_,rfl⟩,q⟩⟩)
 cases pl with
 | none=>
  cases pu with
  | none=>exact fin none none rfl rfl hs
  | int j tj=>exact fin none (some (j,tj)) rfl rfl hs
 | int i t1=>
  cases pu with
  | none=>exact fin (some (i,t1)) none rfl rfl hs
  | int j tj=>exact fin (some (i,t1)) (some (j,tj)) rfl rfl hs
def gSlS (lo hi:Option Int)(d:D)(Q:B->Prop):Prop:=match d with
 | .str z=>z.length<=sizeLine/\Q (.pu (.str (Txt.slice z lo hi)))
 | _=>False
def sA (t:UE)(tl th:UO):UE:=λρ Q=>t ρ λd ρ1=>tl ρ1 λlo ρ2=>th ρ2 λhi ρ3=>gSlS lo hi d.d λb=>Q b ρ3
theorem cO {tl th:UO}{lo hi:Option Expr}{p2:Pos}(he:PU X e te)(hl:PUO X lo tl)(hu:PUO X hi th):PU X (.Subscript e (.Slice lo hi none p2) pos) (sA te tl th):=
 bP (vX sl_str he hl hu) λσ H Q ⟨C,ρ,Q0,I,h,k⟩=>⟨C,ρ,_,I,h,λd ρ1 v H1 q f s r=>by
  have I1:=(I.frz f).same s;refine⟨C,ρ1,_,I1,q,λl2 ρ2 H2 q2 f2 s2=> ?_⟩
  have I2:=(I1.frz f2).same s2;refine⟨C,ρ2,_,I2,q2,λh3 ρ3 H3 q3 f3 s3=> ?_⟩
  have r1:=(r.rep λa z=>I.avF f z)
  generalize d.d=x at q3 r1;unfold gSlS at q3;split at q3
  ·exact⟨_,aW r1,q3.1,k _ ρ3 _ _ q3.2 (f.trans (f2.trans f3)) (s.trans (s2.trans s3)) aC9⟩
  ·exact q3.elim⟩
def MtU (X:Cx)(id:String)(g:D->List D->(B->Prop)->Prop):Prop:=
 ∀(A:AS) (H:Hp) (d:D) (ds:List D) (v:V) (vs:List V) (Q0:B->Prop) (Q:VK),(∀a,A a->H a≠none)->Rep X.K A H d v->aN X.K A H ds vs->g d ds Q0->
  (∀b v' H',Q0 b->bU H H'->fX X.K A H H' b v'->Q v' H')-> ∃r,MtR X id r/\r v vs H Q
theorem mtAny {id:String}:MtR X id (λx xs H Q=> ∃r,MtR X id r/\r x xs H Q):=λpins s σ H x xs v us Q I rx rs ⟨r,hr,q⟩=>hr pins s σ H x xs v us Q I rx rs q
def wF (d:D):Prop:=match d with
 | .str _=>True
 | _=>False
def lZ (g:D->List D->(B->Prop)->Prop)(to:UE)(t:UA):UE:=λρ Q=>to ρ λx ρ1=>wF x.d/\t ρ1 λds ρ2=>g x.d ds λb=>Q b ρ2
theorem eH {id:String}{g:D->List D->(B->Prop)->Prop}{t:UA}{name:Str}{apos cpos:Pos}(slot:Slot "str" name id)(hty:typeOf (.builtin id)=pure (.type "method_descriptor"))(hm:MtU X id g)(ho:PU X o to)(ha:PUA X (e::es) t)
  (hbase:attributeBase o name X.env (eval o X.env)=eval o X.env:=by rfl)
  (hfew:((backTo cpos (starEach (e::es) X.env)).all (λx=> !x.1)&&(backToKw cpos (keywordEach [] X.env)).all (λx=>x.1.isSome)
   &&decide ((e::es).length+([]:List Keyword).length+(if([]:List Keyword).isEmpty then 0 else 1)<30))=true:=by rfl)
  (hline:(apos.endLine==cpos.line)=true:=by rfl) (hs:starEach (e::es) X.env=(false,eval e X.env)::starEach es X.env:=by rfl) (hplain:(backTo cpos (starEach es X.env)).any (·.1)=false:=by rfl) :
  PU X (.Call (.Attribute o name apos) (e::es) [] cpos) (lZ g to t):=
 bP (b82 PySem.F.plainAttrs_str slot hty mtAny ho ha hbase hfew hline hs hplain) λσ H Q ⟨C,ρ,Q0,I,h,k⟩=>⟨C,ρ,_,I,h,λx ρ1 v H1 q f s r=>by
  have I1:=(I.frz f).same s;have r1:=(r.rep λa z=>I.avF f z)
  obtain⟨hx,q⟩:=q;refine⟨?_,C,ρ1,_,I1,q,λds ρ2 vs H2 q2 f2 s2 r2=> ?_⟩
  ·generalize x.d=d at hx r1;unfold wF at hx;split at hx
   ·rw[aW r1];rfl
   ·exact hx.elim
  ·have I2:=(I1.frz f2).same s2;exact hm (Av C ρ2 σ) H2 x.d ds v vs _ Q (λa z=>I2.avSome z) (r1.mono (.sub s2 λa=>f2.av)) r2 q2 λb v' H' q' s' r'=>k b ρ2 v' H' q' (f.trans f2) (s.trans (s2.trans s')) (r'.from (s.trans s2))⟩
def vH (d:D)(ds:List D)(Q:B->Prop):Prop:=match d,ds with
 | .str x,[.str y]=>Q (.pu (.bl (Txt.startswith x y)))
 | _,_=>False
theorem a69 {d:D}{vs:List V}(r:aN K A H [d] vs): ∃v,vs=[v]/\Rep K A H d v:=by
 obtain⟨v,vr,rfl,rv,rr⟩:=r.uncons;rw[rr.unnil];exact⟨v,rfl,rv⟩
theorem aL7:MtU X "str.startswith" vH:=by
 intro A H d ds v vs Q0 Q hA r1 r2 g k;unfold vH at g;split at g
 ·rename_i x y
  obtain⟨w,rfl,rw'⟩:=a69 r2;refine⟨λv vs H Q=> ∃x y,v= .str x/\vs=[.str y]/\Q (.bl (Txt.startswith x y)) H,?_,x,y,aW r1,by rw[aW rw'],k _ _ H g (.refl _) dG⟩
  rintro pins s σ H v vs u us Q I rx rs ⟨x,y,rfl,rfl,q⟩;obtain⟨t,rfl⟩:=rx;obtain⟨u2,rfl,t2,rfl⟩:=vals1 rs;exact SC.startswith ⟨.bl _,H,I,rfl,q⟩
 ·exact g.elim
theorem yQ: ∀{ts:List Str} {us:List Value},aZ (ts.map V.str) us-> ∃l:List (Str×Tok),strValues l=us/\l.map (·.1)=ts
 | [],us,r=>by
  rw[map_nil]at r;cases r;exact⟨[],rfl,rfl⟩
 | x::ts,us,r=>by
  rw[map_cons]at r;cases r with
  | cons r1 r2=>
   obtain⟨t,rfl⟩:=r1;obtain⟨l,h1,h2⟩:=yQ r2;exact⟨(x,t)::l,by rw[<-h1];rfl,by rw[map_cons,h2]⟩
theorem sB: ∀l:List (Str×Tok),aZ ((l.map (·.1)).map V.str) (strValues l)
 | []=> .nil
 | (x,t)::l=> .cons ⟨t,rfl⟩ (sB l)
theorem yR: ∀{ts:List Str} {vs:List V},aN K A H (ts.map D.str) vs->vs=ts.map V.str
 | [],vs,r=>r.unnil
 | x::ts,vs,r=>by
  obtain⟨v,vr,rfl,rv,rr⟩:=r.uncons;rw[aW rv,yR rr];rfl
theorem sC: ∀ts:List Str,aN K A H (ts.map D.str) (ts.map V.str)
 | []=> .nil
 | x::ts=> .cons (by simp only[Rep]) (sC ts)
def wG (d:D)(ds:List D)(Q:B->Prop):Prop:=match d,ds with
 | .str x,[.lst l]=> ∃ts:List Str,l=ts.map D.str/\JoinOk x ts=true/\Q (.pu (.str (Txt.join x ts)))
 | _,_=>False
theorem vI:MtU X "str.join" wG:=by
 intro A H d ds v vs Q0 Q hA r1 r2 g k;unfold wG at g;split at g
 ·rename_i x l
  obtain⟨ts,rfl,ok,g⟩:=g;obtain⟨w,rfl,rw'⟩:=a69 r2;simp only[Rep]at rw';obtain⟨p,ws,rfl,n,hp,rs⟩:=rw';have e:=yR rs;subst e;refine⟨λv vs H Q=> ∃x p ts,v= .str x/\vs=[.ref p]/\H p=some (.lst (ts.map V.str))/\JoinOk x ts=true/\Q (.str (Txt.join x ts)) H,?_,x,p,ts,aW r1,rfl,hp,ok,k _ _ H g (.refl _) aC9⟩
  rintro pins s σ H v vs u us Q I rx rs ⟨x,p,ts,rfl,rfl,hp,ok,q⟩;obtain⟨t,rfl⟩:=rx;obtain⟨u2,rfl,r2⟩:=vals1 rs;cases r2;obtain⟨its,rv,pl,_⟩:=I.list (.inl (.inl hp));obtain⟨l,rfl,e⟩:=yQ rv;exact SC.join pl.isList e ok λt' k=>⟨.str _,H,I.tok _,⟨_,rfl⟩,q⟩
 ·exact g.elim
theorem aD1 {prog:Program}{w:World}{A:Around}{E:Value->Shared->Prop}{s:Shared}{x y:Str}{t u:Tok}{Q:Value->Shared->Prop}(hy:(y.length==0)=false)
  (h: ∀(l:List (Str×Tok)) (k:Nat),l.map (·.1)=Txt.split x y->Q (.ref s.heap.objs.size) {s with heap:=s.heap.push {cls:= .type "list",data:= .seq (strValues l).toArray},toks:=k})
  (hsz:x.length+2<=sizeLine):wpAny (model prog w) A (call (.builtin "str.split") [.str x t,.str y u]) Q E s:=by
 open Builtin.Str in
 have hn:(partsBetween x (occurrences x y 0 x.length (x.length+1)) y.length).length<=sizeLine:=by
  have e1:=StrLaws.occ_length_le x y 0 x.length (x.length+1);rw[length_partsBetween];omega
 open Builtin.Str in
 cases h1:(decide (x.length<y.length)||decide (strKind x<strKind y))
 ·cases hf:(occurrences x y 0 x.length (x.length+1)).isEmpty
  ·refine call_meets F.slot_str_split (typeIs_str _ _ _) F.entry_str_split (F.args_str_split_2 _ _) (meets_str_split_sep x y t u h1 hy hf (by omega) hn) ?_
   show wants Q E _ {s with toks:=_,heap:=s.heap.push {cls:= .type "list",data:= .seq (strsFrom s.toks (partsBetween x (occurrences x y 0 x.length (x.length+1)) y.length)).toArray}}
   rw[strsFrom_eq];exact h (numbered s.toks _) _ ((numbered_texts _ _).trans ((if_neg (ne_true_of_eq_false h1)).trans (if_neg (ne_true_of_eq_false hf))).symm)
  ·exact call_meets F.slot_str_split (typeIs_str _ _ _) F.entry_str_split (F.args_str_split_2 _ _) (meets_str_split_not_found x y t u h1 hy hf)
    (h [(x,t)] s.toks ((if_neg (ne_true_of_eq_false h1)).trans (if_pos hf)).symm)
 ·exact call_meets F.slot_str_split (typeIs_str _ _ _) F.entry_str_split (F.args_str_split_2 _ _) (meets_str_split_cannot_occur x y t u h1)
   (h [(x,t)] s.toks (if_pos h1).symm)
theorem aL8 (x y:Str)(h:x.length+2<=sizeLine):(Txt.split x y).length<=sizeLine:=by
 unfold Txt.split;split
 ·exact le_trans (show 1<=1 from le_refl _) (by decide)
 ·split
  ·exact le_trans (show 1<=1 from le_refl _) (by decide)
  ·have e1:=StrLaws.occ_length_le x y 0 x.length (x.length+1);rw[length_partsBetween];omega
def iQ (d:D)(ds:List D)(Q:B->Prop):Prop:=match d,ds with
 | .str x,[.str y]=>(y.length==0)=false/\x.length+2<=sizeLine/\Q (.ow ((Txt.split x y).map .str))
 | _,_=>False
theorem gA:MtU X "str.split" iQ:=by
 intro A H d ds v vs Q0 Q hA r1 r2 g k;unfold iQ at g;split at g
 ·rename_i x y
  obtain⟨hy,hz,g⟩:=g;obtain⟨w,rfl,rw'⟩:=a69 r2;refine⟨λv vs H Q=> ∃x y,v= .str x/\vs=[.str y]/\(y.length==0)=false/\x.length+2<=sizeLine/\ ∀l,H l=none->Q (.ref l) (upd H l (.lst ((Txt.split x y).map V.str))),?_,x,y,aW r1,by rw[aW rw'],hy,hz,λl n=>k _ _ _ g (bI n _) (cF (.refl _) n (sC _))⟩
  rintro pins s σ H v vs u us Q I rx rs ⟨x,y,rfl,rfl,hy,hz,q⟩;obtain⟨t,rfl⟩:=rx;obtain⟨u2,rfl,t2,rfl⟩:=vals1 rs;refine aD1 hy (λl k e=> ?_) hz
  have rv:=sB l;rw[e]at rv;exact⟨.ref s.heap.objs.size,_,I.laid (t':=k) (λb ob q=>get?_push_of_some _ q) (le_refl _) (show kK X.prog X.w _ _ _ (.lst ((Txt.split x y).map V.str))from⟨by rw[length_map];exact aL8 x y hz,strValues l,0,rv,get?_push_size _ rfl⟩),rfl,q _ (I.hok.fresh (le_refl _))⟩
 ·exact g.elim
def uFmt (c:Str)(ta tb:UE):UE:=λρ Q=>ta ρ λx ρ1=>match x.d with
 | .str i=>i.length+c.length<=sizeLine/\tb ρ1 λy ρ2=>match y.d with
  | .int n=>n.natAbs.log2<1920/\i.length+c.length+(Str.ofString (toString n)).length<=sizeLine/\Q (.pu (.str (Str.empty++i++c++Str.ofString (toString n)))) ρ2
  | _=>False
 | _=>False
def Its (x:Str):It where
 go:=λi H=>i<x.cps.size
 yld:=λi H v H'=>H'=H/\ ∃c,x.cps[i]? =some c/\v= .str ⟨#[c]⟩
 stop:=λi H=>i=x.cps.size
theorem aT0 {P:Program}{w:World}{K:PySem.W.Frag}{tg:Expr}{it:Addr}(x:Str)(t:Tok):aP2 P w K tg (Its x) [it] it (λi h=>h.IsStrIter it "str_ascii_iterator" x t i) where
 mem:=by simp
 obj:=λi h st b hb=>by
  have e:b=it:=by simpa using hb
  subst e;obtain⟨o,ho,_,hd⟩:=st;exact⟨o,ho,λv z=>by rw[hd]at z;cases z⟩
 keep:=λi h h' st k=>let ⟨o,ho,r⟩:=st;⟨o,k it (by simp) o ho,r⟩
 item:=by
  intro X hP hw hK hc i pins s σ H E I hf st hg;subst hP hw hK;obtain⟨f0,f1,f2,f3,f4,f5⟩:=hf it (by simp)
  have hi:i<x.cps.size:=hg;have hx:x.cps[i]? =some x.cps[i]:=by simp[hi]
  refine wpAny_pyNext_ascii_item st hx λh' hr m=> ?_
  have I1:Inv X pins σ H {s with heap:=h',toks:=s.toks+1}:=I.turned (λb o hb e=>m.extBut _ _ (by simpa using hb) e) f0 f1 f3 f4 f5
  obtain⟨o,ho,hoc,hod⟩:=id hr;exact⟨_,rfl,aG0 (s:={s with heap:=h',toks:=s.toks+1}) (n:="str_ascii_iterator") ho hoc hod (by decide) ⟨.str ⟨#[x.cps[i]]⟩,H,I1,⟨_,rfl⟩,⟨rfl,_,hx,rfl⟩,hr,λb hb=>(hf b hb).1⟩⟩
 done:=by
  intro X hP hw hK hc i pins s σ H E I hf st hg;subst hP hw hK;obtain⟨f0,f1,f2,f3,f4,f5⟩:=hf it (by simp)
  have hg':i=x.cps.size:=hg;subst hg';exact wpAny_pyNext_ascii_end (I.ok.hd hc) st (by simp) λh' eb=>⟨rfl,I.turned (t':=s.toks) (λb o hb e=>eb b o hb e) f0 f1 f3 f4 f5⟩
 self:=λ_ _ _ _ _ st h=>wpAny_pyIter_striter_ascii st h
theorem pi_str {l:Expr}{tl:TE}{tg:Expr}(hl:PE X l tl):PI X tg l (λσ H R=>tl σ H λx H1=> ∃z,x= .str z/\z.cps.all (· <128)=true/\R (Its z) H1):=by
 intro pins s σ H R I h;refine thn (hl pins s σ H _ I h) λv s1 ⟨x,H1,I1,r1,q1⟩=> ?_
 obtain⟨z,e,hz,q⟩:=q1;subst e;obtain⟨t,rfl⟩:=r1;refine wpAny_pyIter_ascii hz ?_;refine⟨s1.heap.objs.size,[s1.heap.objs.size],_,_,H1,rfl,I1.kept (t':=s1.toks) λb o e=>get?_push_of_some _ e,aT0 z t,⟨_,get?_push_size _ rfl,rfl,rfl⟩,λb hb=> ?_,q⟩
 have e:b=s1.heap.objs.size:=by simpa using hb
 subst e;exact I1.fpOk (le_refl _) (I1.hok.fresh (le_refl _))
theorem aT1 (z:Str):aR1 K A H (Its z) z.cps.size (λi=> .str ⟨#[z.cps.toList.getD i 0]⟩):=by
 refine⟨λA' H' i P hi=>hi,λA' H' i x H'' P hA hi y=> ?_,λA' H' P=>rfl⟩
 obtain⟨rfl,c,e,rfl⟩:=y;refine⟨.refl _,?_⟩;have e2:z.cps.toList.getD i 0=c:=by
  rw[getD_eq_getElem?_getD,Array.getElem?_toList,e];rfl
 rw[e2];simp only[Rep]
def aH5 (t:UE):UI:=λρ Q=>t ρ λb ρ1=>match b.d with
 | .str z=>z.cps.all (· <128)=true/\Q z.cps.size (λi=> .str ⟨#[z.cps.toList.getD i 0]⟩) ρ1
 | _=>False
theorem aT2 {tg:Expr}(h:PU X e te):PUI X tg e (aH5 te):=aR2 (pi_str h) λσ H R ⟨C,ρ,Q0,I,h,k⟩=>⟨C,ρ,_,I,h,λb ρ1 v H1 q f s r=>by
 have rr:=r.rep λa z=>I.avF f z
 generalize b.d=d at q rr;split at q
 ·exact⟨_,aW rr,q.1,k _ _ ρ1 _ H1 q.2 f s (aT1 _)⟩
 ·exact q.elim⟩
end
end M
end
section
namespace M
open PySem PySem.Spec PyProof.Rows L2
abbrev GL:=List (Addr×List Int)
def GL.has (g:GL)(x:Addr):Prop:= ∃l,(x,l)∈g
def inH (H0:Hp)(g:GL)(x:Addr)(o:HO):Prop:=(∃l,(x,l)∈g/\o= .lst (l.map V.int))\/(¬g.has x/\H0 x=some o)
open Classical in
noncomputable def b34 (H0:Hp) (g:GL):Hp:=λx=>if h: ∃o,inH H0 g x o then some h.choose else none
structure GOk (g:GL)(H0:Hp):Prop where
 nd:(g.map Prod.fst).Nodup
 new: ∀x,g.has x->H0 x=none
theorem b89: ∀{g:GL},(g.map Prod.fst).Nodup-> ∀{x:Addr} {l l':List Int},(x,l)∈g->(x,l')∈g->l=l'
 | [],_,_,_,_,h,_=>by cases h
 | p::g,nd,x,l,l',h,h'=>by
  rw[map_cons,List.nodup_cons]at nd;rcases List.mem_cons.mp h with e|h1
  ·rcases List.mem_cons.mp h' with e'|h2
   ·rw[<-e]at e';cases e';rfl
   ·exact absurd (List.mem_map.mpr ⟨_,h2,rfl⟩) (by rw[<-e]at nd;exact nd.1)
  ·rcases List.mem_cons.mp h' with e'|h2
   ·exact absurd (List.mem_map.mpr ⟨_,h1,rfl⟩) (by rw[<-e']at nd;exact nd.1)
   ·exact b89 nd.2 h1 h2
section
variable {K:PySem.W.Frag}{C C':C0}{ρ ρ':Ev}{σ σ':L2.St}{H H' H0:Hp}{g g':GL}{r:Nat}
theorem eS (nd:(g.map Prod.fst).Nodup){x:Addr}{o:HO}:b34 H0 g x=some o↔inH H0 g x o:=by
 have uniq: ∀o o',inH H0 g x o->inH H0 g x o'->o=o':=λo o' h h'=>by
  rcases h with⟨l,m,rfl⟩| ⟨n,e⟩
  ·rcases h' with⟨l',m',rfl⟩| ⟨n',_⟩
   ·rw[b89 nd m m']
   ·exact absurd ⟨l,m⟩ n'
  ·rcases h' with⟨l',m',_⟩| ⟨_,e'⟩
   ·exact absurd ⟨l',m'⟩ n
   ·rw[e]at e';cases e';rfl
 unfold b34;constructor
 ·intro h;split at h
  ·rename_i hx
   cases h;exact hx.choose_spec
  ·cases h
 ·intro h;rw[dif_pos ⟨o,h⟩,uniq _ _ (Exists.choose_spec (⟨o,h⟩: ∃o,inH H0 g x o)) h]
theorem fT (nd:(g.map Prod.fst).Nodup){x:Addr}(h:b34 H0 g x=none): ¬g.has x/\H0 x=none:=by
 have no: ∀o,¬inH H0 g x o:=λo q=>by rw[(eS nd).mpr q]at h;cases h
 have n: ¬g.has x:=λ⟨l,m⟩=>no _ (.inl ⟨l,m,rfl⟩)
 refine⟨n,?_⟩
 cases e:H0 x with
 | none=>rfl
 | some o=>exact absurd (.inr ⟨n,e⟩) (no o)
noncomputable def C0.inn (C:C0) (g:GL):C0:=⟨b34 C.H0 g,λx=>C.A0 x\/g.has x⟩
def lstI (l:List Int):D:= .lst (l.map .int)
def b90 (g:GL):List D:=g.map λp=>lstI p.2
def eI (g:GL):List D:=g.map λp=> .adr p.1
def noBo (ρ:Ev):Prop:= ∀(i:Nat) (l:List D),ρ[i]? ≠some (some (.bo l))
structure iJ (K:PySem.W.Frag)(C:C0)(r:Nat)(g:GL)(ρ:Ev)(σ:L2.St)(H:Hp):Prop where
 sl:ρ[r]? =some (some (.ow (b90 g)))
 gok:GOk g C.H0
 nb:noBo ρ
 a0: ∀a,C.A0 a->C.H0 a≠none
 ok:EOk K (C.inn g) (ρ.set r (some (.ow (eI g)))) σ H
theorem iJ.lt (I:iJ K C r g ρ σ H):r<ρ.length:=(List.getElem?_eq_some_iff.mp I.sl).1
theorem iJ.at_r (I:iJ K C r g ρ σ H):(ρ.set r (some (.ow (eI g))))[r]? =some (some (.ow (eI g))):=cI I.lt
theorem yS: ∀{g:GL} {A:AS} {vs:List V},aN K A H (eI g) vs->vs=g.map λp=>V.ref p.1
 | [],_,_,h=>h.unnil
 | p::g,A,vs,h=>by
  obtain⟨v,vr,rfl,rv,rr⟩:=aN.uncons (l:=eI g) h;have:v= .ref p.1:=by simpa only[Rep]using rv
  rw[this,yS rr];rfl
theorem wH {A:AS}: ∀l:List Int,aN K A H (l.map D.int) (l.map V.int)
 | []=> .nil
 | i::l=> .cons (by simp only[Rep]) (wH l)
theorem iJ.inner (I:iJ K C r g ρ σ H){x:Addr}{l:List Int}(h:(x,l)∈g):H x=some (.lst (l.map V.int)):=I.ok.ext x _ ((eS I.gok.nd).mpr (.inl ⟨l,h,rfl⟩))
theorem iJ.own (I:iJ K C r g ρ σ H){a:Addr}(h:Own ρ σ a):Own (ρ.set r (some (.ow (eI g)))) σ a:=by
 obtain⟨i,l,h1,h2⟩:=h
 by_cases e:r=i
 ·subst e;exact⟨r,_,I.at_r,h2⟩
 ·exact⟨i,l,by rw[get_set_ne e];exact h1,h2⟩
theorem iJ.notOwn (I:iJ K C r g ρ σ H){a:Addr}(h:g.has a): ¬Own (ρ.set r (some (.ow (eI g)))) σ a:=by
 rintro⟨i,l,h1,h2⟩;obtain⟨a',vs,h3,h4,h5,_⟩:=I.ok.ow i l h1;rw[h2]at h3;cases h3;exact(fT I.gok.nd h5).1 h
theorem iJ.av (I:iJ K C r g ρ σ H){a:Addr}(h:Av C ρ σ a):Av (C.inn g) (ρ.set r (some (.ow (eI g)))) σ a:=h.imp .inl I.own
theorem iJ.free (I:iJ K C r g ρ σ H){a:Addr}(h:g.has a): ¬Av C ρ σ a:=by
 rintro(z|z)
 ·exact I.a0 a z (I.gok.new a h)
 ·exact I.notOwn h (I.own z)
theorem yT (I:iJ K C r g ρ σ H): ∀{g':GL},(∀p∈g',p∈g)->aN K (Av C ρ σ) H (b90 g') (g'.map λp=>V.ref p.1)
 | [],_=> .nil
 | p::g',h=>by
  refine .cons (d:=lstI p.2) ?_ (yT I λq hq=>h q (mem_cons_of_mem _ hq))
  have hp:=h p (mem_cons_self ..);unfold lstI;simp only[Rep];exact⟨p.1,p.2.map V.int,rfl,I.free ⟨p.2,hp⟩,I.inner hp,wH _⟩
theorem iJ.out (I:iJ K C r g ρ σ H):EOk K C ρ σ H:=by
 have sub: ∀a,Av C ρ σ a->Av (C.inn g) (ρ.set r (some (.ow (eI g)))) σ a:=λa z=>I.av z
 refine⟨by have:=I.ok.len;rw[length_set]at this;exact this,λi d h=> ?_,λi l h=> ?_,λi j l l' a h1 h2 h3 h4=> ?_,λi l h=>absurd h (I.nb i l),λb o e=> ?_,I.a0⟩
 ·have e:r≠i:=λz=>by subst z;rw[I.sl]at h;cases h
  obtain⟨v,h1,h2⟩:=I.ok.pu i d (by rw[get_set_ne e];exact h)
  exact⟨v,h1,h2.mono (.sub (.refl _) sub)⟩
 ·by_cases e:r=i
  ·subst e;rw[I.sl]at h;cases h;obtain⟨a,vs,h1,h2,h3,h4⟩:=I.ok.ow r _ I.at_r;have ev:=yS h4;subst ev;exact⟨a,_,h1,h2,(fT I.gok.nd h3).2,yT I λ_ h=>h⟩
  ·obtain⟨a,vs,h1,h2,h3,h4⟩:=I.ok.ow i l (by rw[get_set_ne e];exact h)
   exact⟨a,vs,h1,h2,(fT I.gok.nd h3).2,h4.mono (.sub (.refl _) sub)⟩
 ·have up: ∀{i:Nat} {l:List D},ρ[i]? =some (some (.ow l))-> ∃l2,(ρ.set r (some (.ow (eI g))))[i]? =some (some (.ow l2)):=λ{i l} h=>by
   by_cases e:r=i
   ·subst e;exact⟨_,I.at_r⟩
   ·exact⟨l,by rw[get_set_ne e];exact h⟩
  obtain⟨_,q1⟩:=up h1;obtain⟨_,q2⟩:=up h2;exact I.ok.inj i j _ _ a q1 q2 h3 h4
 ·refine I.ok.ext b o ((eS I.gok.nd).mpr (.inr ⟨λz=> ?_,e⟩))
  rw[I.gok.new b z]at e;cases e
theorem iJ.same (I:iJ K C r g ρ σ H)(s:bU H H'):iJ K C r g ρ σ H':=⟨I.sl,I.gok,I.nb,I.a0,I.ok.same s⟩
theorem GOk.nil {H0:Hp}:GOk [] H0:=⟨List.nodup_nil,λx ⟨l,m⟩=>by cases m⟩
end
end M
end
section
namespace M
open PySem PySem.Spec PyProof.Rows L2
section
variable {X:Cx}{K:PySem.W.Frag}{C C':C0}{ρ ρ':Ev}{σ σ':L2.St}{H H' H0:Hp}{g g':GL}{r:Nat}{st:Stmt}{sts:List Stmt}{e:Expr}{pos:Pos}{t u:US}{te ti tj:UE}{tc:UT}
theorem a70 {l:List D}(nb:noBo ρ):noBo (ρ.set r (some (.ow l))):=λi m h=>by
 rcases aH h with⟨rfl,h3,_⟩| ⟨_,h3⟩
 ·cases h3
 ·exact nb i m h3
noncomputable def C0.rzN (C:C0) (g:GL) (ρ:Ev) (σ:L2.St) (H:Hp):C0:=⟨λb=> @ite _ (Own ρ σ b\/g.has b) (Classical.propDecidable _) none (H b),C.A0⟩
theorem iJ.rz (I:iJ K C r g ρ σ H):iJ K (C.rzN g (ρ.set r (some (.ow (eI g)))) σ H) r g ρ σ H/\bU C.H0 (C.rzN g (ρ.set r (some (.ow (eI g)))) σ H).H0:=by
 have e1: ∀b,(Own (ρ.set r (some (.ow (eI g)))) σ b\/g.has b)->(C.rzN g (ρ.set r (some (.ow (eI g)))) σ H).H0 b=none:=λb h=>if_pos h
 have e2: ∀b,¬(Own (ρ.set r (some (.ow (eI g)))) σ b\/g.has b)->(C.rzN g (ρ.set r (some (.ow (eI g)))) σ H).H0 b=H b:=λb h=>if_neg h
 generalize eC:C.rzN g (ρ.set r (some (.ow (eI g)))) σ H=C1 at *;have eA:C1.A0=C.A0:=by rw[<-eC];rfl
 have ok1:GOk g C1.H0:=⟨I.gok.nd,λx h=>e1 x (.inr h)⟩
 have no: ∀b o,C.H0 b=some o-> ¬(Own (ρ.set r (some (.ow (eI g)))) σ b\/g.has b):=λb o e h=>by
  rcases h with⟨i,l,h1,h2⟩|h
  ·obtain⟨a,vs,h3,h4,h5,_⟩:=I.ok.ow i l h1;rw[h2]at h3;cases h3;rw[(fT I.gok.nd h5).2]at e;cases e
  ·rw[I.gok.new b h]at e;cases e
 have s1:bU C.H0 C1.H0:=λb o e=>by
  rw[e2 b (no b o e)];exact I.ok.ext b o ((eS I.gok.nd).mpr (.inr ⟨λz=>no b o e (.inr z),e⟩))
 have a1: ∀a,C1.A0 a->C1.H0 a≠none:=λa h z=>by
  rw[eA]at h;cases q:C.H0 a with
  | none=>exact I.a0 a h q
  | some o=>rw[s1 a o q]at z;cases z
 have av: ∀{a:Addr},Av (C1.inn g) (ρ.set r (some (.ow (eI g)))) σ a->Av (C.inn g) (ρ.set r (some (.ow (eI g)))) σ a:=λ{a} z=>z.imp (λz=>z.imp (λz=>eA▸z) id) id
 refine⟨⟨I.sl,ok1,I.nb,a1,I.ok.len,λi d h=> ?_,λi l h=> ?_,I.ok.inj,λi l h=>absurd h (a70 I.nb i l),λb o q=> ?_,λa h z=> ?_⟩,s1⟩
 ·obtain⟨v,h1,h2⟩:=I.ok.pu i d h;exact⟨v,h1,h2.mono (.sub (.refl _) λa z=>av z)⟩
 ·obtain⟨a,vs,h3,h4,h5,h6⟩:=I.ok.ow i l h;refine⟨a,vs,h3,h4,?_,h6.mono (.sub (.refl _) λa z=>av z)⟩
  cases q:(C1.inn g).H0 a with
  | none=>rfl
  | some o=>
   rcases(eS ok1.nd).mp q with⟨l',m,_⟩| ⟨_,q'⟩
   ·exact absurd ⟨l',m⟩ (fT I.gok.nd h5).1
   ·rw[e1 a (.inl ⟨i,l,h,h3⟩)]at q';cases q'
 ·rcases(eS ok1.nd).mp q with⟨l',m,rfl⟩| ⟨nh,q'⟩
  ·exact I.inner m
  ·by_cases z:Own (ρ.set r (some (.ow (eI g)))) σ b\/g.has b
   ·rw[e1 b z]at q';cases q'
   ·rw[e2 b z]at q';exact q'
 ·obtain⟨nh,h0⟩:=fT ok1.nd z;exact h.elim (λh=>a1 a h h0) nh
theorem iJ.lower {C1:C0}(I:iJ K C1 r g ρ σ H)(s:bU C.H0 C1.H0)(e:C1.A0=C.A0)(a0: ∀a,C.A0 a->C.H0 a≠none):iJ K C r g ρ σ H:=by
 have ok:GOk g C.H0:=⟨I.gok.nd,λx h=>by
  cases q:C.H0 x with
  | none=>rfl
  | some o=>have:=s x o q;rw[I.gok.new x h]at this;cases this⟩
 have av: ∀{a:Addr},Av (C.inn g) (ρ.set r (some (.ow (eI g)))) σ a->Av (C1.inn g) (ρ.set r (some (.ow (eI g)))) σ a:=λ{a} z=>z.imp (λz=>z.imp (λz=>e▸z) id) id
 refine⟨I.sl,ok,I.nb,a0,I.ok.len,λi d h=> ?_,λi l h=> ?_,I.ok.inj,λi l h=>absurd h (a70 I.nb i l),λb o q=> ?_,λa h z=> ?_⟩
 ·obtain⟨v,h1,h2⟩:=I.ok.pu i d h;exact⟨v,h1,h2.mono (.sub (.refl _) λa z=>av z)⟩
 ·obtain⟨a,vs,h3,h4,h5,h6⟩:=I.ok.ow i l h;refine⟨a,vs,h3,h4,?_,h6.mono (.sub (.refl _) λa z=>av z)⟩
  obtain⟨nh,h0⟩:=fT I.gok.nd h5;cases q:(C.inn g).H0 a with
  | none=>rfl
  | some o=>
   rcases(eS ok.nd).mp q with⟨l',m,_⟩| ⟨_,q'⟩
   ·exact absurd ⟨l',m⟩ nh
   ·rw[s a o q']at h0;cases h0
 ·rcases(eS ok.nd).mp q with⟨l',m,rfl⟩| ⟨nh,q'⟩
  ·exact I.inner m
  ·exact I.ok.ext b o ((eS I.gok.nd).mpr (.inr ⟨nh,s b o q'⟩))
 ·obtain⟨nh,h0⟩:=fT ok.nd z;exact h.elim (λh=>a0 a h h0) nh
end
section
variable {X:Cx}{es:List Expr}{t:UA}
theorem j7 {x:Str}{j}{p:Pos}(h:WA X es t):WA X (.Constant (.str x) j p::es) (a6 (uC (.str x)) t):=⟨a7 aV h.out rfl⟩
theorem ws_la {x:Str}{pos pos' p q:Pos}{i:Nat}{e:Expr}{te:UE}{sts:List Stmt}{u:US}(h:WA X es t)(a:PU X e te)(r:WS X sts u)(hN:X.N.Nodup)(hi:X.N[i]? =some x:=by rfl)(hx:Loc X.env.scope x:=by first|exact Or.inl rfl|exact Or.inr rfl)(hf:X.fn x=true\/X.env.scope.names.lookup x=some .local:=by first|exact .inl rfl|exact .inr rfl|assumption)
  (hl: ∀pins σ H s,Inv X pins σ H s->i<σ.length:=by exact ilB rfl):WS X (.Assign [.Name x pos'] (.BinOp e .Add (.List es p) q) pos::sts) (aL (aX i (uOp eR te (iP t))) u):=⟨aD (w6 i hN hi hx (aM bN a (fH h.out)) rfl hf hl) r.out⟩
end
end M
end
section
namespace L2
open PySem PySem.Spec PyProof.Rows
end L2
namespace M
open PySem PySem.Spec PyProof.Rows L2
end M
end
section
namespace M
open PySem PySem.Spec PyProof.Rows L2
section
variable {prog:Program}{w:World}{E:Value->Shared->Prop}{s:Shared}
def yU (prog:Program)(w:World)(A:Around)(E:Value->Shared->Prop)(fin:Bool)(Q:Value->Shared->Prop):List (Value×Value)->Shared->Prop
 | [],s=>Q (.bool fin) s
 | (p,q)::r,s=>wpAny (model prog w) A (eqBool p q) (λe s'=>if e=true then yU prog w A E fin Q r s' else wpAny (model prog w) A (richCompare .Lt p q) Q E s') E s
theorem yU.mono {A:Around}{fin:Bool}{Q Q':Value->Shared->Prop}(k: ∀v s,Q v s->Q' v s): ∀(l:List (Value×Value)) (s:Shared),yU prog w A E fin Q l s->yU prog w A E fin Q' l s
 | [],s,h=>k _ s h
 | (p,q)::r,s,h=>by
  have h':wpAny (model prog w) A (eqBool p q) (λe s'=>if e=true then yU prog w A E fin Q r s' else wpAny (model prog w) A (richCompare .Lt p q) Q E s') E s:=h
  refine wpAny_mono h' (λe s' he=> ?_) λ_ _ z=>z
  cases e
  ·rw[if_neg (by decide)]at he⊢
   exact wpAny_mono he k λ_ _ z=>z
  ·rw[if_pos rfl]at he⊢;exact yU.mono k r s' he
end
end M
end
section
namespace L2
open PySem PySem.Spec PyProof.Rows
end L2
namespace M
open PySem PySem.Spec PyProof.Rows L2
end M
end
section
namespace L2
open PySem PySem.Spec PyProof.Rows
def Calm (f:Obj->Obj):Prop:= ∀o,(f o).dict=o.dict/\(o.isFreed=false->(f o).isFreed=false)
def gO {α:Type}:Sem α->Prop
 | .pure _=>True
 | .raise _=>True
 | .unsupported _=>True
 | .finish _=>True
 | .rule _ k=>gO (k ())
 | .at _ k=>gO (k ())
 | .load _ _ k=> ∀o,gO (k o)
 | .update _ _ f k=>Calm f/\gO (k ())
 | .alloc _ k=> ∀a,gO (k a)
 | .loadIfAlive _ k=> ∀o,gO (k o)
 | .point _ k=>gO (k ())
 | .register _ _=>True
 | .stack k=> ∀l,gO (k l)
 | _=>False
def DK (h h':Heap):Prop:= ∀b o,h.get? b=some o-> ∃o',h'.get? b=some o'/\o'.dict=o.dict
theorem DK.refl (h:Heap):DK h h:=λb o q=>⟨o,q,rfl⟩
theorem DK.trans {h h' h'':Heap}(a:DK h h')(b:DK h' h''):DK h h'':=λc o q=>by
 obtain⟨o',q',e⟩:=a c o q;obtain⟨o'',q'',e'⟩:=b c o' q';exact⟨o'',q'',e'.trans e⟩
theorem DK.update {h:Heap}{a:Addr}{f:Obj->Obj}(c:Calm f):DK h (h.update a f):=λb o q=>by
 by_cases e:a=b
 ·subst e;exact⟨f o,Heap.get?_update_self f q ((c o).2 (Heap.get?_some_iff.mp q).2),(c o).1⟩
 ·exact⟨o,(Heap.get?_update_other _ _ e).trans q,rfl⟩
theorem b35 {α:Type}{M:Model}{Γ:PySem.Ctx}: ∀{t:Sem α} {Q:α->Pos->Shared->Prop} {E:Value->Pos->Shared->Prop} {p:Pos} {s:Shared},gO t->Sem.wp M Γ t Q E p s->Sem.wp M Γ t (λa p' s'=>Q a p' s'/\DK s.heap s'.heap) (λe p' s'=>E e p' s'/\DK s.heap s'.heap) p s:=by
 intro t
 induction t with
 | pure a=>intro Q E p s _ h;exact⟨h,.refl _⟩
 | raise e=>intro Q E p s _ h;exact⟨h,.refl _⟩
 | rule _ k ih=>intro Q E p s t h;exact ih () t h
 | «at» _ k ih=>intro Q E p s t h;exact ih () t h
 | load a _ k ih=>intro Q E p s t ⟨o,q,h⟩;exact⟨o,q,ih o (t o) h⟩
 | update a _ f k ih=>
  intro Q E p s t ⟨q,h⟩;refine⟨q,?_⟩;have:=ih () t.2 h;exact Sem.wp_mono _ _ _ (λa p' s' z=>⟨z.1,(DK.update t.1).trans z.2⟩) (λa p' s' z=>⟨z.1,(DK.update t.1).trans z.2⟩) _ _ this
 | alloc o k ih=>
  intro Q E p s t h;have:=ih _ (t _) h;have pu:DK s.heap (s.heap.push o):=λb o' q=>⟨o',get?_push_of_some _ q,rfl⟩
  exact Sem.wp_mono _ _ _ (λa p' s' z=>⟨z.1,pu.trans z.2⟩) (λa p' s' z=>⟨z.1,pu.trans z.2⟩) _ _ this
 | loadIfAlive a k ih=>intro Q E p s t h;exact ih _ (t _) h
 | point _ k ih=>intro Q E p s t h;exact ih () t h
 | stack k ih=>intro Q E p s t h;exact ih _ (t _) h
 | unsupported _=>intro Q E p s _ h;exact h.elim
 | finish _=>intro Q E p s _ h;exact h.elim
 | register _ _=>intro Q E p s _ h;exact h.elim
 | _=>intro Q E p s t h;exact False.elim t
theorem aT {α β:Type}{f:α->Sem β}: ∀{t:Sem α},gO t->(∀a,gO (f a))->gO (t.bind f):=by
 intro t
 induction t with
 | pure a=>intro _ h;exact h a
 | raise e=>intro _ _;exact trivial
 | unsupported _=>intro _ _;exact trivial
 | finish _=>intro _ _;exact trivial
 | rule _ k ih=>intro t h;exact ih () t h
 | «at» _ k ih=>intro t h;exact ih () t h
 | load a _ k ih=>intro t h o;exact ih o (t o) h
 | update a _ f k ih=>intro t h;exact⟨t.1,ih () t.2 h⟩
 | alloc o k ih=>intro t h a;exact ih a (t a) h
 | loadIfAlive a k ih=>intro t h o;exact ih o (t o) h
 | point _ k ih=>intro t h;exact ih () t h
 | register _ _=>intro _ _;exact trivial
 | stack k ih=>intro t h l;exact ih l (t l) h
 | _=>intro t _;exact False.elim t
theorem mY {α:Type}{M:Model}{A:Around}{t:Sem α}{Q:α->Shared->Prop}{E:Value->Shared->Prop}{s:Shared}(c:gO t)(h:wpAny M A t Q E s):wpAny M A t (λa s'=>Q a s'/\DK s.heap s'.heap) (λe s'=>E e s'/\DK s.heap s'.heap) s:=λΓ p hin=>b35 c (h Γ p hin)
theorem yV {a:Addr}{part:Option Value}:gO (loadPart a part):=λ_=>trivial
theorem a71 (v:Value):gO (fieldsOf v):=by
 unfold fieldsOf;split
 ·refine aT yV λo=> ?_
  split<;>exact trivial
 ·exact trivial
theorem mZ (v:Value)(i:Nat):gO (PySem.field v i):=aT (a71 v) λvs=>by
 split<;>exact trivial
theorem a72 (f:Array Value->Array Value):Calm (Obj.mapFields f):=λo=>by
 obtain⟨c,d,dt,sl⟩:=o;cases dt<;>exact⟨rfl,λh=>h⟩
theorem l6 (v:Value)(i:Nat)(x:Value):gO (setField v i x):=by
 unfold setField;split
 ·unfold updateField;refine aT yV λo=> ?_
  split
  ·split
   ·exact⟨a72 _,trivial⟩
   ·exact trivial
  ·exact trivial
 ·exact trivial
theorem oX (e:Value)(f:Option Addr):gO (setFlight e f):=aT (mZ _ _) λtb=>by
 split
 ·exact l6 _ _ _
 ·exact trivial
theorem rO:gO stack:=λ_=>trivial
theorem aD2 (f:Addr)(b:Bool):gO (entryPlaceOf f b):=aT rO λl=>by
 split<;>exact trivial
theorem aT3 (cls:Value)(data:Data)(d:Option Addr):gO (newObj cls data d):=by
 have as:gO (newObjAsIs cls data d):=by
  unfold newObjAsIs;refine aT (λ_=>trivial) λa=> ?_
  split
  ·refine aT ?_ λb=> ?_
   ·unfold classHasDel;refine aT (λ_=>trivial) λo=> ?_
    split<;>exact trivial
   ·split<;>exact trivial
  ·exact trivial
 unfold newObj;split<;>first|exact as| (split<;>first|exact as|exact trivial| (refine aT trivial λ_=>as))
theorem aD3 (a b c d e:Value)(pl:List Value):gO (EntryCells.newEntry a b c d e pl):=by
 unfold EntryCells.newEntry newFields;exact aT3 _ _ _
theorem wI: ∀l:List Env,gO (readyFrames l)
 | []=>trivial
 | env::outer=>by
  unfold readyFrames;split
  ·refine aT (λ_=>trivial) λo=> ?_
   split
   ·exact trivial
   ·refine aT ?_ λb=> ?_
    ·unfold behindIsImport;split
     ·exact trivial
     ·split
      ·exact trivial
      ·exact aT (mZ _ _) λ_=>trivial
    ·refine aT ?_ λv=> ?_
     ·unfold keptBack;split
      ·split
       ·exact trivial
       ·exact aT (aT rO λ_=>trivial) λ_=>trivial
      ·exact trivial
     ·exact⟨λo=>⟨rfl,λh=>by obtain⟨c,d,dt,sl⟩:=o;cases dt<;>exact h⟩,wI outer⟩
  ·exact trivial
theorem aD4 (env:Env):gO (PySem.frameOf env):=by
 unfold PySem.frameOf;refine aT (aT rO λ_=>trivial) λl=>aT ?_ λo=> ?_
 ·unfold frameObject;split
  ·exact trivial
  ·exact aT (wI _) λ_=>trivial
 ·split<;>exact trivial
theorem yW (e:Value)(env:Env):gO (noteFrame e env):=by
 have last: ∀h f,gO (do setField e 1 (<-EntryCells.newEntry h (<-PySem.frameOf env) .none (rawInt f) .none (<-entryPlaceOf f (h != .none)))):=λh f=>
  aT (aD4 env) λa=>aT (aD2 _ _) λb=>aT (aD3 _ _ _ _ _ _) λc=>l6 _ _ _
 unfold noteFrame;split
 ·refine aT (mZ _ _) λh=> ?_
  split
  ·refine aT (mZ _ _) λx=> ?_
   split
   ·exact trivial
   ·exact aT (l6 _ _ _) λ_=>last _ _
  ·exact last _ _
 ·exact trivial
theorem sD (env:Env)(e:Value):gO (leaving env e):=aT (yW e env) λ_=>oX e none
def Tr (h:Heap)(e T:Addr):Prop:= ∃oe vs,h.get? e=some oe/\oe.data= .fields vs/\vs[1]? =some (.ref T)
theorem Tr.one {h:Heap}{e T T':Addr}(a:Tr h e T)(b:Tr h e T'):T=T':=by
 obtain⟨o,vs,h1,h2,h3⟩:=a;obtain⟨o',vs',g1,g2,g3⟩:=b;rw[h1]at g1;cases g1;rw[h2]at g2;cases g2;rw[h3]at g3;cases g3;rfl
structure qS (fs:List Addr)(e:Addr)(h h':Heap):Prop where
 keep: ∀b o,h.get? b=some o->b ∉ fs->b≠e-> ¬Tr h e b->h'.get? b=some o
 slot:h.UpToSlots h'
 tr: ∀T,Tr h' e T->T∈fs\/T=e\/Tr h e T\/h.get? T=none
 rcd: ∀T,Tr h' e T-> ∃o vs,h'.get? T=some o/\o.data= .fields vs
structure uT (fs:List Addr)(e:Addr)(h h':Heap):Prop extends qS fs e h h' where
 dk:DK h h'
theorem a02 {h base:Heap}{e:Addr}{cls a0 fl:Value}(t:h.TracedAtW base e cls a0 fl): ∃T,Tr h e T/\base.get? T=none/\T≠e/\ ∃o vs,h.get? T=some o/\o.data= .fields vs:=by
 obtain⟨oe,vs,T,oT,ts,he,_,hd,h1,hb,hne,hT,hdT,_⟩:=t;exact⟨T,⟨oe,vs,he,hd,h1⟩,hb,hne,oT,ts,hT,hdT⟩
theorem gT {h base B:Heap}{e T:Addr}{cls a0 fl:Value}(t:h.TracedAtW base e cls a0 fl)(x:Tr h e T)(hn:B.get? T=none):h.TracedAtW B e cls a0 fl:=by
 obtain⟨oe,vs,T',oT,ts,he,hc,hd,h1,hb,hne,hT,hdT,h3⟩:=t;obtain rfl:=x.one ⟨oe,vs,he,hd,h1⟩;exact⟨oe,vs,T,oT,ts,he,hc,hd,h1,hn,hne,hT,hdT,h3⟩
section
variable {base h:Heap}{l:List Env}{e T:Addr}{cls a0 fl:Value}
def hid (h:Heap)(l:List Env)(e T:Addr):Heap:=PySem.W.hideAll h (frs l++[e,T])
theorem m4 {b:Addr}(hb:b∈frs l\/b=e\/b=T):(hid h l e T).get? b=none:=PySem.W.hideAll_none _ (by
 rcases hb with z|z|z
 ·exact List.mem_append.mpr (.inl z)
 ·exact List.mem_append.mpr (.inr (by simp[z]))
 ·exact List.mem_append.mpr (.inr (by simp[z])))
theorem sE {b:Addr}{o:Obj}(q:h.get? b=some o)(h1:b ∉ frs l)(h2:b≠e)(h3:b≠T):(hid h l e T).get? b=some o:=PySem.W.hideAll_get _ q (by
 intro z;rcases List.mem_append.mp z with z|z
 ·exact h1 z
 ·simp at z
  exact z.elim h2 h3)
theorem n5 (f:h.FunFrames base l):h.FunFrames (hid h l e T) l:=PySem.W.funFrames_hide f λenv he b hb=>List.mem_append.mpr (.inl (List.mem_filterMap.mpr ⟨env,he,hb⟩))
theorem qG (st:base.StaysIn h)(f:h.FunFrames base l)(he:base.get? e=none)(hT:base.get? T=none):base.StaysIn (hid h l e T):=λb o q=>sE (st b o q) (λz=>by rw[(f.mem z).1]at q;cases q) (λz=>by rw[z,he]at q;cases q) λz=>by rw[z,hT]at q;cases q
theorem m5 {B h':Heap}(st:base.StaysIn B): ∀{l:List Env},h'.FunFrames B l->h'.FunFrames base l
 | [],_=>trivial
 | env::_,⟨hk,⟨L,o,hf,hn,ho,hd⟩,hr⟩=>⟨hk,⟨L,o,hf,(by
   cases q:base.get? L with
   | none=>rfl
   | some u=>have:=st L u q;rw[hn]at this;cases this),ho,hd⟩,m5 st hr⟩
theorem none_of {B:Heap}(st:base.StaysIn B){b:Addr}(q:B.get? b=none):base.get? b=none:=by
 cases z:base.get? b with
 | none=>rfl
 | some u=>have:=st b u z;rw[q]at this;cases this
theorem a03 {l':List Env}{h':Heap}(x:Tr h e T)(st:(hid h l e T).StaysIn h')(t:h'.TracedAtW (hid h l e T) e cls a0 fl)(up:h.UpToSlots h'):qS (frs l) e h h':=by
 refine⟨λb o q h1 h2 h3=>st b o (sE q h1 h2 λz=>h3 (by rw[z];exact x)),up,λT' x'=> ?_,λT' x'=> ?_⟩
 ·obtain⟨T2,y,hn,_,_⟩:=a02 t;obtain rfl:=x'.one y
  by_cases c1:T'∈frs l
  ·exact .inl c1
  by_cases c2:T'=e
  ·exact .inr (.inl c2)
  by_cases c3:T'=T
  ·exact .inr (.inr (.inl (by rw[c3];exact x)))
  refine .inr (.inr (.inr ?_))
  cases q:h.get? T' with
  | none=>rfl
  | some o=>rw[sE q c1 c2 c3]at hn;cases hn
 ·obtain⟨T2,y,_,_,z⟩:=a02 t;obtain rfl:=x'.one y;exact z
end
section
variable {M:Model}{A:Around}{E:Value->Shared->Prop}{s:Shared}{base:Heap}{env:Env}{outer:List Env}{L e:Addr}{cls a0:Value}{Q:Unit->Shared->Prop}
theorem aD5 (hfr:A.frames=some (env::outer))(hf:env.frame=some L)(F:FlyingW base (env::outer) e cls a0 s.heap)
  (hQ: ∀h',FlyingW base outer e cls a0 h'->qS (frs (env::outer)) e s.heap h'->Q () {s with heap:=h'}):wpAny M A (leaving env (.ref e)) Q E s:=by
 obtain⟨f1,f2,f3,f4⟩:=F;obtain⟨T,x,hT,_,_⟩:=a02 (fl:= .none) f4;have stB:=qG (T:=T) f1 f3 f2 hT;refine wpAny_leaves_onW (base:=hid s.heap (env::outer) e T) hfr hf ⟨λb o q=>of_hideAll _ q,m4 (.inr (.inl rfl)),n5 f3,gT (fl:= .none) f4 x (m4 (.inr (.inr rfl)))⟩ λh' F' up=> ?_
 obtain⟨g1,g2,g3,g4⟩:=F';obtain⟨T',x',hT',_,_⟩:=a02 (fl:= .none) g4;exact hQ h' ⟨λb o q=>g1 b o (stB b o q),f2,m5 stB g3,gT (fl:= .none) g4 x' (none_of stB hT')⟩ (a03 (l':=outer) x g1 g4 up)
theorem aL9 (hfr:A.frames=some (env::outer))(hf:env.frame=some L)(F:FlyingW base (env::outer) e cls a0 s.heap)
  (hQ: ∀h',HeldW base (env::outer) e cls a0 L h'->qS (frs (env::outer)) e s.heap h'->Q () {s with heap:=h'}):wpAny M A (noteFrame (.ref e) env) Q E s:=by
 obtain⟨f1,f2,f3,f4⟩:=F;obtain⟨T,x,hT,_,_⟩:=a02 (fl:= .none) f4;have stB:=qG (T:=T) f1 f3 f2 hT;refine wpAny_looks_onW (base:=hid s.heap (env::outer) e T) hfr hf ⟨λb o q=>of_hideAll _ q,m4 (.inr (.inl rfl)),n5 f3,gT (fl:= .none) f4 x (m4 (.inr (.inr rfl)))⟩ λh' F' up=> ?_
 obtain⟨g1,g2,g3,g4⟩:=F';obtain⟨T',x',hT',_,_⟩:=a02 g4;exact hQ h' ⟨λb o q=>g1 b o (stB b o q),f2,m5 stB g3,gT g4 x' (none_of stB hT')⟩ (a03 (l':=outer) x g1 g4 up)
theorem aM0 {l:List Env}{fl:Value}(F:base.StaysIn s.heap/\base.get? e=none/\s.heap.FunFrames base l/\s.heap.TracedAtW base e cls a0 fl)
  (hQ: ∀h',FlyingW base l e cls a0 h'->qS (frs l) e s.heap h'->Q () {s with heap:=h'}):wpAny M A (setFlight (.ref e) none) Q E s:=by
 obtain⟨f1,f2,f3,f4⟩:=F;obtain⟨T,x,hT,_,_⟩:=a02 f4;have stB:=qG (T:=T) f1 f3 f2 hT;refine wpAny_setFlight_noneW (base:=hid s.heap l e T) (λb o q=>of_hideAll _ q) (n5 f3) (gT f4 x (m4 (.inr (.inr rfl)))) λh' g1 g3 g4 up=> ?_
 obtain⟨T',x',hT',_,_⟩:=a02 (fl:= .none) g4;exact hQ h' ⟨λb o q=>g1 b o (stB b o q),f2,m5 stB g3,gT (fl:= .none) g4 x' (none_of stB hT')⟩ (a03 (l':=l) (fl:= .none) x g1 g4 λb o q n=>⟨o.slots,up b o q n⟩)
theorem a04 {oe:Obj}{vs:Array Value}(hfr:A.frames=some (env::outer))(hl:s.heap.FunFrames base (env::outer))(hf:env.frame=some L)(he:s.heap.get? e=some oe)(hkb:base.StaysIn s.heap)(hen:base.get? e=none)(hd:oe.data= .fields vs)(h1:vs[1]? =some .none)(h0:vs[0]? =some a0)
  (hQ: ∀h',FlyingW base outer e oe.cls a0 h'->qS (frs (env::outer)) e s.heap h'->Q () {s with heap:=h'}):wpAny M A (leaving env (.ref e)) Q E s:=by
 have stB:=qG (e:=e) (T:=e) hkb hl hen hen;have nt: ∀T,¬Tr s.heap e T:=by
  rintro T ⟨o,ws,k1,k2,k3⟩;rw[he]at k1;cases k1;rw[hd]at k2;cases k2;rw[h1]at k3;cases k3
 refine wpAny_leaving_firstW (base:=hid s.heap (env::outer) e e) hfr (n5 hl) hf he (λb o q=>of_hideAll _ q) (m4 (.inr (.inl rfl))) hd h1 h0 λh' F'=> ?_
 obtain⟨g1,⟨_,_,g3⟩,g4,up⟩:=F';obtain⟨T',x',hT',hne,hrec⟩:=a02 (fl:= .none) g4;refine hQ h' ⟨λb o q=>g1 b o (stB b o q),hen,m5 stB g3,gT (fl:= .none) g4 x' (none_of stB hT')⟩ ⟨λb o q k1 k2 _=>g1 b o (sE q k1 k2 k2),up,λT x2=> ?_,λT x2=> ?_⟩
 ·obtain rfl:=x2.one x'
  by_cases c1:T∈frs (env::outer)
  ·exact .inl c1
  refine .inr (.inr (.inr ?_))
  cases q:s.heap.get? T with
  | none=>rfl
  | some o=>rw[sE q c1 hne hne]at hT';cases hT'
 ·obtain rfl:=x2.one x';exact hrec
theorem aM1 (hfr:A.frames=some (env::outer))(hf:env.frame=some L)(F:FlyingW base (env::outer) e cls a0 s.heap)
  (hQ: ∀h',FlyingW base outer e cls a0 h'->uT (frs (env::outer)) e s.heap h'->Q () {s with heap:=h'}):wpAny M A (leaving env (.ref e)) Q E s:=
 wpAny_mono (mY (sD env (.ref e)) (aD5 (Q:=λ_ s'=> ∃h',s'={s with heap:=h'}/\FlyingW base outer e cls a0 h'/\qS (frs (env::outer)) e s.heap h') hfr hf F λh' a b=>⟨h',rfl,a,b⟩)) (λ_ s' ⟨⟨h',q,a,b⟩,dk⟩=>by subst q;exact hQ h' a ⟨b,dk⟩) λ_ _ z=>z.1
theorem a73 (hfr:A.frames=some (env::outer))(hf:env.frame=some L)(F:FlyingW base (env::outer) e cls a0 s.heap)
  (hQ: ∀h',HeldW base (env::outer) e cls a0 L h'->uT (frs (env::outer)) e s.heap h'->Q () {s with heap:=h'}):wpAny M A (noteFrame (.ref e) env) Q E s:=
 wpAny_mono (mY (yW (.ref e) env) (aL9 (Q:=λ_ s'=> ∃h',s'={s with heap:=h'}/\HeldW base (env::outer) e cls a0 L h'/\qS (frs (env::outer)) e s.heap h') hfr hf F λh' a b=>⟨h',rfl,a,b⟩)) (λ_ s' ⟨⟨h',q,a,b⟩,dk⟩=>by subst q;exact hQ h' a ⟨b,dk⟩) λ_ _ z=>z.1
theorem wJ {l:List Env}{fl:Value}(F:base.StaysIn s.heap/\base.get? e=none/\s.heap.FunFrames base l/\s.heap.TracedAtW base e cls a0 fl)
  (hQ: ∀h',FlyingW base l e cls a0 h'->uT (frs l) e s.heap h'->Q () {s with heap:=h'}):wpAny M A (setFlight (.ref e) none) Q E s:=
 wpAny_mono (mY (oX (.ref e) none) (aM0 (Q:=λ_ s'=> ∃h',s'={s with heap:=h'}/\FlyingW base l e cls a0 h'/\qS (frs l) e s.heap h') F λh' a b=>⟨h',rfl,a,b⟩)) (λ_ s' ⟨⟨h',q,a,b⟩,dk⟩=>by subst q;exact hQ h' a ⟨b,dk⟩) λ_ _ z=>z.1
theorem a74 {oe:Obj}{vs:Array Value}(hfr:A.frames=some (env::outer))(hl:s.heap.FunFrames base (env::outer))(hf:env.frame=some L)(he:s.heap.get? e=some oe)(hkb:base.StaysIn s.heap)(hen:base.get? e=none)(hd:oe.data= .fields vs)(h1:vs[1]? =some .none)(h0:vs[0]? =some a0)
  (hQ: ∀h',FlyingW base outer e oe.cls a0 h'->uT (frs (env::outer)) e s.heap h'->Q () {s with heap:=h'}):wpAny M A (leaving env (.ref e)) Q E s:=
 wpAny_mono (mY (sD env (.ref e)) (a04 (Q:=λ_ s'=> ∃h',s'={s with heap:=h'}/\FlyingW base outer e oe.cls a0 h'/\qS (frs (env::outer)) e s.heap h') hfr hl hf he hkb hen hd h1 h0 λh' a b=>⟨h',rfl,a,b⟩)) (λ_ s' ⟨⟨h',q,a,b⟩,dk⟩=>by subst q;exact hQ h' a ⟨b,dk⟩) λ_ _ z=>z.1
end
structure Fly (base:Heap)(l:List Env)(e C:Addr)(H:Hp)(h:Heap):Prop where
 fl: ∃a0,FlyingW base l e (.ref C) a0 h
 he:H e=none
 ht: ∀T,Tr h e T->H T=none
structure sF (g:Heap)(e:Addr)(h:Heap):Prop where
 he:g.get? e=none
 ht: ∀T,Tr h e T->g.get? T=none
def XAt (h:Heap)(a:Addr)(o:Option Addr):Prop:= ∀d,o=some d-> ∃oe,h.get? a=some oe/\oe.dict=some d
theorem XAt.dk {h h':Heap}{a:Addr}{o:Option Addr}(x:XAt h a o)(k:DK h h'):XAt h' a o:=λd q=>by
 obtain⟨oe,e1,e2⟩:=x d q;obtain⟨o',e3,e4⟩:=k a oe e1;exact⟨o',e3,e4.trans e2⟩
def CXr (P:Program)(w:World)(base:Heap):CXT:=λouter H s E e s'=> ∃a C o H',e= .ref a/\s'.os=s.os/\AllBare s'.gens/\Un (frs outer) [] H H' s.heap s'.heap/\HOk P w H' s'.heap/\Fly base outer a C H' s'.heap/\sF s.heap a s'.heap/\XAt s'.heap a o/\E (.ref C) o H'
section
variable {P:Program}{w:World}{H H0:Hp}{h h':Heap}{fs:List Addr}{e:Addr}
theorem HOk.past (x:HOk P w H h)(p:uT fs e h h')(hf: ∀b∈fs,H b=none)(he:H e=none)(ht: ∀T,Tr h e T->H T=none):HOk P w H h':=λa o q=>
 (x a o q).stay (λb u hb r=>by
  have tracked:H b≠none:=by
   rcases hb with rfl|hb
   ·rw[q];simp
   ·rw[hb];simp
  exact p.keep b u r (λz=>tracked (hf b z)) (λz=>tracked (by rw[z];exact he)) λz=>tracked (ht b z)) (λ_ q=>q) λ_ _ q=>q
theorem HOk.there (x:HOk P w H h){b:Addr}(n:h.get? b=none):H b=none:=by
 cases q:H b with
 | none=>rfl
 | some o=>
  exfalso
  have hh: ∃ob,h.get? b=some ob:=by
   have y:=x b o q;cases o with
   | lst xs=>obtain⟨_,_,_,_,e⟩:=y;exact⟨_,e⟩
   | tup xs=>obtain⟨_,_,_,ob,e,_⟩:=y;exact⟨_,e⟩
   | dK kvs=>obtain⟨_,_,_,_,o,_,_,e,_⟩:=y;exact⟨_,e⟩
   | dT kvs=>obtain⟨_,_,_,_,o,_,_,e,_⟩:=y;exact⟨_,e⟩
   | set S n=>obtain⟨o,_,_,_,e,_⟩:=y;exact⟨_,e⟩
   | ins C dx fs=>obtain⟨_,_,_,e,_⟩:=y;exact⟨_,e⟩
   | own y'=>exact y
   | xd fs=>obtain⟨_,⟨_,_,_,e,_⟩,_⟩:=y;exact⟨_,e⟩
   | rng lo hi=>obtain⟨_,_,_,e⟩:=y;exact⟨_,e⟩
   | frz ob u=>obtain⟨e,_⟩:=y;exact⟨_,e⟩
   | tbl ps=>exact⟨_,(show h.get? b=some _ from y)⟩
   | met f y'=>exact⟨_,(show h.get? b=some _ from y)⟩
   | ext φ=>obtain⟨_,e,_⟩:=y;exact e
  obtain⟨ob,e⟩:=hh;rw[n]at e;cases e
theorem qH (x:HOk P w H h)(p:uT fs e h h')(hf: ∀b∈fs,H b=none)(he:H e=none)(ht: ∀T,Tr h e T->H T=none): ∀T,Tr h' e T->H T=none:=λT q=>by
 rcases p.tr T q with z|z|z|z
 ·exact hf T z
 ·rw[z];exact he
 ·exact ht T z
 ·exact x.there z
end
section
variable {X:Cx}{pins:List (Addr×Obj)}{σ:St}{H:Hp}{s:Shared}{h':Heap}{e:Addr}
theorem Un.past {fs fs':List Addr}{H0:Hp}{g:Heap}{L:Addr}(u:Un fs [] H0 H g s.heap)(p:uT fs' e s.heap h')(hfs: ∀b∈fs',b=L\/b∈fs)(hL:g.get? L=none)(ne:g.get? e=none)(nt: ∀T,Tr s.heap e T->g.get? T=none)(hd: ∀b∈fs,∀o,s.heap.get? b=some o-> ∀vs,o.data≠ .fields vs):Un fs [] H0 H g h' where
 keep:=λb o q n hb hx=>p.keep b o (u.keep b o q n hb hx) (λz=>by
  rcases hfs b z with z|z
  ·rw[z,hL]at q;cases q
  ·exact hb z) (λz=>by rw[z,ne]at q;cases q) λz=>by rw[nt b z]at q;cases q
 slot:=λb o q n hb hx=>by
  obtain⟨sl,e1⟩:=u.slot b o q n hb hx;obtain⟨sl',e2⟩:=p.slot b _ e1 (hd b hb _ e1);exact⟨sl',e2⟩
 free:=u.free
 there:=λb o q hx=>by
  obtain⟨o',e1⟩:=u.there b o q hx
  by_cases c:b∈fs
  ·obtain⟨sl,e2⟩:=p.slot b _ e1 (hd b c _ e1);exact⟨_,e2⟩
  ·exact⟨o',p.keep b o' e1 (λz=>by
    rcases hfs b z with z|z
    ·rw[z,hL]at q;cases q
    ·exact c z) (λz=>by rw[z,ne]at q;cases q) λz=>by rw[nt b z]at q;cases q⟩
 tups:=u.tups
 frzs:=u.frzs
 tbls:=u.tbls
end
section
variable {P:Program}{w:World}{K:PySem.W.Frag}{mg:Str->Option Value}{base:Heap}{N:List Str}{qual:Str}{scope:Scope}{f:Addr}{cd:Value}{A:Around}{outer:List Env}{s0:Shared}{H0:Hp}{E:XK}{CX:CXT}
theorem aT4 {pins:List (Addr×Obj)}{σ:St}{H:Hp}{s':Shared}{a C:Addr}{o:Option Addr}(I:Inv (jO (CXr P w base) P w K mg base N qual scope f cd A outer s0 H0 E) pins σ H s')(F:Fly base (envOfC qual scope s0.heap.objs.size f cd::outer) a C H s'.heap)(nw:sF s0.heap a s'.heap)(xa:XAt s'.heap a o)(hE:E (.ref C) o H) :
  (jO (CXr P w base) P w K mg base N qual scope f cd A outer s0 H0 E).xe (.ref a) s':=by
 obtain⟨⟨a0,fl⟩,he,ht⟩:=F;have fr:(A.deeper (envOfC qual scope s0.heap.objs.size f cd)).frames=some (envOfC qual scope s0.heap.objs.size f cd::outer):=I.ok.frames;have sf: ∀b∈frs (envOfC qual scope s0.heap.objs.size f cd::outer),H b=none:=I.stkFree;have fm: ∀b∈frs (envOfC qual scope s0.heap.objs.size f cd::outer),b=s0.heap.objs.size\/b∈frs outer:=λb hb=>by
  unfold frs at hb⊢;rw[filterMap_cons]at hb;have e:(envOfC qual scope s0.heap.objs.size f cd).frame=some s0.heap.objs.size:=rfl;rw[e]at hb;exact List.mem_cons.mp hb
 show wpAny _ _ (leaving _ (.ref a)) _ _ s'
 refine aM1 fr (L:=s0.heap.objs.size) rfl fl λh' fl' p=> ?_
 have hd: ∀b∈frs outer,∀o,s'.heap.get? b=some o-> ∀vs,o.data≠ .fields vs:=λb hb o q=>by
  obtain⟨_,o',q',n⟩:=fl.2.2.1.mem (b:=b) (by
   unfold frs at hb;rw[filterMap_cons];have e:(envOfC qual scope s0.heap.objs.size f cd).frame=some s0.heap.objs.size:=rfl;rw[e];exact List.mem_cons.mpr (.inr hb))
  rw[q]at q';cases q';exact n
 have un:Un (frs outer) [] H0 H s0.heap h':=I.base.past p fm (get?_none_of_le (le_refl _)) nw.he nw.ht hd;refine⟨a,C,o,H,rfl,I.os,I.bare,un,I.hok.past p sf he ht,⟨⟨a0,fl'⟩,he,qH I.hok p sf he ht⟩,⟨nw.he,λT q=> ?_⟩,xa.dk p.dk,hE⟩
 rcases p.tr T q with z|z|z|z
 ·rcases fm T z with z|z
  ·rw[z];exact get?_none_of_le (le_refl _)
  ·exfalso
   obtain⟨o,vs,q1,q2⟩:=p.rcd T q;obtain⟨_,o',q',n⟩:=fl'.2.2.1.mem (b:=T) z;rw[q1]at q';cases q';exact n vs q2
 ·rw[z];exact nw.he
 ·exact nw.ht T z
 ·cases r:s0.heap.get? T with
  | none=>rfl
  | some o=>
   obtain⟨o',q'⟩:=I.base.there T o r (show T ∉ ([]:List Addr)by simp)
   rw[z]at q';cases q'
theorem passX:jN (CXr P w base) (jO (CXr P w base) P w K mg base N qual scope f cd A outer s0 H0 E) E:=by
 rintro pins σ H s e s' I ⟨a,C,o,H',rfl,ho,hb,un,hok,F,nw,xa,hE⟩;have I':=I.call' (s':=s') ho un hok hb (λb z=>absurd z (by simp))
 refine aT4 I' F ⟨?_,λT q=> ?_⟩ xa hE
 ·cases r:s0.heap.get? a with
  | none=>rfl
  | some o=>
   obtain⟨o',q'⟩:=I.base.there a o r (show a ∉ ([]:List Addr)by simp)
   rw[nw.he]at q';cases q'
 ·have:=nw.ht T q;cases r:s0.heap.get? T with
  | none=>rfl
  | some o=>
   obtain⟨o',q'⟩:=I.base.there T o r (show T ∉ ([]:List Addr)by simp)
   rw[this]at q';cases q'
end
structure XCls (h:Heap)(C:Addr)(bmB bm:List Value)(newId:String):Prop where
 ex: ∃(nm q:Str) (N:Addr) (bs:List Value) (hd:Bool) (sn:List Str) (sub:List Value) (ab:Bool) (col:Option Bool) (dd:Option Addr) (k0 k1 k2 k3 k5:Option Value) (mN:Str->Option Value),
  h.get? C=some (excClassObj nm q C N bs bm hd sn sub ab col dd k0 k1 k2 k3 k5 newId)/\h.Ns N mN/\mN "__init__"=none
 tl:OwnTail h bmB bm
theorem a05 {K:PySem.W.Frag}{h:Heap}{C:Addr}{bmB:List Value}{newId:String}(X:K.In h)(q:excIn K C bmB newId=true): ∃bm,XCls h C bmB bm newId:=by
 unfold excIn at q;split at q
 ·rename_i od ck slots look
  split at q
  ·rename_i C2 tail a0 a1 a2 a3 nid a5 em es
   simp only[and_eq_true,beq_iff_eq,Bool.not_eq_true']at q;obtain⟨⟨⟨⟨⟨rfl,rfl⟩,nodel⟩,tk⟩,nk⟩,ni⟩:=q;obtain⟨c1,c2,c3,c4,c5,c6,c7,c8,c9,c10,c11⟩:=ck;dsimp only at em nodel nk ni;subst em nodel;obtain⟨sll⟩:=slots;simp only at es;subst es;exact⟨tail,⟨⟨_,_,_,_,_,_,_,_,_,_,_,_,_,_,_,_,X _ _ look,.of_isNs (PySem.W.isNs_of_in X nk),PySem.W.nsMap_none_of_in X nk ni⟩,PySem.W.tail_of_in X tk⟩⟩
  ·cases q
 ·cases q
section
variable {X:Cx}{E:XK}{C:Addr}
def aD6 (X:Cx)(E:XK)(C:Addr):Prop:= ∀(pins:List (Addr×Obj)) (σ:St) (H:Hp) (s:Shared) (a:Addr) (oe:Obj) (vs:Array Value) (a0:Value) (o:Option Addr),Inv X pins σ H s->s.heap.get? a=some oe->oe.cls= .ref C->oe.data= .fields vs->vs[0]? =some a0->vs[1]? =some .none->H a=none->X.s₀.heap.get? a=none->XAt s.heap a o->E (.ref C) o H->X.xe (.ref a) s
theorem aD7 {P:Program}{w:World}{K:PySem.W.Frag}{mg:Str->Option Value}{base:Heap}{N:List Str}{qual:Str}{scope:Scope}{f:Addr}{cd:Value}{A:Around}{outer:List Env}{s0:Shared}{H0:Hp} :
  aD6 (jO (CXr P w base) P w K mg base N qual scope f cd A outer s0 H0 E) E C:=by
 intro pins σ H s a oe vs a0 o I he hc hd h0 h1 nH n0 xa hE;have fr:(A.deeper (envOfC qual scope s0.heap.objs.size f cd)).frames=some (envOfC qual scope s0.heap.objs.size f cd::outer):=I.ok.frames;have sf: ∀b∈frs (envOfC qual scope s0.heap.objs.size f cd::outer),H b=none:=I.stkFree;have fl0:s.heap.FunFrames base (envOfC qual scope s0.heap.objs.size f cd::outer):=I.stack
 have fe:(envOfC qual scope s0.heap.objs.size f cd).frame=some s0.heap.objs.size:=rfl;have fm: ∀b∈frs (envOfC qual scope s0.heap.objs.size f cd::outer),b=s0.heap.objs.size\/b∈frs outer:=λb hb=>by
  unfold frs at hb⊢;rw[filterMap_cons,fe]at hb;exact List.mem_cons.mp hb
 have nt: ∀T,¬Tr s.heap a T:=by
  rintro T ⟨o,ws,k1,k2,k3⟩;rw[he]at k1;cases k1;rw[hd]at k2;cases k2;rw[h1]at k3;cases k3
 have nb:base.get? a=none:=by
  cases q:base.get? a with
  | none=>rfl
  | some o=>rw[(I.ok.bs a o q).1]at n0;cases n0
 have st:base.StaysIn s.heap:=I.bk;show wpAny _ _ (leaving _ (.ref a)) _ _ s;refine a74 fr fl0 (L:=s0.heap.objs.size) rfl he st nb hd h1 h0 λh' fl' p=> ?_
 rw[hc]at fl';have hdf: ∀b∈frs outer,∀o,s.heap.get? b=some o-> ∀vs,o.data≠ .fields vs:=λb hb o q=>by
  obtain⟨_,o',q',n⟩:=fl0.mem (b:=b) (by
   unfold frs at hb;rw[filterMap_cons,fe];exact List.mem_cons.mpr (.inr hb))
  rw[q]at q';cases q';exact n
 have un:Un (frs outer) [] H0 H s0.heap h':=I.base.past p fm (get?_none_of_le (le_refl _)) n0 (λT q=>absurd q (nt T)) hdf
 have ht: ∀T,Tr s.heap a T->H T=none:=λT q=>absurd q (nt T)
 refine⟨a,C,o,H,rfl,I.os,I.bare,un,I.hok.past p sf nH ht,⟨⟨a0,fl'⟩,nH,qH I.hok p sf nH ht⟩,⟨n0,λT q=> ?_⟩,xa.dk p.dk,hE⟩
 rcases p.tr T q with z|z|z|z
 ·rcases fm T z with z|z
  ·rw[z];exact get?_none_of_le (le_refl _)
  ·exfalso
   obtain⟨o,ws,q1,q2⟩:=p.rcd T q;obtain⟨_,o',q',n⟩:=fl'.2.2.1.mem (b:=T) z;rw[q1]at q';cases q';exact n ws q2
 ·rw[z];exact n0
 ·exact absurd z (nt T)
 ·cases r:s0.heap.get? T with
  | none=>rfl
  | some o=>
   obtain⟨o',q'⟩:=I.base.there T o r (show T ∉ ([]:List Addr)by simp)
   rw[z]at q';cases q'
def aT5 (C:Addr)(E:XK)(ta:TA):TS:=λ_ σ H=>ta σ H λvs H1=>vs.length<=sizeLine/\E (.ref C) none H1
theorem aT6 {x:Str}{np cpos pos:Pos}{e:Expr}{es:List Expr}{ta:TA}{B newId initId:String}{bmB:List Value}(FB:ExcBaseFacts B newId initId bmB)(q:excIn X.K C bmB newId=true)(hg:Gl X x)(hm:X.mg x=some (.ref C))(hc:X.calm=true)(ha:PA X (e::es) ta)(th:aD6 X E C)
  (he:starEach (e::es) X.env=(false,eval e X.env)::starEach es X.env:=by rfl) (hpl:(backTo cpos (starEach es X.env)).any (·.1)=false:=by rfl) (hd:(x==("__debug__":Str))=false:=by decide) (hex:X.ex=[]:=by rfl) :
  PS X (.Raise (some (.Call (.Name x np) (e::es) [] cpos)) none pos) (aT5 C E ta):=by
 intro pins s σ H D I h;obtain⟨bm,⟨⟨nm,qn,N,bs,hdd,sn,sub,ab,col,dd,k0,k1,k2,k3,k5,mN,hC,hN,hni⟩,tl⟩⟩:=a05 I.mod.kin q;have keepS: ∀{pins:List (Addr×Obj)} {σ:St} {H:Hp} {s2:Shared},Inv X pins σ H s2-> ∀b o,X.base.get? b=some o->s2.heap.get? b=some o:=λJ=>J.bk
 refine wpAny_Raise_call_subT (C:=C) (nm:=nm) (q:=qn) (N:=N) (bs:=bs) (bm:=bm) (hdct:=hdd) (sn:=sn) (sub:=sub) (ab:=ab) (col:=col) (dd:=dd) (k0:=k0) (k1:=k1) (k2:=k2) (k3:=k3) (k5:=k5) FB (mN:=mN) (tl.hasType FB.hasBase) (I.ok.hd hc) ?_ hni (qC I hg hm ⟨rfl,?_⟩ hd)
 ·rw[he];show(false||(backTo cpos (starEach es X.env)).any (·.1))=false;rw[hpl];rfl
 ·have hh:=ha cpos pins s σ H _ I h;rw[he]at hh⊢;refine Calls.evalArgs_plain (wpAny_mono hh (λus s2 ⟨vs,H1,I1,r1,q1⟩=>⟨rfl,by rw[<-r1.length];exact q1.1,keepS I1 _ _ hC,hN.keeps (keepS I1),tl.keeps (keepS I1),λh' a mk=> ?_⟩) λ_ _ y=>y)
  obtain⟨t,m1,m2,m3⟩:=mk.there;have I2:Inv X pins σ H1 {s2 with heap:=h'}:=I1.kept mk.keeps;refine th pins σ H1 _ a _ _ (.ref t) none I2 m1 rfl rfl rfl rfl (I1.hok.there mk.new) ?_ (λd z=>by cases z) q1.2
  cases r:X.s₀.heap.get? a with
  | none=>rfl
  | some o=>
   obtain⟨o',q'⟩:=I1.base.there a o r (by rw[hex];simp)
   rw[mk.new]at q';cases q'
end
section
variable {prog:Program}{w:World}{A:Around}{E:Value->Shared->Prop}{hp:Heap}{gn:Array GenState}{dr:Drawn}{tn:Nat}{os:OsState}
variable {nm qn:Str}{C N:Addr}{bs bm bmB:List Value}{hdd:Bool}{sn:List Str}{sub:List Value}{ab:Bool}{col:Option Bool}{dd:Option Addr}{k0 k1 k2 k3 k5:Option Value}{B newId initId:String}
end
end L2
end
section
namespace L2
open PySem PySem.Spec PyProof.Rows
open Builtin Builtin.ObjectAttr
end L2
end
section
namespace L2
open PySem PySem.Spec PyProof.Rows
def yX (K:PySem.W.Frag)(C fI:Addr)(bmB:List Value)(newId:String):Bool:=match K.lookup C with
 | some ⟨.type "type",_,.cls ck,sl⟩=>(match ck.mro,sl.toList with
  | .ref C2::tail,[_,_,_,_,some (.builtin nid),_]=>C2==C&&nid==newId&& !ck.hasDel&&PySem.W.tailIn K bmB tail&&PySem.W.nsOkIn K ck.ns&&nsIn K ck.ns "__init__"==some (some (.ref fI))
  | _,_=>false)
 | _=>false
theorem b36 {K:PySem.W.Frag}{h:Heap}{N:Addr}{mg:Str->Option Value}{n:Str}{v:Value}(X:K.In h)(G:h.Ns N mg)(e:nsIn K N n=some (some v)):mg n=some v:=by
 obtain⟨ob,ents,np,look0,dat,_,find0⟩:=G;unfold nsIn at e;split at e
 ·rename_i look
  have same:=X _ _ look;rw[look0]at same;cases same;cases dat;split at e
  ·rename_i en found
   cases e;rw[<-find0];unfold nsFind findBy;rw[<-Array.find?_toList,found];rfl
  ·split at e<;>cases e
 ·cases e
structure XClsI (h:Heap)(C fI:Addr)(bmB bm:List Value)(newId:String):Prop where
 ex: ∃(nm q:Str) (N:Addr) (bs:List Value) (hd:Bool) (sn:List Str) (sub:List Value) (ab:Bool) (col:Option Bool) (dd:Option Addr) (k0 k1 k2 k3 k5:Option Value) (mN:Str->Option Value),
  h.get? C=some (excClassObj nm q C N bs bm hd sn sub ab col dd k0 k1 k2 k3 k5 newId)/\h.Ns N mN/\mN "__init__"=some (.ref fI)
 tl:OwnTail h bmB bm
theorem a75 {K:PySem.W.Frag}{h:Heap}{C fI:Addr}{bmB:List Value}{newId:String}(X:K.In h)(q:yX K C fI bmB newId=true): ∃bm,XClsI h C fI bmB bm newId:=by
 unfold yX at q;split at q
 ·rename_i od ck slots look
  split at q
  ·rename_i C2 tail a0 a1 a2 a3 nid a5 em es
   simp only[and_eq_true,beq_iff_eq,Bool.not_eq_true']at q;obtain⟨⟨⟨⟨⟨rfl,rfl⟩,nodel⟩,tk⟩,nk⟩,ni⟩:=q;obtain⟨c1,c2,c3,c4,c5,c6,c7,c8,c9,c10,c11⟩:=ck;dsimp only at em nodel nk ni;subst em nodel;obtain⟨sll⟩:=slots;simp only at es;subst es;have nsk:h.Ns c4 (h.nsMap c4):= .of_isNs (PySem.W.isNs_of_in X nk)
   exact⟨tail,⟨⟨_,_,_,_,_,_,_,_,_,_,_,_,_,_,_,_,X _ _ look,nsk,b36 X nsk ni⟩,PySem.W.tail_of_in X tk⟩⟩
  ·cases q
 ·cases q
section
variable {M:Model}{A:Around}{E:Value->Shared->Prop}{s:Shared}{env:Env}
variable {nm qn:Str}{C N:Addr}{bs bm:List Value}{hdd:Bool}{sn:List Str}{sub:List Value}{ab:Bool}{col:Option Bool}{dd:Option Addr}{k0 k1 k2 k3 k5:Option Value}{newId:String}
end
end L2
end
section
namespace M
open PySem PySem.Spec PyProof.Rows L2
abbrev XP:=Str->List D->Prop
abbrev ΦX:=List D->(B->Prop)->XP->Prop
def qT (n:Str):List Str:=if n="FallsApart" then ["left","right"]else if n="NotWhole" then ["prime","number"]else []
def XR (K:PySem.W.Frag)(A:AS)(H:Hp)(n:Str)(ds:List D):Option Addr->Prop
 | none=>qT n=[]
 | some d=> ∃vs,¬A d/\H d=some (.xd ((qT n).zip vs))/\(qT n).length=vs.length/\aN K A H ds vs
theorem XR.mono {K:PySem.W.Frag}{A A':AS}{H H':Hp}{n:Str}{ds:List D}(p:fG A H A' H'): ∀{o:Option Addr},XR K A H n ds o->XR K A' H' n ds o
 | none,h=>h
 | some d,⟨vs,h1,h2,h3,h4⟩=>⟨vs,(p d _ h1 h2).1,(p d _ h1 h2).2,h3,h4.mono p⟩
def spX (K:PySem.W.Frag)(mg:Str->Option Value)(φ:ΦX):Sp:=λvs H Q E=> ∃A ds Q0 Ex,(∀a,A a->H a≠none)/\aN K A H ds vs/\φ ds Q0 Ex/\(∀b v H',Q0 b->bU H H'->fX K A H H' b v->Q v H')/\ ∀n C es o H',Ex n es->mg n=some (.ref C)->bU H H'->XR K A H' n es o->E (.ref C) o H'
structure FnX (P:Program)(w:World)(K:PySem.W.Frag)(mg:Str->Option Value)(base:Heap)(x:Str)(ps:List Str)(k:Nat)(φ:ΦX):Prop where
 ex: ∃f fd,kI P w K mg base (CXr P w base) k f fd ps (spX K mg φ)/\Binds K fd ps []/\keepIn K (.ref f)=true/\mg x=some (.ref f)
abbrev USX:=XP->US
def lSX (K:PySem.W.Frag)(mg:Str->Option Value)(E:XK)(t:USX):TS:=λD σ H=> ∃C ρ D0 Ex,EOk K C ρ σ H/\t Ex D0 ρ/\DOk K C D0 D/\ ∀n Cl es o H',Ex n es->mg n=some (.ref Cl)->bU C.H0 H'->XR K C.A0 H' n es o->E (.ref Cl) o H'
def aD8 (X:Cx)(E:XK)(st:Stmt)(t:USX):Prop:=PS X st (lSX X.K X.mg E t)
def m7 (X:Cx)(E:XK)(sts:List Stmt)(t:USX):Prop:=PSs X sts (lSX X.K X.mg E t)
section
variable {X:Cx}{E:XK}{st:Stmt}{sts:List Stmt}{t u:USX}{e:Expr}{es:List Expr}{pos:Pos}
theorem sG {t:US}(h:PUS X st t):aD8 X E st (λ_=>t):=qP h λD σ H ⟨C,ρ,D0,Ex,I,h,k,_⟩=>⟨C,ρ,D0,I,h,k⟩
theorem aT7 {t:US}(h:mS X sts t):m7 X E sts (λ_=>t):=vY h λD σ H ⟨C,ρ,D0,Ex,I,h,k,_⟩=>⟨C,ρ,D0,I,h,k⟩
theorem n6 (h1:aD8 X E st t)(h2:m7 X E sts u):m7 X E (st::sts) (λEx=>aL (t Ex) (u Ex)):=
 vY (a53 h1 h2) λD σ H ⟨C,ρ,D0,Ex,I,h,k,kx⟩=>⟨C,ρ,{D0 with nx:=u Ex D0},Ex,I,h,⟨λρ' σ' H' q I'=>⟨C,ρ',D0,Ex,I',q,k,kx⟩,k.rt,k.bk,k.ct⟩,kx⟩
theorem oY (h1:aD8 X E st t):m7 X E [st] t:=aF9 h1
theorem a06:m7 X E [] (λ_=>bF):=aT7 b8
theorem aH6 {c:Expr}{a b:List Stmt}{tc:UT}(hc:PUT X c tc)(ha:m7 X E a t)(hb:m7 X E b u):aD8 X E (.If c a b pos) (λEx=>cH tc (t Ex) (u Ex)):=
 qP (b78 hc ha hb) λD σ H ⟨C,ρ,D0,Ex,I,h,k,kx⟩=>⟨C,ρ,_,I,h,λc ρ1 H1 q f s=>by
  have I1:=(I.frz f).same s;cases c with
  | true=>
   dsimp only at q⊢;rw[if_pos rfl]at q⊢;exact⟨C,ρ1,D0,Ex,I1,q,k,kx⟩
  | false=>
   dsimp only at q⊢;rw[if_neg (by decide)]at q⊢
   exact⟨C,ρ1,D0,Ex,I1,q,k,kx⟩⟩
def n8 (φ:ΦX)(t:UA)(Ex:XP):UE:=λρ Q=>t ρ λds ρ1=>φ ds (λb=>Q b ρ1) Ex
theorem aT8 {φ:ΦX}{C:C0}{ρ ρ1:Ev}{σ:L2.St}{H H1:Hp}{ds:List D}{vs:List V}{Q0:B->Prop}{Ex:XP}{Q:VK}(I:EOk X.K C ρ σ H)(f:Frz ρ ρ1)(s:bU H H1)(r:aN X.K (Av C ρ1 σ) H1 ds vs)(q:φ ds Q0 Ex)(kq: ∀b v H',Q0 b->bU H1 H'->fX X.K (Av C ρ1 σ) H1 H' b v->Q v H')(kx: ∀n Cl es o H',Ex n es->X.mg n=some (.ref Cl)->bU C.H0 H'->XR X.K C.A0 H' n es o->E (.ref Cl) o H'):spX X.K X.mg φ (vs++[]) H1 Q E:=by
 have I1:=(I.frz f).same s;rw[append_nil];exact⟨Av C ρ1 σ,ds,Q0,Ex,λa z=>I1.avSome z,r,q,kq,λn Cl es o H' ex hm s' x=>kx n Cl es o H' ex hm (I1.ext.trans s') (x.mono (.sub (.refl _) λa z=> .inl z))⟩
def tD (x:Str)(t:UA)(Ex:XP):US:=λ_ ρ=>t ρ λds _=>ds.length<=sizeLine/\Ex x []
theorem lRaise {x:Str}{C:Addr}{t:UA}(hm:X.mg x=some (.ref C))(hk:qT x=[])(D:rF)(σ:L2.St)(H:Hp)(h:lSX X.K X.mg E (λEx=>tD x t Ex) D σ H):aT5 C E (lA X.K t) D σ H:=by
 obtain⟨C0,ρ,D0,Ex,I,h,k,kx⟩:=h;exact⟨C0,ρ,_,I,h,λds ρ1 vs H1 q f s r=>⟨by rw[<-r.length];exact q.1,kx x C [] none H1 q.2 hm (I.ext.trans s) hk⟩⟩
def b37 (x:Str)(t1 t2:UE)(Ex:XP):US:=λ_ ρ=>t1 ρ λa ρ1=>t2 ρ1 λb _=>Ex x [a.d,b.d]
theorem wK {C:Addr}{x:Str}{np cpos:Pos}{t:UA}{B newId initId:String}{bmB:List Value}(FB:ExcBaseFacts B newId initId bmB)(q:excIn X.K C bmB newId=true)(hg:Gl X x)(hm:X.mg x=some (.ref C))(hc:X.calm=true)(ha:PUA X (e::es) t)(th:aD6 X E C)(hk:qT x=[])
  (he:starEach (e::es) X.env=(false,eval e X.env)::starEach es X.env:=by rfl) (hpl:(backTo cpos (starEach es X.env)).any (·.1)=false:=by rfl) (hd:(x==("__debug__":Str))=false:=by decide) (hex:X.ex=[]:=by rfl) :
  aD8 X E (.Raise (some (.Call (.Name x np) (e::es) [] cpos)) none pos) (λEx=>tD x t Ex):=qP (aT6 FB q hg hm hc ha th he hpl hd hex) (lRaise hm hk)
theorem aT9 {P:Program}{w:World}{K:PySem.W.Frag}{mg:Str->Option Value}{base:Heap}{x qual:Str}{st:Stmt}{f:Addr}{fd:FuncData}{N ps:List Str}{k:Nat}{φ:ΦX}(F:Fun K x qual st f fd)(S:aS N ps (a9 st))
  (len: ∀ds Q Ex,φ ds Q Ex->ds.length=ps.length) {t:USX}
  (der: ∀(cdv:Value) (A:Around) (outer:List Env) (s:Shared) (H:Hp) (E:XK),cV k (A.deeper (envOfC qual (a9 st) s.heap.objs.size f cdv))->m7 (jO (CXr P w base) P w K mg base N qual (a9 st) f cdv A outer s H E) E (bY st) t)
  (rd: ∀ds Q Ex,φ ds Q Ex->t Ex {nx:=λ_=>Q (.pu .non),rt:=Q} (init N ds)) :
  kI P w K mg base (CXr P w base) (k+1) f fd ps (spX K mg φ):=by
 obtain⟨oc,od,kV,doc,pm,an,cdv,ct,osl,rfl,lk,hcd⟩:=F.ex;refine b80 lk hcd S (λvs H Q E h=> ?_) λA outer s H vs Q E hr h=> ?_
 ·obtain⟨A,ds,Q0,Ex,_,r,h,_⟩:=h;rw[<-r.length];exact len ds Q0 Ex h
 ·obtain⟨A',ds,Q0,Ex,hA,r,h,q,qx⟩:=h;refine⟨_,der cdv A outer s H E hr,⟨H,A'⟩,init N ds,_,Ex,aH1 hA r,rd ds Q0 Ex h,⟨λρ σ H' z I=> ?_,λb v H' z s r=>q b v H' z s r,λ_ _ _ z=>z.elim,λ_ _ _ z=>z.elim⟩,qx⟩
  exact q _ _ H' z I.ext (show Rep _ _ _ _ _ by simp only[Rep])
theorem FnX.mk' {P:Program}{w:World}{K:PySem.W.Frag}{mg:Str->Option Value}{base:Heap}{x qual:Str}{st:Stmt}{f:Addr}{fd:FuncData}{N ps:List Str}{k:Nat}{φ:ΦX}(F:Fun K x qual st f fd)(m:mg x=some (.ref f))(b:Binds K fd ps [])(S:aS N ps (a9 st))
  (len: ∀ds Q Ex,φ ds Q Ex->ds.length=ps.length) {t:USX}
  (der: ∀(cdv:Value) (A:Around) (outer:List Env) (s:Shared) (H:Hp) (E:XK),cV k (A.deeper (envOfC qual (a9 st) s.heap.objs.size f cdv))->m7 (jO (CXr P w base) P w K mg base N qual (a9 st) f cdv A outer s H E) E (bY st) t)
  (rd: ∀ds Q Ex,φ ds Q Ex->t Ex {nx:=λ_=>Q (.pu .non),rt:=Q} (init N ds)):FnX P w K mg base x ps (k+1) φ:=
 ⟨f,fd,aT9 F S len der rd,b,F.kp,m⟩
end
end M
end
section
namespace L2
open PySem PySem.Spec PyProof.Rows
section
variable {X:Cx}{pins:List (Addr×Obj)}{σ:St}{H:Hp}{s:Shared}{h':Heap}{e:Addr}
theorem Inv.past {g:Heap}(I:Inv X pins σ H s)(p:uT (frs X.stack) e s.heap h')(hstk:X.stack=X.env::X.outer)(hfr:X.env.frame=some X.env.locals)(hex:X.ex=[])(gs: ∀b o,X.s₀.heap.get? b=some o-> ∃o',g.get? b=some o')(gp: ∀q∈X.pn++pins,∃o',g.get? q.1=some o')(ne:g.get? e=none)(nt: ∀T,Tr s.heap e T->g.get? T=none)(he:H e=none)(ht: ∀T,Tr s.heap e T->H T=none):Inv X pins σ H {s with heap:=h'}:=by
 have none0: ∀b,g.get? b=none->X.s₀.heap.get? b=none:=λb q=>by
  cases r:X.s₀.heap.get? b with
  | none=>rfl
  | some o=>obtain⟨o',q'⟩:=gs b o r;rw[q]at q';cases q'
 have fm: ∀b∈frs X.stack,b=X.env.locals\/b∈X.fs:=λb hb=>by
  rw[hstk]at hb;unfold Cx.fs;unfold frs at hb⊢;rw[filterMap_cons,hfr]at hb;exact List.mem_cons.mp hb
 have hL:X.s₀.heap.get? X.env.locals=none:=get?_none_of_le I.ok.above;have hd: ∀b∈X.fs,∀o,s.heap.get? b=some o-> ∀vs,o.data≠ .fields vs:=λb hb o q=>by
  have fl:=I.stack;rw[hstk]at fl;obtain⟨_,o',q',n⟩:=fl.mem (b:=b) (by
   unfold Cx.fs frs at hb;rw[filterMap_cons,hfr];exact List.mem_cons.mpr (.inr hb))
  rw[q]at q';cases q';exact n
 have hb0:=I.base;rw[hex]at hb0;have un:=hb0.past p fm hL (none0 e ne) (λT q=>none0 T (nt T q)) hd
 have cellS: ∀c v,s.heap.IsCell c v->h'.IsCell c v:=λc v ⟨o,q1,q2⟩=>by
  obtain⟨sl,q3⟩:=p.slot c o q1 (λvs z=>by rw[q2]at z;cases z)
  exact⟨_,q3,q2⟩
 refine⟨I.ok,I.os,I.bare,by rw[hex];exact un,?_,λx c q=> ?_,I.free,I.freeC,λq hq=> ?_,I.hok.past p I.stkFree he ht,I.len⟩
 ·obtain⟨m,hn,hl⟩:=I.loc;refine⟨m,p.slot.ns hn,λi x v a b c=> ?_⟩
  obtain⟨u,r,lo⟩:=hl i x v a b c;refine⟨u,r,?_⟩;rcases lo with z| ⟨z1,c,z2,z3⟩
  ·exact .inl z
  ·exact .inr ⟨z1,c,z2,cellS c _ z3⟩
 ·obtain⟨v,z⟩:=I.cell x c q;exact⟨v,cellS c v z⟩
 ·obtain⟨z1,z2,z3,z4,z5⟩:=I.pin q hq;obtain⟨o',g1⟩:=gp q hq;refine⟨p.keep q.1 q.2 z1 (λz=> ?_) (λz=>by rw[z,ne]at g1;cases g1) (λz=>by rw[nt _ z]at g1;cases g1),z2,z3,z4,z5⟩
  rcases fm _ z with y|y
  ·exact z3 y
  ·exact z4 y
end
abbrev Cx.inX (X:Cx)(e:Addr):Cx:={X with A:=X.A.mark (some (.ref e)),calm:=false,xe:=λ_ _=>False}
theorem Cx.Ok.inX {X:Cx}(ok:X.Ok)(e:Addr):(X.inX e).Ok:=
 ⟨ok.mod,ok.kind,ok.glob,ok.blt,ok.above,ok.inj,ok.has,ok.cab,(λz=>by cases z),ok.frames,ok.stk,ok.exf,ok.bs,ok.bsz,ok.noex,ok.exfs,ok.funs,ok.frf⟩
section
variable {X:Cx}{pins:List (Addr×Obj)}{σ:St}{H:Hp}{s:Shared}{e:Addr}
theorem Inv.inX (I:Inv X pins σ H s)(e:Addr):Inv (X.inX e) pins σ H s:=⟨I.ok.inX e,I.os,I.bare,I.base,I.loc,I.cell,I.free,I.freeC,I.pin,I.hok,I.len⟩
theorem Cx.Ok.outX {X:Cx}{Y:Cx}(okY:Y.Ok){e:Addr}(ok:(X.inX e).Ok)(hd:X.calm=true->X.A.handled=none):X.Ok:=
 ⟨ok.mod,ok.kind,ok.glob,ok.blt,ok.above,ok.inj,ok.has,ok.cab,hd,ok.frames,ok.stk,ok.exf,ok.bs,ok.bsz,ok.noex,ok.exfs,ok.funs,ok.frf⟩
theorem Inv.outX (I:Inv (X.inX e) pins σ H s)(hd:X.calm=true->X.A.handled=none):Inv X pins σ H s:=⟨I.ok.outX I.ok hd,I.os,I.bare,I.base,I.loc,I.cell,I.free,I.freeC,I.pin,I.hok,I.len⟩
theorem SP.outX {D:rF}{f:Flow}{s':Shared}(h:SP (X.inX e) pins D f s')(hd:X.calm=true->X.A.handled=none):SP X pins D f s':=by
 cases f with
 | next=>obtain⟨σ',H',I,q⟩:=h;exact⟨σ',H',I.outX hd,q⟩
 | brk=>obtain⟨σ',H',I,q⟩:=h;exact⟨σ',H',I.outX hd,q⟩
 | cont=>obtain⟨σ',H',I,q⟩:=h;exact⟨σ',H',I.outX hd,q⟩
 | ret u=>obtain⟨v,σ',H',I,r,q⟩:=h;exact⟨v,σ',H',I.outX hd,r,q⟩
end
theorem sF.past {g h h':Heap}{fs:List Addr}{e:Addr}(n:sF g e h)(p:uT fs e h h')(gh: ∀b o,g.get? b=some o-> ∃o',h.get? b=some o')(hf: ∀b∈fs,∀o,h'.get? b=some o-> ∀vs,o.data≠ .fields vs):sF g e h':=by
 refine⟨n.he,λT q=> ?_⟩
 rcases p.tr T q with z|z|z|z
 ·obtain⟨o,vs,q1,q2⟩:=p.rcd T q;exact absurd q2 (hf T z o q1 vs)
 ·rw[z];exact n.he
 ·exact n.ht T z
 ·cases r:g.get? T with
  | none=>rfl
  | some o=>obtain⟨o',q'⟩:=gh T o r;rw[z]at q';cases q'
theorem wL {g h h':Heap}{fs:List Addr}{e:Addr}(n:sF g e h)(p:uT fs e h h')(gh: ∀b o,g.get? b=some o-> ∃o',h.get? b=some o')(hf: ∀b∈fs,∀o,h.get? b=some o-> ∀vs,o.data≠ .fields vs): ∀b o,g.get? b=some o-> ∃o',h'.get? b=some o':=λb o q=>by
 obtain⟨o',q'⟩:=gh b o q
 by_cases c:b∈fs
 ·obtain⟨sl,z⟩:=p.slot b o' q' (hf b c o' q');exact⟨_,z⟩
 ·exact⟨o',p.keep b o' q' c (λz=>by rw[z,n.he]at q;cases q) λz=>by rw[n.ht b z]at q;cases q⟩
theorem b38 {h base:Heap}{l:List Env}(f:h.FunFrames base l): ∀b∈frs l,∀o,h.get? b=some o-> ∀vs,o.data≠ .fields vs:=λb hb o q=>by
 obtain⟨_,o',q',n⟩:=f.mem (b:=b) hb;rw[q]at q';cases q';exact n
def sH (CX:CXT)(X:Cx)(E:XK)(pins:List (Addr×Obj))(σ:St):Prop:= ∀(H:Hp) (s:Shared) (e:Value) (s':Shared),Inv X pins σ H s->CX X.stack H s E e s'->X.xe e s'
def tE (K:PySem.W.Frag)(R C:Addr)(bmB:List Value)(newId:String):Prop:=(excIn K C bmB newId=true\/ ∃fI,yX K C fI bmB newId=true)/\ ∃cd,PySem.W.clsIn K C=some cd/\cd.mro.contains (.ref R)=true
end L2
end
section
namespace L2
open PySem PySem.Spec PyProof.Rows
end L2
namespace M
open PySem PySem.Spec PyProof.Rows L2
section
variable {X:Cx}{e:Expr}{es:List Expr}{pos:Pos}{te:UE}{K:PySem.W.Frag}{A:AS}{H:Hp}
theorem aN.field {f:Str}{d:D}: ∀{ks:List Str} {l:List D} {vs:List V},aN K A H l vs->(ks.zip l).lookup f=some d-> ∃v,(ks.zip vs).lookup f=some v/\Rep K A H d v/\f∈ks
 | [],_,_,_,h=>by simp at h
 | _::_,[],_,_,h=>by simp at h
 | q::ks,a::l,vs,r,h=>by
  obtain⟨v,vr,rfl,r1,r2⟩:=r.uncons;rw[List.zip_cons_cons,lookup_cons]at h;rw[List.zip_cons_cons,lookup_cons];cases c:f==q with
  | true=>
   rw[c]at h;cases h;exact⟨v,rfl,r1,by rw[beq_iff_eq.mp c];simp⟩
  | false=>
   rw[c]at h;obtain⟨w,h1,h2,h3⟩:=aN.field r2 h;exact⟨w,h1,h2,mem_cons_of_mem _ h3⟩
end
end M
end
section
namespace M
open PySem PySem.Spec PyProof.Rows L2
section
variable {P:Program}{w:World}{K:PySem.W.Frag}{mg:Str->Option Value}{base:Heap}
theorem aM2 {R C:Addr}{bmB:List Value}{newId:String}{cd:ClassData}(h:excIn K C bmB newId=true\/ ∃fI,yX K C fI bmB newId=true)(hc:PySem.W.clsIn K C=some cd)(hm:cd.mro.contains (.ref R)=true):tE K R C bmB newId:=⟨h,cd,hc,hm⟩
theorem Fn.mkA {x y qual:Str}{st:Stmt}{f:Addr}{fd:FuncData}{N ps:List Str}{k:Nat}{φ:Φ}(F:Fun K y qual st f fd)(m:mg x=some (.ref f))(b:Binds K fd ps [])(S:aS N ps (a9 st))
  (len: ∀ds Q,φ ds Q->ds.length=ps.length) {t:US}
  (der: ∀(cdv:Value) (A:Around) (outer:List Env) (s:Shared) (H:Hp) (E:XK),cV k (A.deeper (envOfC qual (a9 st) s.heap.objs.size f cdv))->mS (jO CX0 P w K mg base N qual (a9 st) f cdv A outer s H E).nox (bY st) t)
  (rd: ∀ds Q,φ ds Q->t {nx:=λ_=>Q (.pu .non),rt:=Q} (init N ds)):Fn P w K mg base x ps (k+1) φ:=
 ⟨f,fd,zW F S len λcdv A outer s H E hr=>⟨t,der cdv A outer s H E hr,rd⟩,b,F.kp,m⟩
end
end M
end
section
namespace L2
open PySem PySem.Spec PySem.W PySem.Calls PyProof.Rows Builtin Builtin.ObjectAttr Builtin.Getset_descriptor
section
variable {prog:Program}{w:World}{A:Around}{E:Value->Shared->Prop}{s:Shared}{K:Frag}{x D:Addr}{ox:Obj}{a g:Value}{name:Str}
theorem aH7 {M:Model}{h:Heap}(hx:h.get? x=some ox)(hc:ox.cls= .ref D):Looks M h (typeOf (.ref x)) (.ref D):=by
 rw[<-hc];exact(Looks.ld hx).andThen .now
theorem b39 {M:Model}{h:Heap}(X:K.In h)(ha:findIn K (.ref D) name=some (some a))(hg:specialIn K a "__get__"=some (some g))(ht:takesIn K a=some true):Looks M h (find (.ref x) (.ref D) name) (.bind g a):=by
 have u3:Looks M h (dataDescriptor? (some a) (some g)) (some (g,a)):=(looks_takesIn X ht).andThen .now;have u2:Looks M h (getOf (some a)) (some g):=looks_specialIn X hg;exact(looks_findIn X ha).andThen (u2.andThen (u3.andThen (Looks.tag .now)))
theorem b40 {Q:Option Value->Shared->Prop}(X:K.In s.heap)(hx:s.heap.get? x=some ox)(hc:ox.cls= .ref D)(hg:findIn K (.ref D) "__getattribute__"=some (some (.builtin "BaseException.__getattribute__")))(hh:findIn K (.ref D) "__getattr__"=some none)(ha:findIn K (.ref D) "__class__"=some (some (.builtin "object.__class__")))
  (hn:specialIn K (.builtin "object.__class__") "__get__"=some (some (.builtin "getset_descriptor.__get__"))) (ht:takesIn K (.builtin "object.__class__")=some true) (hm:mroIn K D (.type "object")=some true) (hb:mroIn K D (.type "BaseException")=some true) (h:Q (some (.ref D)) {s with toks:=s.toks+1}) :
  wpAny (model prog w) A (getAttr? (.ref x) "__class__") Q E s:=by
 obtain⟨hp,gn,dr,tn,os⟩:=s;have v0:=aH7 (M:=model prog w) hx hc;have v1:=looks_findIn (M:=model prog w) X hg;have v2:=b39 (M:=model prog w) (x:=x) X ha hn ht;have v3:=looks_findIn (M:=model prog w) X hh;have v4:=looks_mroIn (M:=model prog w) X hm;have v5:=looks_mroIn (M:=model prog w) X hb
 have v6:Looks (model prog w) hp (bindSpecial (.builtin "BaseException.__getattribute__") (.ref x)) (.builtin "BaseException.__getattribute__",[.ref x]):=Looks.of_pure (PySem.F.excAttr_ValueError.ga.bind (.ref x));unfold getAttr? getAttrBy?;unfold getAttrBy;refine wpAny_bind (wpAny_mkText (wpAny_bind (wpAny_attempt (wpAny_holding (wpAny_bind (v0.at (wpAny_bind (v1.at ?_))))))))
 show wpAny _ _ (getAttrByItsOwn _ _ _ _ _ _) _ _ _
 unfold getAttrByItsOwn hookBefore;refine wpAny_bind (v3.at (wpAny_bind (wpAny_attempt (wpAny_holding ?_))));show wpAny _ _ (boundAndCalled _ _ _) _ _ _;unfold boundAndCalled;refine wpAny_bind (v6.at ?_);have bk:builtinKind "BaseException.__getattribute__"=some .slot:=by decide +kernel
 have hsp:splitId "BaseException.__getattribute__"=some ("BaseException","__getattribute__"):=by decide +kernel
 have har:=F.args_bexc_ga (.ref x) (.str "__class__" tn);refine wpAny_call (codeAny_call_builtin PySem.F.excAttr_ValueError.ga.plain F.entry_bexc_ga ?_);simp only[checkBuiltinCall,bk,hsp];refine wpAny_bind ?_;unfold isInstance;have w1:=looks_findIn (M:=model prog w) X ha
 have w2:Looks (model prog w) hp (getOf (some (.builtin "object.__class__"))) (some (.builtin "getset_descriptor.__get__")):=looks_specialIn X hn;have w3:Looks (model prog w) hp (dataDescriptor? (some (.builtin "object.__class__")) (some (.builtin "getset_descriptor.__get__"))) (some (.builtin "getset_descriptor.__get__",.builtin "object.__class__")):=(looks_takesIn X ht).andThen .now
 repeat (any_goals (first|assumption|with_reducible refine v0.at ?_|with_reducible refine v5.at ?_|with_reducible refine w1.at ?_|with_reducible refine w2.at ?_|with_reducible refine w3.at ?_|wp_step))
 refine codeAny_call_builtin KF.slot_gs.plain KF.entry_gs ?_
 refine KF.slot_gs.check _ _ _ _ _ _ _ _ KF.type_class (KF.args_gs _ _ _) ?_
 unfold Builtin.«getset_descriptor.__get__»; unfold descrGet;rw[dga_obj];refine wpAny_bind ?_;refine wpAny_pure ?_;unfold descrGetter;unfold descrCheckInstance descrNameAndClass;unfold isInstance;simp only[KF.owner_class]
 repeat lk
 refine⟨Code.quiet_builtin _ (by decide +kernel),?_⟩
 refine codeAny_builtin KF.entry_class ?_
 unfold Builtin.«object.__class__»; unfold shownTypeOf
 repeat lk
 repeat (first|exact h|wp_step)
structure aD9 (K:Frag)(C:Addr):Prop where
 ci:(clsIn K C).isSome=true
 ga:findIn K (.ref C) "__getattribute__"=some (some (.builtin "BaseException.__getattribute__"))
 gh:findIn K (.ref C) "__getattr__"=some none
 ha:findIn K (.ref C) "__class__"=some (some (.builtin "object.__class__"))
 hn:specialIn K (.builtin "object.__class__") "__get__"=some (some (.builtin "getset_descriptor.__get__"))
 tk:takesIn K (.builtin "object.__class__")=some true
 hm:mroIn K C (.type "object")=some true
 hb:mroIn K C (.type "BaseException")=some true
theorem a76 {C:Addr}(k:aD9 K C):KitX K (.ref x) (.ref C) (λh=> ∃o,h.get? x=some o/\o.cls= .ref C) where
 ty:=λ_ _ _ ⟨_,h1,h2⟩=>aH7 h1 h2
 it:=λM h X _=>by
  obtain⟨cd,e⟩:=Option.isSome_iff_exists.mp k.ci;unfold clsIn at e;split at e
  ·rename_i look
   intro A' Q' E' s' keep q;unfold isType loadHead;exact wpAny_bind (wpAny_loadPart (keep _ _ (X _ _ look)) (wpAny_pure q))
  ·cases e
 ne:=λh tp dd its n sl X at_=>by
  obtain⟨cd,e⟩:=Option.isSome_iff_exists.mp k.ci;rw[Bool.eq_false_iff];intro q;cases (beq_iff_eq.mp q:Value.ref C= .ref tp);unfold clsIn at e;split at e
  ·rename_i look
   cases (X _ _ look).symm.trans at_
  ·cases e
 ca:=λX ⟨_,h1,h2⟩ q=>b40 X h1 h2 k.ga k.gh k.ha k.hn k.tk k.hm k.hb q
end
end L2
namespace M
open PySem PySem.Spec PyProof.Rows L2
def XD (a:Addr)(oe:Obj)(x:D):Prop:=x= .adr a\/ ∃d ks l,x= .xob a d ks l/\oe.dict=some d/\ ∀c,oe.data≠ .cls c
theorem XD.rep {K:PySem.W.Frag}{A:AS}{H:Hp}{a:Addr}{oe:Obj}{x:D}{v:V}(h:XD a oe x)(r:Rep K A H x v):v= .ref a:=by
 rcases h with rfl| ⟨d,ks,l,rfl,_⟩
 ·simpa only[Rep]using r
 ·simp only[Rep]at r;obtain⟨vs,e,_⟩:=r;exact e
def gIs (x d:D)(b:Bool):List D->(B->Prop)->Prop:=λds Q=>ds=[x,d]/\Q (.pu (.bl b))
def clsV:D->Option (V×Value)
 | .adr R=>some (.ref R,.ref R)
 | .ty T=>some (.ty T,.type T)
 | _=>none
section
variable {X:Cx}{a C:Addr}{oe:Obj}{e0 d:D}{v:V}{u:Value}{b:Bool}
theorem cu_is (k:aD9 X.K C)(hp:(a,oe)∈X.pn)(hc:oe.cls= .ref C)(h0:XD a oe e0)(hd:clsV d=some (v,u))(e:kitOne X.K (.ref C) u=some b):jP X (.builtin "isinstance") (gIs e0 d b):=by
 intro A H ds vs Q0 Q hA r ⟨g1,g2⟩ q;subst g1;obtain⟨x,vr,rfl,r1,r2⟩:=r.uncons;obtain⟨y,vr2,rfl,r3,r4⟩:=r2.uncons;cases r4.unnil;have ex:x= .ref a:=h0.rep r1;have ey:y=v/\ ∀z,RelV v z->z=u:=by
  cases d with
  | adr R=>cases hd;exact⟨by simpa only[Rep]using r3,λz h=>h⟩
  | ty T=>cases hd;exact⟨by simpa only[Rep]using r3,λz h=>h⟩
  | _=>cases hd
 obtain⟨rfl,ey⟩:=ey;subst ex;refine⟨λxs H Q=>xs=[.ref a,y]/\Q (.bl b) H,?_,rfl,q _ _ H g2 (.refl _) dG⟩
 rintro pins s σ H' xs us Q' I rv ⟨rfl,hq⟩;obtain⟨w1,w2,rfl,q1,q2⟩:=vals2 rv;obtain rfl:w1=Value.ref a:=q1;obtain rfl:=ey _ q2;have pin:=I.pin (a,oe) (List.mem_append.mpr (.inl hp));exact PySem.W.kia_one (a76 k) I.kIn ⟨_,pin.1,hc⟩ e (λz=>nomatch z) λtk=>⟨.bl b,H',I.tok _,rfl,hq⟩
end
end M
end
section
namespace L2
open PySem PySem.Spec PyProof.Rows
section
variable {X:Cx}{pins:List (Addr×Obj)}{σ:St}{H:Hp}{s:Shared}
theorem vJ {M:Model}{A:Around}{E:Value->Shared->Prop}{i:Nat}{y:Str}{pos:Pos}{Q:Unit->Shared->Prop}(I:Inv X pins σ H s)(hN:X.N.Nodup)(hi:X.N[i]? =some y)(hy:X.env.scope.names.lookup y=some .local)
  (h: ∀s',Inv X pins (σ.set i none) H s'->Q () s'):wpAny M A (do bindName X.env y .none;unbindBehindTheSuite X.env y pos) Q E s:=by
 obtain⟨m,hn,hl⟩:=id I.loc;have lt: ∀{b:Addr} {o:Obj},X.s₀.heap.get? b=some o->b≠X.env.locals:=λe=>ne_of_lt (lt_of_lt_of_le (lt_size e) I.ok.above)
 have iσ:i<σ.length:=by rw[I.len];exact(List.getElem?_eq_some_iff.mp hi).1
 refine wpAny_nameGoes_keeps hy hn (by rw[I.ok.kind];rfl) λh' v hn' hs=>h _ ⟨I.ok,I.os,I.bare,⟨λb o e n hb hx=>(hs.2 b (lt e)).trans (I.base.keep b o e n hb hx),λb o e n hb hx=> ?_,I.base.free,λb o e hx=> ?_,I.base.tups,I.base.frzs,I.base.tbls⟩,⟨_,hn',λj z v' e1 e2 e3=> ?_⟩,λz c e=> ?_,I.free,I.freeC,λp hp=> ?_,λb ob e=> ?_,by simpa using I.len⟩
 ·obtain⟨sl,e1⟩:=I.base.slot b o e n hb hx;exact⟨sl,(hs.2 b (lt e)).trans e1⟩
 ·obtain⟨o',e1⟩:=I.base.there b o e hx;exact⟨o',(hs.2 b (lt e)).trans e1⟩
 ·by_cases hj:j=i
  ·subst hj;rw[getElem?_set_self iσ]at e2;cases e2
  ·rw[getElem?_set_ne (Ne.symm hj)]at e2;obtain⟨u',r',q⟩:=hl j z v' e1 e2 e3;refine⟨u',r',?_⟩;rcases q with⟨k,e⟩| ⟨k,c,e,t⟩
   ·have ne:z≠y:=λe=>hj (vT hN e1 (e▸hi))
    exact .inl ⟨k,by simp[ne,e]⟩
   ·exact .inr ⟨k,c,e,t.sameBut hs (I.cne z c e)⟩
 ·obtain⟨w',t⟩:=I.cell z c e;exact⟨w',t.sameBut hs (I.cne z c e)⟩
 ·obtain⟨e,n,ne,nf,d⟩:=I.pin p hp;exact⟨(hs.2 p.1 ne).trans e,n,ne,nf,d⟩
 ·refine(I.hok b ob e).stay (λc w' hc q=>(hs.2 c ?_).trans q) (λ_ q=>q) λ_ _ q=>q
  intro z;subst z;have fr:=I.free;rcases hc with hc|hc
  ·subst hc;rw[fr]at e;cases e
  ·rw[fr]at hc;cases hc
def a07 (K:PySem.W.Frag)(R C:Addr)(bmB:List Value)(newId:String)(b:Bool):Prop:=(excIn K C bmB newId=true\/ ∃fI,yX K C fI bmB newId=true)/\ ∃cd,PySem.W.clsIn K C=some cd/\cd.mro.contains (.ref R)=b
theorem tE.b {K:PySem.W.Frag}{R C:Addr}{bmB:List Value}{newId:String}(u:tE K R C bmB newId):a07 K R C bmB newId true:=u
theorem aU0 {K:PySem.W.Frag}{h:Heap}{C N:Addr}{nm q:Str}{bs bm:List Value}{hd:Bool}{sn:List Str}{sub:List Value}{ab:Bool}{col:Option Bool}{dd:Option Addr}{k0 k1 k2 k3 k5:Option Value}{newId:String}{cd:ClassData}(X:K.In h)
  (hC:h.get? C=some (excClassObj nm q C N bs bm hd sn sub ab col dd k0 k1 k2 k3 k5 newId)) (hc:PySem.W.clsIn K C=some cd):cd.mro=Value.ref C::bm:=by
 unfold PySem.W.clsIn at hc;split at hc
 ·rename_i look
  have same:=X _ _ look;rw[hC]at same;cases hc
  injection same with same
  injection same with _ _ same _
  injection same with same
  rw[<-same]
 ·cases hc
theorem underB {K:PySem.W.Frag}{h:Heap}{R C:Addr}{bmB:List Value}{newId:String}{b:Bool}(X:K.In h)(u:a07 K R C bmB newId b): ∃(nm q:Str) (N:Addr) (bs bm:List Value) (hd:Bool) (sn:List Str) (sub:List Value) (ab:Bool) (col:Option Bool) (dd:Option Addr) (k0 k1 k2 k3 k5:Option Value),
  h.get? C=some (excClassObj nm q C N bs bm hd sn sub ab col dd k0 k1 k2 k3 k5 newId)/\(Value.ref C::bm).contains (.ref R)=b:=by
 obtain⟨a,cd,hc,hr⟩:=u;rcases a with a| ⟨fI,a⟩
 ·obtain⟨bm,⟨⟨nm,qn,N,bs,hdd,sn,sub,ab,col,dd,k0,k1,k2,k3,k5,mN,hC,_⟩,_⟩⟩:=a05 X a;exact⟨nm,qn,N,bs,bm,hdd,sn,sub,ab,col,dd,k0,k1,k2,k3,k5,hC,by rw[<-aU0 X hC hc];exact hr⟩
 ·obtain⟨bm,⟨⟨nm,qn,N,bs,hdd,sn,sub,ab,col,dd,k0,k1,k2,k3,k5,mN,hC,_⟩,_⟩⟩:=a75 X a;exact⟨nm,qn,N,bs,bm,hdd,sn,sub,ab,col,dd,k0,k1,k2,k3,k5,hC,by rw[<-aU0 X hC hc];exact hr⟩
def XOk (K:PySem.W.Frag)(C:Addr)(bmB:List Value)(newId:String):Prop:=excIn K C bmB newId=true\/ ∃fI,yX K C fI bmB newId=true
theorem xok_of {K:PySem.W.Frag}{h:Heap}{C:Addr}{bmB:List Value}{newId:String}(X:K.In h)(a:XOk K C bmB newId): ∃(nm q:Str) (N:Addr) (bs bm:List Value) (hd:Bool) (sn:List Str) (sub:List Value) (ab:Bool) (col:Option Bool) (dd:Option Addr) (k0 k1 k2 k3 k5:Option Value),
  h.get? C=some (excClassObj nm q C N bs bm hd sn sub ab col dd k0 k1 k2 k3 k5 newId)/\OwnTail h bmB bm:=by
 rcases a with a| ⟨fI,a⟩
 ·obtain⟨bm,⟨⟨nm,qn,N,bs,hdd,sn,sub,ab,col,dd,k0,k1,k2,k3,k5,mN,hC,_⟩,tl⟩⟩:=a05 X a;exact⟨nm,qn,N,bs,bm,hdd,sn,sub,ab,col,dd,k0,k1,k2,k3,k5,hC,tl⟩
 ·obtain⟨bm,⟨⟨nm,qn,N,bs,hdd,sn,sub,ab,col,dd,k0,k1,k2,k3,k5,mN,hC,_⟩,tl⟩⟩:=a75 X a;exact⟨nm,qn,N,bs,bm,hdd,sn,sub,ab,col,dd,k0,k1,k2,k3,k5,hC,tl⟩
theorem b41 {M:Model}{A:Around}{E:Value->Shared->Prop}{s:Shared}{e C R:Addr}{oe:Obj}{Q:Bool->Shared->Prop}{b:Bool}{K:PySem.W.Frag}{B newId initId:String}{bmB:List Value}(FB:ExcBaseFacts B newId initId bmB)(X:K.In s.heap)(u:a07 K R C bmB newId b)(hR:XOk K R bmB newId)
  (he:s.heap.get? e=some oe) (hcl:oe.cls= .ref C) (hq:Q b s):wpAny M A (excMatches (.ref e) (.ref R)) Q E s:=by
 obtain⟨nm,qn,N,bs,bm,hdd,sn,sub,ab,col,dd,k0,k1,k2,k3,k5,hC,hin⟩:=underB X u;obtain⟨nm',qn',N',bs',bm',hdd',sn',sub',ab',col',dd',k0',k1',k2',k3',k5',hRo,tl'⟩:=xok_of X hR;have hb:=tl'.hasType FB.hasBase;obtain⟨hp,gn,dr,tn,os⟩:=s;have t1:(Value.ref R::bm').contains (.type "BaseException")=true:=by rw[List.contains_cons,hb,Bool.or_true]
 have t2:=tc_notTuple;unfold excMatches
 repeat (first
  | (with_reducible refine wpAny_loadPart_at he ?_;rw[hcl])
  | with_reducible refine wpAny_loadPart_at hRo ?_
  | (with_reducible refine wpAny_isSubtype_exc hRo ?_;rw[t1])
  | (with_reducible refine wpAny_isSubtype_exc hC ?_;rw[hin])
  | wp_step)
 cases b with
 | true=>repeat (first|exact hq|wp_step)
 | false=>repeat (first|exact hq|wp_step)
end
section
variable {X:Cx}
abbrev Cx.asX (X:Cx)(a:Addr)(oe:Obj):Cx:={X.inX a with pn:=(a,oe)::X.pn}
def a08 (i:Nat)(D:rF):rF:={D with nx:=λσ H=>D.nx (σ.set i none) H,bk:=λσ H=>D.bk (σ.set i none) H,ct:=λσ H=>D.ct (σ.set i none) H}
end
end L2
end
section
namespace L2
open PySem PySem.Spec PyProof.Rows
section
variable {X:Cx}{CX:CXT}{k:Nat}{f:Addr}{fd:FuncData}{ps:List Str}{sp:Sp}{E:XK}{x:Str}{p pos:Pos}{e:Expr}{es:List Expr}{t:TA}
theorem b42 {pins:List (Addr×Obj)}{σ:St}{H:Hp}{s:Shared}{Q:VK}(F:kI X.prog X.w X.K X.mg X.base CX k f fd ps sp)(hr:cV k X.A)(hg:Gl X x)(hm:X.mg x=some (.ref f))(hk:keepIn X.K (.ref f)=true)(hb:Binds X.K fd ps [])(hx:sH CX X E pins σ)
  (ha:PA X (e::es) t) (I:Inv X pins σ H s) (h:aG2 sp [] E t σ H Q) (hdb:(x==("__debug__":Str))=false) (he:starEach (e::es) X.env=(false,eval e X.env)::starEach es X.env) (hpl:(backTo pos (starEach es X.env)).any (·.1)=false) :
  wpAny (model X.prog X.w) X.A (eval (.Call (.Name x p) (e::es) [] pos) X.env) (EP X pins σ Q) X.xe s:=by
 refine wpAny_Call_Name_kw (qC I hg hm ?_ hdb)
 refine PySem.W.callWith_K (h₀:=X.base) I.ok.mod.kin hk (thn (ha pos pins s σ H _ I h) λus s1 ⟨vs,H1,I1,r,q⟩=>⟨I1.kIn,?_⟩) he hpl
 have r2:aZ (vs++[]) (us++[]):=r.append .nil;have hl:(us++[]).length=ps.length:=by rw[<-r2.length];exact F.len _ _ _ _ q
 refine wpAny_call (codeAny_mono (F.run X.A X.stack s1 H1 ⟨us,[]⟩ (us++[]) (vs++[]) Q E hr I1.env0 (hb s1 us I1.kIn hl) r2 q) λr s' hq=> ?_)
 cases r with
 | error e=>exact hx H1 s1 e s' I1 hq
 | ok fl=>
  cases fl with
  | ret u=>exact I1.after hq
  | next=>exact False.elim hq
  | brk=>exact False.elim hq
  | cont=>exact False.elim hq
end
end L2
namespace M
open PySem PySem.Spec PyProof.Rows L2
abbrev USY:=(Str->List D->Ev->Prop)->US
def lSY (K:PySem.W.Frag)(mg:Str->Option Value)(E:XK)(t:USY):TS:=λD σ H=> ∃C ρ D0 Ex,EOk K C ρ σ H/\t Ex D0 ρ/\DOk K C D0 D/\ ∀n Cl es o ρ1 H',Ex n es ρ1->mg n=some (.ref Cl)->EOk K C ρ1 σ H'->XR K (Av C ρ1 σ) H' n es o->E (.ref Cl) o H'
def PUY (X:Cx)(body:List Stmt)(t:USY):Prop:= ∀(xe:Value->Shared->Prop) (E:XK) (pins:List (Addr×Obj)) (s:Shared) (σ:L2.St) (H:Hp) (D:rF),Inv (X.wish xe) pins σ H s->sH (CXr X.prog X.w X.base) (X.wish xe) E pins σ->lSY X.K X.mg E t D σ H->wpAny (model X.prog X.w) X.A (execs body X.env) (SP (X.wish xe) pins D) xe s
def tF (φ:ΦX)(t:UA)(Ex:Str->List D->Ev->Prop):UE:=λρ Q=>t ρ λds ρ1=>φ ds (λb=>Q b ρ1) λn es=>Ex n es ρ1
section
variable {X:Cx}{e c:Expr}{es:List Expr}{a b:List Stmt}{pos:Pos}{t u:USY}{tc:UT}{K:PySem.W.Frag}{C:C0}{ρ:Ev}{σ:L2.St}{H:Hp}
theorem EOk.gone (I:EOk K C ρ σ H)(i:Nat):EOk K C (ρ.set i none) (σ.set i none) H:=by
 have at_: ∀{j:Nat} {b:B},(ρ.set i none)[j]? =some (some b)->j≠i/\ρ[j]? =some (some b):=λ{j b} e=>by
  by_cases c:j=i
  ·subst c
   by_cases l:j<ρ.length
   ·rw[getElem?_set_self l]at e;cases e
   ·rw[getElem?_eq_none (by rw[length_set];omega)]at e;cases e
  ·rw[getElem?_set_ne (Ne.symm c)]at e;exact⟨c,e⟩
 have own: ∀a,Av C (ρ.set i none) (σ.set i none) a->Av C ρ σ a:=λa z=>by
  rcases z with z| ⟨j,l,e1,e2⟩
  ·exact .inl z
  ·obtain⟨n,e1⟩:=at_ e1;rw[getElem?_set_ne (Ne.symm n)]at e2;exact .inr ⟨j,l,e1,e2⟩
 have pr:fG (Av C ρ σ) H (Av C (ρ.set i none) (σ.set i none)) H:=λb o n q=>⟨λz=>n (own b z),q⟩
 have sg: ∀{j:Nat},j≠i->(σ.set i none)[j]? =σ[j]? :=λn=>getElem?_set_ne (Ne.symm n)
 refine⟨by simpa using I.len,λj d e=> ?_,λj l e=> ?_,λj j' l l' a e1 e2 e3 e4=> ?_,λj l e=> ?_,I.ext,I.a0⟩
 ·obtain⟨n,e⟩:=at_ e;obtain⟨v,e1,r⟩:=I.pu j d e;exact⟨v,by rw[sg n];exact e1,r.mono pr⟩
 ·obtain⟨n,e⟩:=at_ e;obtain⟨a,vs,e1,e2,e3,r⟩:=I.ow j l e;exact⟨a,vs,by rw[sg n];exact e1,e2,e3,r.mono pr⟩
 ·obtain⟨n1,e1⟩:=at_ e1;obtain⟨n2,e2⟩:=at_ e2;rw[sg n1]at e3;rw[sg n2]at e4;exact I.inj j j' l l' a e1 e2 e3 e4
 ·obtain⟨n,e⟩:=at_ e;obtain⟨a,vs,e1,e2,e3,r⟩:=I.bo j l e;exact⟨a,vs,by rw[sg n];exact e1,e2,e3,r.mono pr⟩
def yY (i:Nat)(E:UD):UD:={E with nx:=λρ=>E.nx (ρ.set i none),bk:=λρ=>E.bk (ρ.set i none),ct:=λρ=>E.ct (ρ.set i none)}
def mkX (n:Str)(mk:Addr->Addr->List D->D):Prop:=(qT n=[]/\mk=λa _ _=> .adr a)\/(qT n≠[]/\mk=λa d es=> .xob a d (qT n) es)
theorem xO:bootBuiltins "ValueError"=some (.type "ValueError"):=by decide +kernel
def a77 (x:D)(i:Nat)(b:Bool):UE:=λρ Q=>ρ[i]? =some (some (.pu x))/\Q (.pu (.bl b)) ρ
theorem d2 {r:Str}{R:Addr}{p:Pos}(hg:Gl X r)(hm:X.mg r=some (.ref R))(hd:(r==("__debug__":Str))=false:=by decide):PU X (.Name r p) (uC (.adr R)):=vE (zJ (v:= .ref R) hg hm rfl hd) λA H=>by simp only[Rep]
theorem aU1 {x:Addr}{e0:D}{C:Addr}{oe:Obj}{d:D}{v:V}{w:Value}{o:Bool}{y r:Str}{p py pr:Pos}(i:Nat)(k:aD9 X.K C)(hp:(x,oe)∈X.pn)(hc:oe.cls= .ref C)(h0:XD x oe e0)(hy:PE X (.Name y py) (vU i))(hr:PU X (.Name r pr) (uC d))(hv:clsV d=some (v,w))(hk:kitOne X.K (.ref C) w=some o)
  (hg:Gl X "isinstance") (hm:X.mg "isinstance"=none) (he:starEach [.Name y py,.Name r pr] X.env=(false,eval (.Name y py) X.env)::starEach [.Name r pr] X.env:=by rfl) (he2:starEach [.Name r pr] X.env=(false,eval (.Name r pr) X.env)::starEach [] X.env:=by rfl) (hpl:(backTo pos (starEach [.Name r pr] X.env)).any (·.1)=false:=by rfl) :
  PU X (.Call (.Name "isinstance" p) [.Name y py,.Name r pr] [] pos) (a77 e0 i o):=
 bP (bE (cu_is k hp hc h0 hv hk) hg hm boot_isinstance (a7 (eY i hy) (a7 hr a8 he2) he) (by decide) (by decide) he hpl) λσ H Q ⟨C0,ρ,Q0,I,⟨h1,h2⟩,kk⟩=>⟨C0,ρ,Q0,I,by
  simp only[aK,a6,aA,yI,h1,uC,aE,B.d]
  first|exact⟨rfl,h2⟩|exact⟨trivial,h2⟩,kk⟩
end
end M
end
section
namespace L2
open PySem PySem.Spec PyProof.Rows
section
variable {M:Model}{A:Around}{E:Value->Shared->Prop}{s:Shared}{base:Heap}{env cenv:Env}{outer l:List Env}{L e:Addr}{cls a0:Value}{Q:Unit->Shared->Prop}
theorem aE0 (hf:env.frame=some L)(F:HeldW base (env::outer) e cls a0 L s.heap)
  (hQ: ∀h',FlyingW base outer e cls a0 h'->uT (frs (env::outer)) e s.heap h'->Q () {s with heap:=h'}):wpAny M A (leaving env (.ref e)) Q E s:=by
 unfold leaving;refine wpAny_bind (wpAny_noteFrame_againW hf F.2.2.2 ?_);exact wJ F λh' fl p=>by
  obtain⟨k1,k2,⟨_,_,k3⟩,k4⟩:=fl;exact hQ h' ⟨k1,k2,k3,k4⟩ p
theorem aM3 (h:cenv.frame=env.frame)(x:Value):noteFrame x cenv=noteFrame x env:=by
 unfold noteFrame PySem.frameOf;rw[h]
theorem aM4 {α:Type}{what:String}{R:α->Shared->Prop}(hf:cenv.frame=some L)(F:HeldW base l e cls a0 L s.heap)(h:E (.ref e) s):wpAny M A (PySem.passOn what (.ref e) cenv:Sem α) R E s:=by
 obtain⟨_,_,_,oe,vs,T,oT,ts,he,hcls,hd,h1,hnT,hTe,hT,hdT,h3⟩:=F;unfold PySem.passOn;refine wpAny_bind (wpAny_field he hd h1 ?_);rw[if_neg (show ¬((Value.ref T==Value.none)=true)from by simp)]
 refine wpAny_bind ?_
 unfold setFlight;refine wpAny_bind (wpAny_field he hd h1 ?_);rw[if_pos (show(Value.ref T != Value.none)=true from by simp),hf]
 refine wpAny_setField hT hdT (Array.getElem?_eq_some_iff.mp h3).1 ?_
 have es:s.heap.update T (Obj.mapFields λx=>x.setIfInBounds 3 ((some L).elim Value.none λf=>rawInt ↑f))=s.heap:=Heap.update_setField_same _ _ _ _ _ _ hT hdT h3
 rw[es];exact wpAny_throw h
end
section
variable {P:Program}{w:World}{K:PySem.W.Frag}{mg:Str->Option Value}{base:Heap}{N:List Str}{qual:Str}{scope:Scope}{f:Addr}{cd:Value}{A:Around}{outer:List Env}{s0:Shared}{H0:Hp}{E:XK}{CX:CXT}
def Holds (X:Cx)(E:XK):Prop:= ∀(pins:List (Addr×Obj)) (σ:St) (H:Hp) (s:Shared) (a C L:Addr) (a0:Value) (o:Option Addr),Inv X pins σ H s->X.env.frame=some L->HeldW X.base X.stack a (.ref C) a0 L s.heap->H a=none->(∀T,Tr s.heap a T->H T=none)->sF X.s₀.heap a s.heap->XAt s.heap a o->E (.ref C) o H->X.xe (.ref a) s
theorem a78:Holds (jO (CXr P w base) P w K mg base N qual scope f cd A outer s0 H0 E) E:=by
 intro pins σ H s' a C L a0 o I hfr fl he ht nw xa hE;obtain rfl:s0.heap.objs.size=L:=by
  have:(envOfC qual scope s0.heap.objs.size f cd).frame=some s0.heap.objs.size:=rfl;exact Option.some.inj (this.symm.trans hfr)
 have sf: ∀b∈frs (envOfC qual scope s0.heap.objs.size f cd::outer),H b=none:=I.stkFree;have fm: ∀b∈frs (envOfC qual scope s0.heap.objs.size f cd::outer),b=s0.heap.objs.size\/b∈frs outer:=λb hb=>by
  unfold frs at hb⊢;rw[filterMap_cons]at hb;have e:(envOfC qual scope s0.heap.objs.size f cd).frame=some s0.heap.objs.size:=rfl;rw[e]at hb;exact List.mem_cons.mp hb
 have fl':HeldW base (envOfC qual scope s0.heap.objs.size f cd::outer) a (.ref C) a0 s0.heap.objs.size s'.heap:=fl;show wpAny _ _ (leaving _ (.ref a)) _ _ s';refine aE0 (L:=s0.heap.objs.size) rfl fl' λh' fly p=> ?_
 have hd: ∀b∈frs outer,∀o,s'.heap.get? b=some o-> ∀vs,o.data≠ .fields vs:=λb hb o q=>by
  obtain⟨_,o',q',n⟩:=fl'.2.2.1.mem (b:=b) (by
   unfold frs at hb;rw[filterMap_cons];have e:(envOfC qual scope s0.heap.objs.size f cd).frame=some s0.heap.objs.size:=rfl;rw[e];exact List.mem_cons.mpr (.inr hb))
  rw[q]at q';cases q';exact n
 have un:Un (frs outer) [] H0 H s0.heap h':=I.base.past p fm (get?_none_of_le (le_refl _)) nw.he nw.ht hd;refine⟨a,C,o,H,rfl,I.os,I.bare,un,I.hok.past p sf he ht,⟨⟨a0,fly⟩,he,qH I.hok p sf he ht⟩,⟨nw.he,λT q=> ?_⟩,xa.dk p.dk,hE⟩
 rcases p.tr T q with z|z|z|z
 ·rcases fm T z with z|z
  ·rw[z];exact get?_none_of_le (le_refl _)
  ·exfalso
   obtain⟨o,vs,q1,q2⟩:=p.rcd T q;obtain⟨_,o',q',n⟩:=fly.2.2.1.mem (b:=T) z;rw[q1]at q';cases q';exact n vs q2
 ·rw[z];exact nw.he
 ·exact nw.ht T z
 ·cases r:s0.heap.get? T with
  | none=>rfl
  | some o=>
   obtain⟨o',q'⟩:=I.base.there T o r (show T ∉ ([]:List Addr)by simp)
   rw[z]at q';cases q'
end
theorem aE1 {X:Cx}{E:XK}{RR:Value->Addr->Option Addr->Result->Shared->Prop}{elt iter tg:Expr}{ifs:List Expr}{scope:Scope}{pos:Pos}{N:List Str}{cap:List (Option Nat)}{last:Nat}{wi:TI}{g:TG}{tt:TT}{te:TE}(hc:X.calm=true)(hi:PI X tg iter wi)(S:bC X.env X.N N cap scope)
  (hN: ∀x,N[last]? =some x->scope.names.lookup x=none)
  (hg: ∀cl C s H fp pins,PG (aJ X N scope cl C s H fp pins) tg g) (ht: ∀cl C s H fp pins,PTs (aJ X N scope cl C s H fp pins) ifs tt) (he: ∀cl C s H fp pins xe,jN (CXr X.prog X.w X.base) ((aJ X N scope cl C s H fp pins).wish xe) E->PE ((aJ X N scope cl C s H fp pins).wish xe) elt te)
  {pins:List (Addr×Obj)} {s:Shared} {σ:L2.St} {H:Hp} {Q:VK} {cl:List (Str×Addr)} (I:Inv X pins σ H s) (h:w8 cap last wi g tt te σ H Q) (hcl: ∀x c,cl.lookup x=some c->X.env.cells.lookup x=some c) (hcl2: ∀y∈scope.names,y.2= .free-> ∃c,cl.lookup y.1=some c)
  (fin: ∀(D:Addr) (fp:List Addr) (H3:Hp) (s3:Shared) (σ':L2.St) (H':Hp) (s':Shared),Inv X pins σ H3 s3->(∀b∈fp,rG X pins H3 b)->Inv (aJ X N scope (cellsFrom (s3.heap.objs.size+1) scope.names cl) s3.heap.objs.size s3 H3 fp pins) [] σ' H' s'->Q (.ref D) H'->RR (.ref D) s3.heap.objs.size X.env.frame (.ok .next) s')
  (bad: ∀(D:Addr) (fp:List Addr) (H3:Hp) (s3:Shared),Inv X pins σ H3 s3->(∀b∈fp,rG X pins H3 b)-> ∀(pins':List (Addr×Obj)) (σ':L2.St) (H':Hp) (s':Shared) (e:Value) (s'':Shared),Inv (aJ X N scope (cellsFrom (s3.heap.objs.size+1) scope.names cl) s3.heap.objs.size s3 H3 fp pins) pins' σ' H' s'->CXr X.prog X.w X.base X.stack H' s' E e s''->notedBy (model X.prog X.w) X.A (compEnvC scope (cellsFrom (s3.heap.objs.size+1) scope.names cl) s3.heap.objs.size X.env) (λe s'=>RR (.ref D) s3.heap.objs.size X.env.frame (.error e) s') e s'') :
  wpAny (model X.prog X.w) X.A (eval iter X.env) (λx s₁=>wpAny (model X.prog X.w) X.A (pyIter x) (λit s₂=>wpAny (model X.prog X.w) X.A (newList []) (λacc s₃=>
   wpAny (model X.prog X.w) X.A (newFunctionEnv scope X.env.globals cl [] X.env.qual none .none (some X.env)) (λcenv s₄=>
    codeAny (model X.prog X.w) X.A (.compStart (.ListComp elt [⟨tg,iter,ifs,0⟩] scope pos) 0 it acc {cenv with scope:=relabel scope X.env}) (RR acc cenv.locals cenv.frame) s₄) X.xe s₃) X.xe s₂) X.xe s₁) X.xe s:=by
 refine thn (hi pins s σ H _ I h) λxv s1 h1=>thn h1 λit s2 h2=> ?_
 obtain⟨ita,fp,tn,J,H2,rfl,I2,T,st2,f2,q⟩:=h2;refine wpAny_newObj_type ?_ (by show 0<=sizeLine;decide)
 have fD:H2 s2.heap.objs.size=none:=I2.hok.fresh (le_refl _);obtain⟨W,⟨m0,w0⟩,turn⟩:=q s2.heap.objs.size fD;have I3:Inv X pins σ (upd H2 s2.heap.objs.size (.lst [])) {s2 with heap:=s2.heap.push {cls:= .type "list",data:= .seq ([]:List Value).toArray}}:=I2.lnew (t':=s2.toks) .nil (zero_le _);have fpne: ∀b∈fp,b≠s2.heap.objs.size:=λb hb=>by
  obtain⟨o,ho,_⟩:=T.obj 0 _ st2 b hb;exact ne_of_lt (lt_size ho)
 have f3: ∀b∈fp,rG X pins (upd H2 s2.heap.objs.size (.lst [])) b:=λb hb=>⟨by rw[cU (fpne b hb)];exact(f2 b hb).1,(f2 b hb).2⟩
 have k23: ∀b o,s2.heap.get? b=some o->(s2.heap.push {cls:= .type "list",data:= .seq ([]:List Value).toArray}).get? b=some o:=λb o e=>get?_push_of_some _ e
 have st3:tn 0 (s2.heap.push {cls:= .type "list",data:= .seq ([]:List Value).toArray}):=T.keep 0 _ _ st2 λb hb o e=>k23 b o e
 have fps: ∀b∈fp,b< (s2.heap.push {cls:= .type "list",data:= .seq ([]:List Value).toArray}).objs.size:=λb hb=>by
  obtain⟨o,ho,_⟩:=T.obj 0 _ st3 b hb;exact lt_size ho
 generalize hS3:({s2 with heap:=s2.heap.push {cls:= .type "list",data:= .seq ([]:List Value).toArray}}:Shared)=s3 at I3;have hh3:s3.heap=s2.heap.push {cls:= .type "list",data:= .seq ([]:List Value).toArray}:=by rw[<-hS3]
 rw[<-hh3]at st3 fps;refine rY ?_;have sz3:(s3.heap.push {cls:= .type "dict",data:= .dict #[]}).objs.size=s3.heap.objs.size+1:=size_push ..;have hns₁:(pushCells (s3.heap.push {cls:= .type "dict",data:= .dict #[]}) scope.names).Ns s3.heap.objs.size (λ_=>none):=(Heap.Ns.new s3.heap (.type "dict")).keeps (pushCells_keeps _ _)
 have k34: ∀b o,s3.heap.get? b=some o->(pushCells (s3.heap.push {cls:= .type "dict",data:= .dict #[]}) scope.names).get? b=some o:=λb o e=>pushCells_keeps _ _ _ _ (get?_push_of_some _ e)
 have I4:=u6 (tk:=s3.toks) (last:=last) (D:=s2.heap.objs.size) (cl:=cellsFrom (s3.heap.objs.size+1) scope.names cl) S I3 f3 fps hcl hcl2 hN hns₁ k34
  (λx c e=>by
   rw[<-sz3]at e;rcases qE _ _ _ e with q| ⟨q1,_,q3⟩
   ·exact .inl q
   ·exact .inr ⟨by lia,q3⟩)
  (qF _ _ _ (λx c e=>by
   obtain⟨v,q⟩:=I3.cell x c (hcl x c e);exact Nat.lt_succ_of_lt q.lt) λx y c e1 e2=>I3.ok.inj x y c (hcl x c e1) (hcl y c e2))
  (λx m=>cells_keep _ _ _ λm'=>by
   have h1:=S.owns _ m' rfl;have h2:=S.freeK _ m rfl;rw[h1]at h2;cases h2)
  (λx e=>Option.isSome_iff_exists.mp (cellsFrom_some _ _ _ (.inl e)))
  (λx c e1 e2=>by
   have:=gS scope.names (s3.heap.objs.size+1) cl (.inl (PySem.mem_of_lookup e1)) e2
   lia)
 have st4:tn 0 (pushCells (s3.heap.push {cls:= .type "dict",data:= .dict #[]}) scope.names):=T.keep 0 _ _ st3 λb hb o e=>k34 b o e
 generalize hcl':cellsFrom (s3.heap.objs.size+1) scope.names cl=cl' at I4;have loop:codeAny (model X.prog X.w) X.A (.compLoop (.ListComp elt [⟨tg,iter,ifs,0⟩] scope pos) 0 (.ref ita) (.ref s2.heap.objs.size) (compEnvC scope cl' s3.heap.objs.size X.env))
   (RR (.ref s2.heap.objs.size) s3.heap.objs.size X.env.frame) {s3 with heap:=pushCells (s3.heap.push {cls:= .type "dict",data:= .dict #[]}) scope.names,toks:=s3.toks}:=by
  have stat: ∀{H':Hp},(∀b∈fp,H' b=none)-> ∀b∈fp,rG (aJ X N scope cl' s3.heap.objs.size s3 (upd H2 s2.heap.objs.size (.lst [])) fp pins) [] H' b:=λ{H'} hn b hb=>by
   refine⟨hn b hb,ne_of_lt (fps b hb),λz=> ?_,.inl hb,λx c e=>(I4.ok.exf b hb).2 x c e,λp hp=> ?_⟩
   ·rcases List.mem_cons.mp (I3.stkSub b z)with z|z
    ·exact(f3 b hb).2.1 z
    ·exact(f3 b hb).2.2.1 z
   ·have:p∈(X.pn++pins)++[]:=hp;exact(f3 b hb).2.2.2.2.2 p (by simpa using this)
  have hcb:(aJ X N scope cl' s3.heap.objs.size s3 (upd H2 s2.heap.objs.size (.lst [])) fp pins).calm=true:=hc;refine iI (λn s'=> ∃i σ' H',Inv (aJ X N scope cl' s3.heap.objs.size s3 (upd H2 s2.heap.objs.size (.lst [])) fp pins) [] σ' H' s'/\tn i s'.heap/\(∀b∈fp,H' b=none)/\W i n σ' H') ?_ m0 ⟨0,_,_,I4,st4,λb hb=>(f3 b hb).1,w0⟩
  rintro n s5 ⟨i,σ5,H5,I5,st5,fr5,w5⟩;rcases turn i n σ5 H5 w5 with⟨stop,qn⟩| ⟨go,Nx,hNx,step⟩
  ·refine wpAny_mono (T.done (aJ X N scope cl' s3.heap.objs.size s3 (upd H2 s2.heap.objs.size (.lst [])) fp pins) rfl rfl rfl hcb i [] s5 σ5 H5 (λ_ _=>False) I5 (stat fr5) st5 stop) (λr s6 hr=> ?_) (λ_ _ z=>z.elim)
   obtain⟨rfl,I6⟩:=hr;exact fin _ fp _ s3 σ5 H5 s6 I3 f3 (hcl'▸I6) qn
  ·refine wpAny_mono (T.item (aJ X N scope cl' s3.heap.objs.size s3 (upd H2 s2.heap.objs.size (.lst [])) fp pins) rfl rfl rfl hcb i [] s5 σ5 H5 (λ_ _=>False) I5 (stat fr5) st5 go) (λr s6 hr=> ?_) (λ_ _ z=>z.elim)
   obtain⟨u,rfl,h6⟩:=hr;refine wpAny_mono h6 (λ_ s7 h7=> ?_) (λ_ _ z=>z.elim)
   obtain⟨x,H7,I7,r7,y7,st7,fr7⟩:=h7;have I7':=I7.pinned (stat fr7) (T.obj _ _ st7);refine wpAny_mono (hg _ _ _ _ _ _ _ s7 σ5 H7 x u _ I7' r7 (step x H7 y7)) (λ_ s8 h8=> ?_) (λ_ _ z=>False.elim z)
   obtain⟨σ8,H8,I8,q8⟩:=h8;have again: ∀{σ9:L2.St} {H9:Hp} {s9:Shared},Inv (aJ X N scope cl' s3.heap.objs.size s3 (upd H2 s2.heap.objs.size (.lst [])) fp pins) ([]++t5 fp s7.heap) σ9 H9 s9->Nx σ9 H9-> ∃m,m<n/\ ∃i σ' H',Inv (aJ X N scope cl' s3.heap.objs.size s3 (upd H2 s2.heap.objs.size (.lst [])) fp pins) [] σ' H' s9/\tn i s9.heap/\(∀b∈fp,H' b=none)/\W i m σ' H':=λ{σ9 H9 s9} I9 n9=>by
    obtain⟨m',hm,w9⟩:=hNx σ9 H9 n9;refine⟨m',hm,i+1,σ9,H9,I9.unpinned,T.keep _ _ _ st7 λb hb o e=>(I9.pin (b,o) (mem_append_right _ (mem_append_right _ (gR hb e)))).1,λb hb=> ?_,w9⟩
    obtain⟨o,e,d⟩:=T.obj _ _ st7 b hb;exact(I9.pin (b,o) (mem_append_right _ (mem_append_right _ (gR hb e)))).2.1
   refine wpAny_mono (ht _ _ _ _ _ _ _ s8 σ8 H8 _ I8 q8) (λc s9 h9=> ?_) (λ_ _ z=>False.elim z)
   obtain⟨H9,I9,q9⟩:=h9;cases c with
   | false=>exact again I9 q9
   | true=>
    rw[if_pos rfl]at q9⊢
    refine wpAny_mono (he _ _ _ _ _ _ (notedBy (model X.prog X.w) X.A (compEnvC scope cl' s3.heap.objs.size X.env) λe s'=>RR (.ref s2.heap.objs.size) s3.heap.objs.size X.env.frame (.error e) s') (λpins' σ' H' s' e s'' J c=>bad s2.heap.objs.size fp _ s3 I3 f3 pins' σ' H' s' e s'' (hcl'▸J.unwish) c |> λz=>hcl'▸z) _ s9 σ8 H9 _ (I9.wish _) q9) (λv s10 h10=> ?_) (λ_ _ z=>z)
    obtain⟨y,H10,I10w,r10,ys,e10,z10,q10⟩:=h10;have I10:=I10w.unwish;refine wpAny_mono (t6 (X:=(aJ X N scope cl' s3.heap.objs.size s3 (upd H2 s2.heap.objs.size (.lst [])) fp pins)) _ s10 σ8 H10 (.ref s2.heap.objs.size) [y] (.ref s2.heap.objs.size) [v] (λv H=>v= .non/\Nx σ8 H) I10 rfl (.cons r10 .nil) ⟨_,ys,y,rfl,rfl,e10,z10,rfl,q10⟩) (λ_ s11 h11=> ?_) (λ_ _ z=>False.elim z)
    obtain⟨_,H11,I11,_,_,q11⟩:=h11;exact again I11 q11
 exact codeAny_compStart_list loop (T.self _ 0 _ _ _ st4 loop)
theorem a09 {scope:Scope}{env:Env}(h: ∀x∈scope.names,x.2≠ .free):relabel scope env=scope:=by
 unfold relabel;obtain⟨⟩:=scope
 congr 1
 refine(List.map_congr_left (g:=id) λx hx=> ?_).trans (List.map_id _)
 obtain⟨n,k⟩:=x;have:(k==NameKind.free)=false:=by simpa using h _ hx
 simp[this]
theorem aU2 {X:Cx}{E:XK}{elt iter tg:Expr}{ifs:List Expr}{scope:Scope}{pos:Pos}{N:List Str}{cap:List (Option Nat)}{last:Nat}{wi:TI}{g:TG}{tt:TT}{te:TE}(hc:X.calm=true)(hi:PI X tg iter wi)(S:bC X.env X.N N cap scope)
  (hN: ∀x,N[last]? =some x->scope.names.lookup x=none)
  (hg: ∀cl C s H fp pins,PG (aJ X N scope cl C s H fp pins) tg g) (ht: ∀cl C s H fp pins,PTs (aJ X N scope cl C s H fp pins) ifs tt)
  (he: ∀cl C s H fp pins xe,jN (CXr X.prog X.w X.base) ((aJ X N scope cl C s H fp pins).wish xe) E->PE ((aJ X N scope cl C s H fp pins).wish xe) elt te)
  (hH:Holds X E) (hstk:X.stack=X.env::X.outer) (hfr:X.env.frame=some X.env.locals) (hex:X.ex=[]) (hfree: ∀x∈scope.names,x.2≠ .free)
  (hs: ∀x,foldedSetIterable iter X.env x=pure x:=by intro _;rfl):PE X (.ListComp elt [⟨tg,iter,ifs,0⟩] scope pos) (w8 cap last wi g tt te):=by
 intro pins s σ H Q I h;refine wpAny_ListComp hfree S.kind S.names ?_ hs;have core:=aE1 (E:=E) (pos:=pos) (RR:=λacc C fr r s'=> ∃m,s'.heap.Ns C m/\ ∀h',SameBut C s'.heap h'->match r with
  | .ok _=>EP X pins σ Q acc {s' with heap:=h'}
  | .error x=> ∀cenv:Env,cenv.frame=fr->wpAny (model X.prog X.w) X.A (PySem.passOn "comprehension.variables-let-go" x cenv:Sem Value) (EP X pins σ Q) X.xe {s' with heap:=h'}) (cl:=[]) hc hi S hN hg ht he I h (λx c e=>by simp at e) (λy hy hf=>absurd hf (hfree y hy)) ?fin ?bad
 ·refine wpAny_mono core (λx s1 h1=>wpAny_mono h1 (λit s2 h2=>wpAny_mono h2 (λacc s3 h3=>wpAny_mono h3 (λcenv s4 h4=> ?_) λ_ _ z=>z) λ_ _ z=>z) λ_ _ z=>z) λ_ _ z=>z
  rw[a09 hfree]at h4;refine codeAny_mono h4 λr s' hr=> ?_
  obtain⟨m,hn,hr⟩:=hr;refine⟨m,hn,λh' hs'=> ?_⟩
  cases r with
  | ok f=>exact hr h' hs'
  | error x=>exact hr h' hs' {cenv with scope:=scope} rfl
 ·intro D fp H3 s3 σ' H' s' I3 f3 I' q;obtain⟨m6,hn6,_⟩:=I'.loc;exact⟨m6,hn6,λh' hs'=>⟨.ref D,H',lW I3 f3 (le_refl _) I' hs',rfl,q⟩⟩
 ·rintro D fp H3 s3 I3 f3 pins' σ' H' s' e s'' I' ⟨a,C,o,H2,rfl,ho,hb,un,hok,F,nw,xa,hE⟩;have I2:=I'.call' (s':=s'') ho un hok hb (λb z=>absurd z (by simp))
  have J0:Inv X pins σ H' s':=lW (h2:=s'.heap) I3 f3 (le_refl _) I' (.refl ..);have J:Inv X pins σ H2 s'':=lW (h2:=s''.heap) I3 f3 (le_refl _) I2 (.refl ..);obtain⟨⟨a0,fl⟩,he0,ht0⟩:=F;unfold notedBy;rw[aM3 (cenv:=compEnvC scope (cellsFrom (s3.heap.objs.size+1) scope.names []) s3.heap.objs.size X.env) (env:=X.env) rfl];have hfrs:X.A.frames=some (X.env::X.outer):=by rw[<-hstk];exact J.ok.frames
  refine a73 hfrs hfr (hstk▸fl) λh1 hel p0=> ?_
  have p:uT (frs X.stack) a s''.heap h1:=by rw[hstk];exact p0
  have there0: ∀b o,X.s₀.heap.get? b=some o-> ∃o',s'.heap.get? b=some o':=λb o q=>J0.base.there b o q (by rw[hex];simp)
  have none0: ∀b,s'.heap.get? b=none->X.s₀.heap.get? b=none:=λb q=>by
   cases r:X.s₀.heap.get? b with
   | none=>rfl
   | some o=>obtain⟨o',q'⟩:=there0 b o r;rw[q]at q';cases q'
  have Jp:Inv X pins σ H2 {s'' with heap:=h1}:=J.past (g:=s'.heap) p hstk hfr hex there0 (λq hq=>⟨_,(J0.pin q hq).1⟩) nw.he nw.ht he0 ht0
  obtain⟨m,hn,_⟩:=I2.loc;obtain⟨m',hn',_⟩:=I'.loc;obtain⟨oC',_,_,gC',_⟩:=id hn';obtain⟨oC,_,_,gC,_⟩:=id hn;have neA:a≠s3.heap.objs.size:=λz=>by
   have:=nw.he;rw[z]at this;exact absurd (gC'.symm.trans this) (by simp)
  have neFs:s3.heap.objs.size ∉ frs X.stack:=λz=>by
   rcases List.mem_cons.mp (I3.stkSub _ z)with z|z
   ·exact absurd I3.lt (by rw[<-z];exact lt_irrefl _)
   ·exact I3.nofs (le_refl _) z
  refine⟨m,p.slot.ns hn,λh2 hs2 cenv hcf=> ?_⟩
  have neL:s3.heap.objs.size≠X.env.locals:=ne_of_gt I3.lt;have neC: ∀x c,X.env.cells.lookup x=some c->c≠s3.heap.objs.size:=λx c e z=>by
   obtain⟨v,qq⟩:=I3.cell x c e;exact absurd (lt_of_lt_of_le qq.lt (by rw[z];exact le_refl _)) (lt_irrefl _)
  have neP: ∀p∈X.pn++pins,p.1≠s3.heap.objs.size:=λp hp z=>by
   have:=lt_size (I3.pin p hp).1;rw[z]at this;exact lt_irrefl _ this
  have fC:H2 s3.heap.objs.size=none:=I2.free;have J2:Inv X pins σ H2 {s'' with heap:=h2}:=Inv.turned (s:={s'' with heap:=h1}) (h':=h2) (t':=s''.toks) (it:=s3.heap.objs.size) Jp (λb o hb e=>(hs2.2 b hb).trans e) fC neL (.inr I3.sz) neC neP
  have trN: ∀T,Tr h1 a T->T≠s3.heap.objs.size:=λT q z=>by
   rcases p.tr T q with y|y|y|y
   ·exact neFs (z▸y)
   ·exact neA (y.symm.trans z)
   ·have:=nw.ht T y;rw[z]at this;exact absurd (gC'.symm.trans this) (by simp)
   ·rw[z]at y;exact absurd (gC.symm.trans y) (by simp)
  have tr2: ∀T,Tr h2 a T->Tr h1 a T:=λT ⟨oe,vs,q1,q2,q3⟩=>⟨oe,vs,(hs2.2 a neA).symm.trans q1,q2,q3⟩
  have held2:HeldW X.base X.stack a (.ref C) a0 X.env.locals h2:=by
   obtain⟨_,k2,_,oe,vs,T,oT,ts,q1,q2,q3,q4,q5,q6,q7,q8⟩:=hel;have nT:=trN T ⟨oe,vs,q1,q3,q4⟩;exact⟨λb o q=>J2.bk b o q,k2,J2.stack,oe,vs,T,oT,ts,(hs2.2 a neA).trans q1,q2,q3,q4,q5,q6,(hs2.2 T nT).trans q7,q8⟩
  have hd1: ∀b∈frs X.stack,∀o,h1.get? b=some o-> ∀vs,o.data≠ .fields vs:=λb hb o q=>by
   obtain⟨_,o',q',n⟩:=Jp.stack.mem (b:=b) hb;rw[q]at q';cases q';exact n
  have nw0:sF X.s₀.heap a s''.heap:=⟨none0 a nw.he,λT q=>none0 T (nw.ht T q)⟩
  have nw1:sF X.s₀.heap a h1:=nw0.past p (λb o q=>J.base.there b o q (by rw[hex];simp)) hd1
  refine aM4 (L:=X.env.locals) (hcf.trans hfr) held2 (hH pins σ H2 _ a C X.env.locals a0 o J2 hfr held2 he0 (λT q=>qH J.hok p J.stkFree he0 ht0 T (tr2 T q)) ⟨nw1.he,λT q=>nw1.ht T (tr2 T q)⟩ (λd q=> ?_) hE)
  obtain⟨oe,q1,q2⟩:=xa.dk p.dk d q;exact⟨oe,(hs2.2 a neA).trans q1,q2⟩
end L2
end
section
namespace M
open PySem PySem.Spec PyProof.Rows L2
def lEX (K:PySem.W.Frag)(mg:Str->Option Value)(E:XK)(t:XP->UE):TE:=λσ H Q=> ∃C ρ Q0 Ex,EOk K C ρ σ H/\t Ex ρ Q0/\(∀b ρ' v H',Q0 b ρ'->Frz ρ ρ'->bU H H'->fX K (Av C ρ' σ) H H' b v->Q v H')/\
 ∀n Cl es o H',Ex n es->mg n=some (.ref Cl)->bU C.H0 H'->XR K C.A0 H' n es o->E (.ref Cl) o H'
def lAX (K:PySem.W.Frag)(mg:Str->Option Value)(E:XK)(t:XP->UA):TA:=λσ H Q=> ∃C ρ Q0 Ex,EOk K C ρ σ H/\t Ex ρ Q0/\(∀ds ρ' vs H',Q0 ds ρ'->Frz ρ ρ'->bU H H'->aN K (Av C ρ' σ) H' ds vs->Q vs H')/\
 ∀n Cl es o H',Ex n es->mg n=some (.ref Cl)->bU C.H0 H'->XR K C.A0 H' n es o->E (.ref Cl) o H'
def PUE (X:Cx)(E:XK)(e:Expr)(t:XP->UE):Prop:=PE X e (lEX X.K X.mg E t)
def PUAE (X:Cx)(E:XK)(es:List Expr)(t:XP->UA):Prop:=PA X es (lAX X.K X.mg E t)
section
variable {X:Cx}{E:XK}{e:Expr}{es:List Expr}{pos:Pos}{K:PySem.W.Frag}
theorem a10 {k k':Nat}{ps:List Str}{φ:ΦX}{x:Str}{p:Pos}{t:UA}(F:FnX X.prog X.w X.K X.mg X.base x ps k φ)(hr:cV k' X.A)(hk:k<=k')(hp:jN (CXr X.prog X.w X.base) X E)(hg:Gl X x)(ha:PUA X (e::es) t)(hdb:(x==("__debug__":Str))=false:=by decide)
  (he:starEach (e::es) X.env=(false,eval e X.env)::starEach es X.env:=by rfl) (hpl:(backTo pos (starEach es X.env)).any (·.1)=false:=by rfl):PUE X E (.Call (.Name x p) (e::es) [] pos) (λEx=>n8 φ t Ex):=by
 obtain⟨f,fd,G,b,kp,m⟩:=F.ex;exact bP (zN G (hr.mono hk) hg m kp b .nil hp ha hdb he hpl) λσ H Q ⟨C,ρ,Q0,Ex,I,h,k,kx⟩=>⟨C,ρ,_,I,h,λds ρ1 vs H1 q f s r=>aT8 I f s r q (λb v H' q' s' r'=>k b ρ1 v H' q' f (s.trans s') (r'.from s)) kx⟩
theorem aH8 {te:XP->UE}{t:UA}(ha:PUE X E e te)(hr:PUA X es t)(hs:starEach (e::es) X.env=(false,eval e X.env)::starEach es X.env:=by rfl):PUAE X E (e::es) (λEx=>a6 (te Ex) t):=
 aQ5 (vC ha hr hs) λσ H Q ⟨C,ρ,Q0,Ex,I,h,k,kx⟩=>⟨C,ρ,_,Ex,I,h,λx ρ1 v H1 q1 f1 s1 r1=>by
  have I1:=(I.frz f1).same s1;refine⟨C,ρ1,_,I1,q1,λxs ρ2 vs H2 q2 f2 s2 r2=> ?_⟩
  exact k _ ρ2 _ H2 q2 (f1.trans f2) (s1.trans s2) (.cons ((r1.rep λa z=>I.avF f1 z).mono (.sub s2 λa=>f2.av)) r2),kx⟩
theorem ue_tup {t:XP->UA}{x1}(h:PUAE X E es t):PUE X E (.Tuple es x1 pos) (λEx=>mR (t Ex)):=
 bP (aP7 h) λσ H Q ⟨C,ρ,Q0,Ex,I,h,k,kx⟩=>⟨C,ρ,_,Ex,I,h,λl ρ1 vs H1 q f s r=>by
  obtain⟨hz,q⟩:=q;refine⟨by rw[<-r.length];exact hz,λp n=> ?_⟩
  have I1:=(I.frz f).same s;exact k _ ρ1 _ _ q f (s.trans (bI n _)) (dC (λa z=>I1.avSome z) n r),kx⟩
theorem aM5 {T:String}{g:List D->(B->Prop)->Prop}{x:Str}{p:Pos}{t:XP->UA}(hc:jP X (.type T) g)(hg:Gl X x)(hm:X.mg x=none)(hv:bootBuiltins x=some (.type T))(ha:PUAE X E (e::es) t)(hn:x≠"__name__":=by decide)(hdb:(x==("__debug__":Str))=false:=by decide)
  (he:starEach (e::es) X.env=(false,eval e X.env)::starEach es X.env:=by rfl) (hpl:(backTo pos (starEach es X.env)).any (·.1)=false:=by rfl):PUE X E (.Call (.Name x p) (e::es) [] pos) (λEx=>aK g (t Ex)):=
 bP (yG callAny hg hm hv ha hn hdb he hpl) λσ H Q ⟨C,ρ,Q0,Ex,I,h,k,kx⟩=>⟨C,ρ,_,Ex,I,h,λds ρ1 vs H1 q f s r=>by
  have I1:=(I.frz f).same s;exact hc (Av C ρ1 σ) H1 ds vs _ Q (λa z=>I1.avSome z) r q λb v H' q' s' r'=>k b ρ1 v H' q' f (s.trans s') (r'.from s),kx⟩
theorem b43 {te:XP->UE}{y:Str}{pos':Pos}(i:Nat)(hN:X.N.Nodup)(hi:X.N[i]? =some y)(hx:Loc X.env.scope y)(he:PUE X E e te)(hs:swapsWith e (some (.Name y pos')) pos.line X.env=pure false:=by rfl)(hf:X.fn y=true\/X.env.scope.names.lookup y=some .local:=by first|exact .inl rfl|exact .inr rfl|assumption)
  (hl: ∀pins σ H s,Inv X pins σ H s->i<σ.length:=by intro pins σ H s I;rw[I.len];decide):aD8 X E (.Assign [.Name y pos'] e pos) (λEx=>aX i (te Ex)):=by
 intro pins s σ H D I q;refine aP1 hN hi hx he hs hf pins s σ H D I ?_;obtain⟨C,ρ,D0,Ex,J,h,k,kx⟩:=q;exact⟨C,ρ,_,Ex,J,h,λb ρ1 v H1 q f s1 r=>k.nx _ _ _ q ((J.frz f).store s1 r (hl pins σ H s I)),kx⟩
theorem aH9 {te:XP->UE}(he:PUE X E e te):aD8 X E (.Return (some e) pos) (λEx=>cG (te Ex)):=
 qP (aB0 he) λD σ H ⟨C,ρ,D0,Ex,I,h,k,kx⟩=>⟨C,ρ,_,Ex,I,h,λb ρ' v H' q f s r=>k.rt b v H' q (I.ext.trans s) (r.back I.ext λa z=> .inl z),kx⟩
theorem lCompX {mg:Str->Option Value}{E:XK}{js:List Nat}{cap:List (Option Nat)}{last:Nat}{ui:UI}{g:UG}{T:List Nat}{tt:UT}{te:XP->UE}(hl:last<cap.length)(hT:last ∉ T)(σ:L2.St)(H:Hp)(Q:VK)(h:lEX K mg E (λEx=>cQ js cap last ui g tt (te Ex)) σ H Q) :
  w8 cap last (lI K ui) (lG K T g) (lT K tt) (lEX K mg E te) σ H Q:=by
 obtain⟨C,ρ,Q0,Ex,I,h,k,kx⟩:=h;refine⟨C,ρ,_,I,h,λn it ρ1 J H1 q f s ok Dn nD=> ?_⟩
 obtain⟨Pv,p0,turn,fin⟩:=q;have fz:=wA js ρ1;have I1:EOk K C (l5 ρ1 js) σ H1:=((I.frz f).same s).frz fz;generalize l5 ρ1 js=ρ2 at fz I1 p0 fin;have P12: ∀{A':AS} {H':Hp},fG (Av C ρ2 σ) H1 A' H'->fG (Av C ρ1 σ) H1 A' H':=λp b o nb e=>p b o (λz=>nb (fz.av z)) e
 have I2:=aS0 I1 hl nD;have own0: ∀{ρ':Ev} {σ':L2.St} {H':Hp},EOk K ⟨H1,Av C ρ2 σ⟩ ρ' σ' H'->fG (Av C ρ2 σ) H1 (Av ⟨H1,Av C ρ2 σ⟩ ρ' σ') H':=λ{ρ' σ' H'} J' b o nb e=>by
  refine⟨?_,J'.ext b o e⟩
  rintro(z| ⟨i,l,h1,h2⟩)
  ·exact nb z
  ·obtain⟨a,vs,h3,h4,h5,_⟩:=J'.ow i l h1;rw[h2]at h3;cases h3;have e':(⟨H1,Av C ρ2 σ⟩:C0).H0 b=some o:=e;rw[h5]at e';cases e'
 have sal:(j4 σ cap last Dn)[last]? =some (some (.ref Dn)):=by
  unfold j4;exact cI (by rw[length_map];exact hl)
 refine⟨λi m σ' H'=>m=n-i/\i<=n/\σ'[last]? =some (some (.ref Dn))/\ ∃ρ',EOk K ⟨H1,Av C ρ2 σ⟩ ρ' σ' H'/\Pv i ρ',⟨n,rfl,zero_le _,sal,_,I2,p0⟩,?_⟩
 rintro i m σ' H' ⟨rfl,hi,hlast,ρ',J',p'⟩;have P:=P12 (own0 J')
 by_cases hlt:i<n
 ·refine .inr ⟨ok.go _ _ i P hlt,λσ2 H2=>σ2[last]? =some (some (.ref Dn))/\ ∃ρ3,EOk K ⟨H1,Av C ρ2 σ⟩ ρ3 σ2 H2/\Pv (i+1) ρ3,λσ2 H2 z=>⟨n-(i+1),by omega,rfl,hlt,z⟩,λx H2 y=> ?_⟩
  obtain⟨s2,r2⟩:=ok.yld _ _ i x H2 P (λa z=>J'.avSome z) hlt y
  refine⟨_,ρ',.pu (it i),H',_,J',s2,r2,turn i ρ' hlt p',λρ3 σ3 H3 q3 J3 same3=> ?_⟩
  have l3:σ3[last]? =some (some (.ref Dn)):=(same3 last hT).trans hlast;refine⟨_,ρ3,_,J3,q3,λc ρ4 H4 q4 f4 s4=> ?_⟩
  have J4:=(J3.frz f4).same s4;cases c with
  | false=>
   dsimp only at q4⊢;rw[if_neg Bool.false_ne_true]at q4⊢;exact⟨l3,ρ4,J4,q4⟩
  | true=>
   dsimp only at q4⊢;rw[if_pos rfl]at q4⊢;refine⟨_,ρ4,_,Ex,J4,q4,λb ρ5 v H5 q5 f5 s5 r5=> ?_,λn Cl es o H' ex hm s' xr=>kx n Cl es o H' ex hm (I1.ext.trans s') (xr.mono (.sub (.refl _) λa z=> .inl z))⟩
   have J5:=(J4.frz f5).same s5;obtain⟨l,hl5,hz,q5⟩:=jD q5;obtain⟨a,vs,g1,g2,g3,g4⟩:=J5.ow last l hl5;rw[l3]at g1;cases g1;refine⟨vs,g2,by rw[<-g4.length];exact hz,l3,_,J5.write hl5 l3 (g4.append (.cons (r5.rep λa z=>J4.avF f5 z) .nil)),q5⟩
 ·have e:i=n:=by omega
  subst e;obtain⟨l,hl5,q5⟩:=jD (fin ρ' p');obtain⟨a,vs,g1,g2,g3,g4⟩:=J'.ow last l hl5;rw[hlast]at g1;cases g1;refine .inl ⟨ok.stop _ _ P,k _ _ _ _ q5 (f.trans fz) (s.trans J'.ext) ⟨Dn,vs,rfl,s.free nD,g2,?_⟩⟩;refine g4.mono λb o nb e=>⟨?_,e⟩
  rintro(z|z)
  ·exact nb (.inl z)
  ·subst z;exact nb (.inr ⟨last,l,hl5,hlast⟩)
theorem b44 {elt iter tg:Expr}{ifs:List Expr}{scope:Scope}{N:List Str}{js:List Nat}{cap:List (Option Nat)}{last:Nat}{ui:UI}{g:UG}{T:List Nat}{tt:UT}{te:XP->UE}(hc:X.calm=true)(hi:PUI X tg iter ui)(S:bC X.env X.N N cap scope)
  (hN: ∀x,N[last]? =some x->scope.names.lookup x=none) (hl:last<cap.length) (hT:last ∉ T)
  (hg: ∀cl C s H fp pins,PUG (aJ X N scope cl C s H fp pins) tg T g) (ht: ∀cl C s H fp pins,PTs (aJ X N scope cl C s H fp pins) ifs (lT X.K tt))
  (he: ∀cl C s H fp pins xe,jN (CXr X.prog X.w X.base) ((aJ X N scope cl C s H fp pins).wish xe) E->PUE ((aJ X N scope cl C s H fp pins).wish xe) E elt te)
  (hH:Holds X E) (hstk:X.stack=X.env::X.outer) (hfr:X.env.frame=some X.env.locals) (hex:X.ex=[]) (hfree: ∀x∈scope.names,x.2≠ .free)
  (hs: ∀x,foldedSetIterable iter X.env x=pure x:=by intro _;rfl):PUE X E (.ListComp elt [⟨tg,iter,ifs,0⟩] scope pos) (λEx=>cQ js cap last ui g tt (te Ex)):=
 bP (aU2 (g:=lG X.K T g) (tt:=lT X.K tt) (te:=lEX X.K X.mg E te) hc hi S hN hg ht he hH hstk hfr hex hfree hs) (lCompX hl hT)
end
end M
end
section
namespace L2
open PySem PySem.Spec PyProof.Rows
section
variable {X:Cx}
def tTryN (C1:Addr)(i:Nat)(tb:XK->TS)(th1:Addr->Option Addr->TS):TS:=λD σ H=> ∃E,tb E D σ H/\ ∀C o H',E (.ref C) o H'->C=C1/\ ∀a,th1 a o (a08 i D) (σ.set i (some (.ref a))) H'
theorem b45 {body:List Stmt}{b0:Stmt}{suite1:List Stmt}{hrest:List ExceptHandler}{r1 y:Str}{rp1 hp1 pos:Pos}{C1 R1:Addr}{B newId initId:String}{bmB:List Value}{tb:XK->TS}{th1:Addr->Option Addr->TS}{i:Nat}(FB:ExcBaseFacts B newId initId bmB)(hstk:X.stack=X.env::X.outer)(hfr:X.env.frame=some X.env.locals)(hex:X.ex=[])(hc:X.calm=true)
  (hbody: ∀(xe:Value->Shared->Prop) (E:XK) (pins:List (Addr×Obj)) (s:Shared) (σ:St) (H:Hp) (D:rF),Inv (X.wish xe) pins σ H s->sH (CXr X.prog X.w X.base) (X.wish xe) E pins σ->tb E D σ H->wpAny (model X.prog X.w) X.A (execs body X.env) (SP (X.wish xe) pins D) xe s)
  (hs1: ∀a oe o,oe.cls= .ref C1->(∀d,o=some d->oe.dict=some d)->(∀c,oe.data≠ .cls c)->PSs (X.asX a oe) (b0::suite1) (th1 a o)) (hg1:Gl X r1) (hm1:X.mg r1=some (.ref R1)) (hR1:XOk X.K R1 bmB newId)
  (hu:a07 X.K R1 C1 bmB newId true) (hN:X.N.Nodup) (hi:X.N[i]? =some y) (hy:X.env.scope.names.lookup y=some .local) (hd1:(r1==("__debug__":Str))=false:=by decide) :
  PS X (.Try body (.ExceptHandler (some (.Name r1 rp1)) (some y) (b0::suite1) hp1::hrest) [] [] pos) (tTryN C1 i tb th1):=by
 rintro pins s σ H D I ⟨E,hb,hx⟩;refine wpAny_Try_except ?_
 have goX:sH (CXr X.prog X.w X.base) (X.wish λe s1=>wpAny (model X.prog X.w) X.A (noteFrame e X.env) (λ_ s2=>wpAny (model X.prog X.w) X.A (setFlight e none) (λ_ s3=>wpAny (model X.prog X.w) X.A (handleBy e X.env (.ExceptHandler (some (.Name r1 rp1)) (some y) (b0::suite1) hp1::hrest)) (SP X pins D) X.xe s3) X.xe s2) X.xe s1) E pins σ:=by
  rintro H1 s1 e s' J ⟨a,C,o',H',rfl,ho,hbr,un,hok,⟨⟨a0,fl⟩,fe,ft⟩,nw,xa,hE⟩;have J0:=J.unwish;have J1:Inv X pins σ H' s':=J0.call' ho un hok hbr (λb z=>absurd z (by simp))
  have fl':FlyingW X.base X.stack a (.ref C) a0 s'.heap:=fl;have frs':=J1.ok.frames;have g0: ∀b o,s1.heap.get? b=some o-> ∃o',s'.heap.get? b=some o':=λb o q=>un.there b o q (by simp)
  have gs: ∀b o,X.s₀.heap.get? b=some o-> ∃o',s1.heap.get? b=some o':=λb o q=>J0.base.there b o q (by rw[hex];simp)
  have gp: ∀q∈X.pn++pins,∃o',s1.heap.get? q.1=some o':=λq hq=>⟨_,(J0.pin q hq).1⟩
  show wpAny _ _ (noteFrame (.ref a) X.env) _ _ s'
  rw[hstk]at fl' frs';refine a73 frs' hfr fl' λh2 held p2=> ?_
  rw[<-hstk]at p2 held fl';have J2:=J1.past (g:=s1.heap) p2 hstk hfr hex gs gp nw.he nw.ht fe ft;have n2:=nw.past p2 g0 (b38 held.2.2.1);have g2:=wL nw p2 g0 (b38 fl'.2.2.1);have t2:=qH J1.hok p2 J1.stkFree fe ft;refine wJ held λh3 fl3 p3=> ?_
  have J3:=J2.past (g:=s1.heap) p3 hstk hfr hex gs gp n2.he n2.ht fe t2;have n3:=n2.past p3 g2 (b38 fl3.2.2.1);have g3:=wL n2 p3 g2 (b38 held.2.2.1);have t3:=qH J2.hok p3 J2.stkFree fe t2;obtain⟨oe,he,hcl⟩:=fl3.there;obtain⟨rfl,hth⟩:=hx C o' H' hE
  ·refine wpAny_handleBy_cons (codeAny_handlers_test (qC (X:=X.inX a) (J3.inX a) hg1 hm1 ?_ hd1)) (by intro q;cases q)
   refine b41 FB J3.kIn hu hR1 he hcl ?_
   refine codeAny_handlers_suite_as (wJ fl3 λh4 fl4 p4=> ?_)
   have J4:=J3.past (g:=s1.heap) p4 hstk hfr hex gs gp n3.he n3.ht fe t3;obtain⟨oe4,he4,hcl4⟩:=fl4.there;have xa4: ∀d,o'=some d->oe4.dict=some d:=λd q=>by
    obtain⟨o5,e1,e2⟩:=((xa.dk p2.dk).dk p3.dk).dk p4.dk d q;rw[he4]at e1;cases e1;exact e2
   have nc4: ∀c,oe4.data≠ .cls c:=λc z=>by
    obtain⟨_,_,_,oe5,vs5,_,_,_,he5,_,hd5,_⟩:=fl4;rw[he5]at he4;cases he4;rw[hd5]at z;cases z
   have notF:a ∉ frs X.stack:=λz=>by
    obtain⟨_,o',q',n⟩:=fl4.2.2.1.mem (b:=a) z;obtain⟨_,_,_,oe5,vs5,_,_,_,he5,_,hd5,_⟩:=fl4;rw[he5]at q';cases q';exact n vs5 hd5
   have hin: ∀b,b∈frs X.stack↔b=X.env.locals\/b∈X.fs:=λb=>by
    rw[hstk];unfold Cx.fs frs;rw[filterMap_cons,hfr];exact mem_cons
   have J5:Inv (X.asX a oe4) pins σ H' {s' with heap:=h4}:=by
    have K4:=J4.inX a;refine⟨⟨K4.ok.mod,K4.ok.kind,K4.ok.glob,K4.ok.blt,K4.ok.above,K4.ok.inj,K4.ok.has,K4.ok.cab,K4.ok.hd,K4.ok.frames,K4.ok.stk,K4.ok.exf,K4.ok.bs,K4.ok.bsz,K4.ok.noex,K4.ok.exfs,K4.ok.funs,K4.ok.frf⟩,K4.os,K4.bare,K4.base,K4.loc,K4.cell,K4.free,K4.freeC,λp hp=> ?_,K4.hok,K4.len⟩
    rcases List.mem_cons.mp (show p∈(a,oe4)::(X.pn++pins)from hp)with rfl|hp
    ·refine⟨he4,fe,λz=>notF ((hin a).mpr (.inl z)),λz=>notF ((hin a).mpr (.inr z)),λv z=> ?_⟩
     obtain⟨_,_,_,oe5,vs5,_,_,_,he5,_,hd5,_⟩:=fl4;rw[he5]at he4;cases he4;rw[hd5]at z;cases z
    ·exact K4.pin p hp
   refine lP (X:=X.asX a oe4) J5 hN hi (.inl hy) (show RelV (.ref a) (.ref a)from rfl) (λs6 J6=> ?_) (.inr hy)
   have out: ∀{σ':St} {H2:Hp} {s7:Shared},Inv (X.asX a oe4) pins σ' H2 s7->Inv X pins σ' H2 s7:=λz=>
    Inv.outX (e:=a) ⟨⟨z.ok.mod,z.ok.kind,z.ok.glob,z.ok.blt,z.ok.above,z.ok.inj,z.ok.has,z.ok.cab,z.ok.hd,z.ok.frames,z.ok.stk,z.ok.exf,z.ok.bs,z.ok.bsz,z.ok.noex,z.ok.exfs,z.ok.funs,z.ok.frf⟩,z.os,z.bare,z.base,z.loc,z.cell,z.free,z.freeC,λp hp=>z.pin p (mem_cons_of_mem _ hp),z.hok,z.len⟩ λ_=>J4.ok.hd hc
   refine wpAny_mono (hs1 a oe4 o' hcl4 xa4 nc4 pins _ _ H' (a08 i D) J6 (hth a)) (λf s7 q=> ?_) λ_ _ z=>z.elim
   show wpAny _ _ (do bindName X.env y .none;unbindBehindTheSuite X.env y hp1) _ _ s7
   cases f with
   | next=>obtain⟨σ',H2,I7,q⟩:=q;exact vJ (out I7) hN hi hy λs8 I8=>⟨_,H2,I8,q⟩
   | brk=>obtain⟨σ',H2,I7,q⟩:=q;exact vJ (out I7) hN hi hy λs8 I8=>⟨_,H2,I8,q⟩
   | cont=>obtain⟨σ',H2,I7,q⟩:=q;exact vJ (out I7) hN hi hy λs8 I8=>⟨_,H2,I8,q⟩
   | ret u=>obtain⟨v,σ',H2,I7,r,q⟩:=q;exact vJ (out I7) hN hi hy λs8 I8=>⟨v,_,H2,I8,r,q⟩
 refine wpAny_mono (hbody _ E pins s σ H D (I.wish _) goX hb) (λf s1 q=> ?_) λ_ _ z=>z
 have q':=q.unwish;cases f with
 | next=>exact wpAny_execs_nil q'
 | ret v=>exact q'
 | brk=>exact q'
 | cont=>exact q'
theorem tup_at {es:List Expr}{pos:Pos}{x1}{pins:List (Addr×Obj)}{s:Shared}{σ:St}{Q:VK}(h:wpAny (model X.prog X.w) X.A (spliced (backTo pos (starEach es X.env))) (AP X pins σ λxs H1=>xs.length<=sizeLine/\ ∀p,H1 p=none->Q (.ref p) (upd H1 p (.tup xs))) X.xe s):wpAny (model X.prog X.w) X.A (eval (.Tuple es x1 pos) X.env) (EP X pins σ Q) X.xe s:=by
 refine wpAny_Tuple_spliced (thn h λus s1 ⟨xs,H1,I1,r,z,q⟩=>⟨by rw[<-r.length];exact z,?_⟩)
 have hf:H1 s1.heap.objs.size=none:=I1.hok.fresh (le_refl _);refine⟨.ref s1.heap.objs.size,upd H1 s1.heap.objs.size (.tup xs),I1.laid (t':=s1.toks) (λb u e=>get?_push_of_some _ e) (le_refl _) ?_,rfl,q _ hf⟩
 exact⟨z,us,r,⟨_,get?_push_size _ rfl,rfl,_,rfl⟩⟩
end
end L2
namespace M
open PySem PySem.Spec PyProof.Rows L2
section
variable {X:Cx}{e c:Expr}{es:List Expr}{a b:List Stmt}{pos:Pos}{t u:USY}{tc:UT}{K:PySem.W.Frag}
def aU3 (i:Nat)(n1:Str)(mk:Addr->Addr->List D->D)(tb:USY)(th1:D->US):US:=λE ρ=>tb (λn es ρ1=>n=n1/\ ∀a d,th1 (mk a d es) (yY i E) (ρ1.set i (some (.pu (mk a d es))))) E ρ
theorem b46 {body:List Stmt}{b0:Stmt}{suite1:List Stmt}{hrest:List ExceptHandler}{r1 y:Str}{rp1 hp1:Pos}{R1:Addr}{B newId initId:String}{bmB:List Value}{tb:USY}{th1:D->US}{mk:Addr->Addr->List D->D}(i:Nat)(hmk:mkX r1 mk)(FB:ExcBaseFacts B newId initId bmB)(hstk:X.stack=X.env::X.outer)(hfr:X.env.frame=some X.env.locals)(hex:X.ex=[])(hc:X.calm=true)
  (hbody:PUY X body tb) (hs1: ∀a oe x,oe.cls= .ref R1->XD a oe x->mS (X.asX a oe) (b0::suite1) (th1 x)) (hg1:Gl X r1) (hm1:X.mg r1=some (.ref R1)) (hR1:XOk X.K R1 bmB newId)
  (hu:tE X.K R1 R1 bmB newId) (hN:X.N.Nodup) (hi:X.N[i]? =some y) (hy:X.env.scope.names.lookup y=some .local) (hl: ∀pins σ H s,Inv X pins σ H s->i<σ.length) (hd1:(r1==("__debug__":Str))=false:=by decide) :
  PUS X (.Try body (.ExceptHandler (some (.Name r1 rp1)) (some y) (b0::suite1) hp1::hrest) [] [] pos) (aU3 i r1 mk tb th1):=by
 intro pins s σ H D J ⟨C0,ρ,D0,I,h,k⟩;refine b45 (C1:=R1) (R1:=R1) (i:=i) (tb:=λE=>lSY X.K X.mg E tb) (th1:=λa o D σ H=> ∃x,(x= .adr a\/ ∃d ks l,x= .xob a d ks l/\o=some d)/\lS X.K (th1 x) D σ H) FB hstk hfr hex hc hbody (λa oe o ho hod hnc=> ?_) hg1 hm1 hR1 hu hN hi hy hd1 pins s σ H D J ?_
 ·rintro pins s σ H D J ⟨x,hx,hl⟩;refine hs1 a oe x ho ?_ pins s σ H D J hl;rcases hx with rfl| ⟨d,ks,l,rfl,e⟩
  ·exact .inl rfl
  ·exact .inr ⟨d,ks,l,rfl,hod d e,hnc⟩
 refine⟨λcls o H'=> ∃n Cl es ρ1,cls=Value.ref Cl/\X.mg n=some (.ref Cl)/\(n=r1/\ ∀a d,th1 (mk a d es) (yY i D0) (ρ1.set i (some (.pu (mk a d es)))))/\EOk X.K C0 ρ1 σ H'/\XR X.K (Av C0 ρ1 σ) H' n es o,?_,?_⟩
 ·exact⟨C0,ρ,D0,_,I,h,k,λn Cl es o ρ1 H' ex hm I' xr=>⟨n,Cl,es,ρ1,rfl,hm,ex,I',xr⟩⟩
 ·rintro Cl o H' ⟨n,Cl',es,ρ1,e1,hm,ex,I',xr⟩;cases e1;obtain⟨rfl,ht⟩:=ex
  ·rw[hm1]at hm;cases hm;refine⟨rfl,λa=> ?_⟩
   have fin:DOk X.K C0 (yY i D0) (a08 i D):=⟨λρ' σ' H2 q I2=>k.nx _ _ _ q (I2.gone i),k.rt,λρ' σ' H2 q I2=>k.bk _ _ _ q (I2.gone i),λρ' σ' H2 q I2=>k.ct _ _ _ q (I2.gone i)⟩
   rcases hmk with⟨hk,rfl⟩| ⟨hk,rfl⟩
   ·exact⟨.adr a,.inl rfl,C0,_,yY i D0,I'.store (.refl _) (show fX X.K (Av C0 ρ1 σ) H' H' (.pu (.adr a)) (.ref a)from by simp only[fX,Rep]) (hl pins σ H s J),ht a a,fin⟩
   ·cases o with
    | none=>exact absurd xr hk
    | some d=>
     refine⟨.xob a d (qT n) es,.inr ⟨d,_,_,rfl,rfl⟩,C0,_,yY i D0,I'.store (.refl _) (show fX X.K (Av C0 ρ1 σ) H' H' (.pu (.xob a d (qT n) es)) (.ref a)from ?_) (hl pins σ H s J),ht a d,fin⟩
     obtain⟨vs,x1,x2,x3,x4⟩:=xr;simp only[fX,Rep];exact⟨vs,trivial,x1,x2,x3,x4⟩
theorem tG {k k':Nat}{ps:List Str}{φ:ΦX}{x:Str}{p:Pos}{t:UA}(F:FnX X.prog X.w X.K X.mg X.base x ps k φ)(hr:cV k' X.A)(hk:k<=k')(hg:Gl X x)(ha:PUA X (e::es) t)(hdb:(x==("__debug__":Str))=false:=by decide)
  (he:starEach (e::es) X.env=(false,eval e X.env)::starEach es X.env:=by rfl) (hpl:(backTo pos (starEach es X.env)).any (·.1)=false:=by rfl):PU X (.Call (.Name x p) (e::es) [] pos) (n8 φ t λ_ _=>False):=by
 obtain⟨f,fd,G,b,kp,m⟩:=F.ex;exact bP (zN (E:=λ_ _ _=>False) G (hr.mono hk) hg m kp b .nil (λpins σ H s e s' I ⟨_,_,_,_,_,_,_,_,_,_,_,_,hE⟩=>hE.elim) ha hdb he hpl) λσ H Q ⟨C,ρ,Q0,I,h,k⟩=>⟨C,ρ,_,I,h,λds ρ1 vs H1 q f s r=>aT8 I f s r q (λb v H' q' s' r'=>k b ρ1 v H' q' f (s.trans s') (r'.from s)) λn Cl es o H' ex=>ex.elim⟩
theorem a11 {k k':Nat}{ps:List Str}{φ:ΦX}{x y:Str}{p cpos pos' tpos:Pos}{t:UA}{e0:Expr}{te0:UE}{x1}(i:Nat)(he0: ∀xe,PU (X.wish xe) e0 te0)(F:FnX X.prog X.w X.K X.mg X.base x ps k φ)(hr:cV k' X.A)(hk:k<=k')(hg:Gl X x)(ha: ∀xe,PUA (X.wish xe) (e::es) t)(hN:X.N.Nodup)(hi:X.N[i]? =some y)(hy:Loc X.env.scope y)
  (hl: ∀pins σ H s,Inv X pins σ H s->i<σ.length) (hdb:(x==("__debug__":Str))=false:=by decide)
  (he:starEach (e::es) X.env=(false,eval e X.env)::starEach es X.env:=by rfl) (hpl:(backTo cpos (starEach es X.env)).any (·.1)=false:=by rfl) (hs:swapsWith (.Tuple [e0,.Call (.Name x p) (e::es) [] cpos] x1 tpos) (some (.Name y pos')) pos.line X.env=pure false:=by rfl)
  (hs1:starEach [e0,.Call (.Name x p) (e::es) [] cpos] X.env=(false,eval e0 X.env)::starEach [.Call (.Name x p) (e::es) [] cpos] X.env:=by rfl) (hs2:starEach [.Call (.Name x p) (e::es) [] cpos] X.env=(false,eval (.Call (.Name x p) (e::es) [] cpos) X.env)::starEach [] X.env:=by rfl)
  (hf:X.fn y=true\/X.env.scope.names.lookup y=some .local:=by first|exact .inl rfl|exact .inr rfl|assumption) :
  PUY X [.Assign [.Name y pos'] (.Tuple [e0,.Call (.Name x p) (e::es) [] cpos] x1 tpos) pos] (λEx=>aX i (mR (a6 te0 (a6 (tF φ t Ex) aE)))):=by
 rintro xe E pins s σ H D I pa ⟨C,ρ,D0,Ex,I0,h,k,kx⟩;obtain⟨f,fd,G,b,kp,m⟩:=F.ex;refine wpAny_execs_cons (wpAny_Assign_Name (thn (tup_at (X:=X.wish xe) (σ:=σ) (pins:=pins) (Q:=λv H1=>D.nx (σ.set i (some v)) H1) ?_) λv s1 ⟨y',H1,I1,r1,q1⟩=>lP (X:=X.wish xe) I1 hN hi hy r1 (λs2 I2=>wpAny_execs_nil ⟨_,H1,I2,q1⟩) hf) hs)
 show wpAny _ _ (spliced (backTo tpos (starEach [e0,.Call (.Name x p) (e::es) [] cpos] X.env))) _ _ s
 rw[hs1];show wpAny _ _ (spliced ((false,eval e0 X.env)::backTo tpos (starEach [.Call (.Name x p) (e::es) [] cpos] X.env))) _ _ s
 refine Calls.spliced_cons (thn (he0 xe pins s σ H (λv0 H1=> ∃x0 ρ1,Frz ρ ρ1/\bU H H1/\fX X.K (Av C ρ1 σ) H H1 x0 v0/\a6 (tF φ t Ex) aE ρ1 λxs ρ2=>(x0.d::xs).length<=sizeLine/\D0.nx (ρ2.set i (some (.pu (.tup (x0.d::xs)))))) I ⟨C,ρ,_,I0,h,λx0 ρ1 v H1 q f s1 r=>⟨x0,ρ1,f,s1,r,q⟩⟩) λu s1 ⟨v0,H1,I1,r1,x0,ρ1,f1,sm1,rb,q1⟩=> ?_)
 have J1:=(I0.frz f1).same sm1;rw[hs2];show wpAny _ _ (spliced ((false,eval (.Call (.Name x p) (e::es) [] cpos) X.env)::backTo tpos (starEach [] X.env))) _ _ s1
 refine Calls.spliced_cons (thn (b42 (X:=X.wish xe) (Q:=λv2 H2=> ∃b ρ2,Frz ρ1 ρ2/\bU H1 H2/\fX X.K (Av C ρ2 σ) H1 H2 b v2/\(x0.d::[b.d]).length<=sizeLine/\D0.nx (ρ2.set i (some (.pu (.tup (x0.d::[b.d])))))) G (hr.mono hk) hg m kp b pa (ha xe) I1 ⟨C,ρ1,_,J1,q1,λds ρ2 vs H2 q f s r=> ?_⟩ hdb he hpl) λu2 s2 ⟨v2,H2,I2,r2,b2,ρ2,f2,sm2,rb2,hz,q2⟩=> ?_)
 ·have I1':=(J1.frz f).same s;show spX X.K X.mg φ (vs++[]) H2 _ E;rw[append_nil];exact⟨Av C ρ2 σ,ds,_,_,λa z=>I1'.avSome z,r,q,λb v H' q' s' r'=>⟨b,ρ2,f,s.trans s',r'.from s,q'⟩,λn Cl es o H' ex hm s' xr=>kx n Cl es o ρ2 H' ex hm (I1'.same s') xr⟩
 have J2:=(J1.frz f2).same sm2;refine thn (zM (X:=X.wish xe) tpos pins s2 σ H2 (λvs H3=>vs=[]/\H3=H2) I2 ⟨rfl,rfl⟩) λus s3 ⟨xs,H3,I3,r3,e1,e2⟩=> ?_
 subst e1 e2;refine⟨[v0,v2],_,I3,.cons r1 (.cons r2 r3),?_,λp np=>k.nx _ _ _ q2 ?_⟩
 ·simpa using hz
 ·have hA: ∀a,Av C ρ2 σ a->H3 a≠none:=λa z=>J2.avSome z
  have ra:Rep X.K (Av C ρ2 σ) H3 x0.d v0:=(rb.rep λa z=>I0.avF f1 z).mono (.sub sm2 λa=>f2.av)
  have rb':Rep X.K (Av C ρ2 σ) H3 b2.d v2:=rb2.rep λa z=>J1.avF f2 z
  exact J2.store (b:= .pu (.tup [x0.d,b2.d])) (bI np _) (dC hA np (.cons ra (.cons rb' .nil))) (hl pins σ H s I.unwish)
theorem uy_ifs {fY:List Stmt}{v:US}(hc: ∀xe,PUT (X.wish xe) c tc)(ha:PUY X a t)(hr:PUY X fY u)(hq: ∀xe,mS (X.wish xe) fY v):PUY X (.If c a [] pos::fY) (λEx D ρ=>tc ρ λb ρ1=>if b=true then t Ex {D with nx:=v D} ρ1 else u Ex D ρ1):=by
 rintro xe E pins s σ H D I pa ⟨C,ρ,D0,Ex,I0,h,k,kx⟩
 refine wpAny_execs_cons (wpAny_mono (Q:=SP (X.wish xe) pins {D with nx:=λσ' H'=>lS X.K v D σ' H'\/(σ'=σ/\lSY X.K X.mg E u D σ H')}) (wpAny_If (thn (hc xe pins s σ H (λd H1=>if d=true then lSY X.K X.mg E t {D with nx:=λσ' H'=>lS X.K v D σ' H'\/(σ'=σ/\lSY X.K X.mg E u D σ H')} σ H1 else lSY X.K X.mg E u D σ H1) I ⟨C,ρ,_,I0,h,λd ρ1 H1 q f s=> ?_⟩) λd s1 ⟨H1,I1,q1⟩=> ?_)) (λf s1 q=> ?_) λ_ _ z=>z)
 ·have I1:=(I0.frz f).same s;cases d with
  | true=>exact(if_pos rfl).mpr ⟨C,ρ1,{D0 with nx:=v D0},Ex,I1,by simpa using q,⟨λρ' σ' H' q' I'=> .inl ⟨C,ρ',D0,I',q',k⟩,k.rt,k.bk,k.ct⟩,kx⟩
  | false=>exact(if_neg (by decide)).mpr ⟨C,ρ1,D0,Ex,I1,by simpa using q,k,kx⟩
 ·cases d with
  | true=>exact ha xe E pins s1 σ H1 _ I1 pa (by simpa using q1)
  | false=>exact wpAny_execs_nil ⟨σ,H1,I1,.inr ⟨rfl,by simpa using q1⟩⟩
 ·cases f with
  | next=>
   obtain⟨σ',H',I',q⟩:=q;rcases q with q| ⟨rfl,q⟩
   ·exact hq xe pins s1 σ' H' D I' q
   ·exact hr xe E pins s1 σ' H' D I' pa q
  | ret v=>exact q
  | brk=>exact q
  | cont=>exact q
theorem uy_nil:PUY X [] (λ_=>bF):=λxe E pins s σ H D I pa ⟨C,ρ,D0,Ex,I0,h,k,kx⟩=>wpAny_execs_nil ⟨σ,H,I,k.nx _ _ _ h I0⟩
end
end M
end
section
namespace M
open PySem PySem.Spec PyProof.Rows L2
section
variable {X:Cx}{a C:Addr}{oe:Obj}{e0 d:D}{v:V}{u:Value}{b:Bool}{pos:Pos}
theorem a79 {K:PySem.W.Frag}{A:AS}{H:Hp}: ∀{rs:List Addr} {vs:List V},aN K A H (rs.map .adr) vs->vs=rs.map .ref
 | [],vs,r=>r.unnil
 | R::rs,vs,r=>by
  obtain⟨x,vr,rfl,r1,r2⟩:=aN.uncons r;rw[a79 r2];have:x= .ref R:=by simpa only[Rep]using r1
  rw[this];rfl
theorem a80: ∀{rs:List Addr} {us:List Value},aZ (rs.map V.ref) us->us=rs.map .ref
 | [],us,r=>by cases r;rfl
 | R::rs,us,r=>by
  cases r with
  | cons h t=>
   rename_i w ws
   have e:w=Value.ref R:=h;rw[e,a80 t];rfl
theorem cu_isT {rs:List Addr}(k:aD9 X.K C)(hp:(a,oe)∈X.pn)(hc:oe.cls= .ref C)(h0:XD a oe e0)(e:kitAny X.K (.ref C) (rs.map .ref)=some b):jP X (.builtin "isinstance") (gIs e0 (.tup (rs.map .adr)) b):=by
 intro A H ds vs Q0 Q hA r ⟨g1,g2⟩ q;subst g1;obtain⟨x,vr,rfl,r1,r2⟩:=r.uncons;obtain⟨y,vr2,rfl,r3,r4⟩:=r2.uncons;cases r4.unnil;have ex:x= .ref a:=h0.rep r1;subst ex;simp only[Rep]at r3;obtain⟨tp,ws,rfl,c,rs'⟩:=r3;have ew:=a79 rs';subst ew;have sq:SqT X.K H tp (rs.map V.ref):=c.imp And.right id
 refine⟨λxs H Q=> ∃tp,xs=[.ref a,.ref tp]/\SqT X.K H tp (rs.map V.ref)/\Q (.bl b) H,?_,⟨tp,rfl,sq,q _ _ H g2 (.refl _) dG⟩⟩
 rintro pins s σ H' xs us Q' I rv ⟨tp,rfl,sq,hq⟩;obtain⟨w1,w2,rfl,q1,q2⟩:=vals2 rv;obtain rfl:w1=Value.ref a:=q1;obtain rfl:w2=Value.ref tp:=q2;obtain⟨its,hv,it,_⟩:=I.tuple sq;have ei:=a80 hv;subst ei;obtain⟨⟨c,dd,dt,sl⟩,ho,h1,n,h2⟩:=it;cases h1;cases h2;have pin:=I.pin (a,oe) (List.mem_append.mpr (.inl hp))
 exact PySem.W.kia_tup (a76 k) I.kIn ⟨_,pin.1,hc⟩ ho e (λz=>nomatch z) λtk=>⟨.bl b,H',I.tok _,rfl,hq⟩
theorem a12 {x:Addr}{rs:List Addr}{o:Bool}{y:Str}{p py:Pos}{eT:Expr}{te:UE}(i:Nat)(k:aD9 X.K C)(hp:(x,oe)∈X.pn)(hc:oe.cls= .ref C)(h0:XD x oe e0)(hy:PE X (.Name y py) (vU i))(hr:PU X eT te)(hte: ∀ρ Q,Q (.pu (.tup (rs.map .adr))) ρ->te ρ Q)(hk:kitAny X.K (.ref C) (rs.map .ref)=some o)
  (hg:Gl X "isinstance") (hm:X.mg "isinstance"=none) (he:starEach [.Name y py,eT] X.env=(false,eval (.Name y py) X.env)::starEach [eT] X.env:=by rfl) (he2:starEach [eT] X.env=(false,eval eT X.env)::starEach [] X.env:=by rfl) (hpl:(backTo pos (starEach [eT] X.env)).any (·.1)=false:=by rfl) :
  PU X (.Call (.Name "isinstance" p) [.Name y py,eT] [] pos) (a77 e0 i o):=
 bP (bE (cu_isT k hp hc h0 hk) hg hm boot_isinstance (a7 (eY i hy) (a7 hr a8 he2) he) (by decide) (by decide) he hpl) λσ H Q ⟨C0,ρ,Q0,I,⟨h1,h2⟩,kk⟩=>⟨C0,ρ,Q0,I,by
  simp only[aK,a6,aA,yI,h1,aE,B.d];refine hte _ _ ?_
  first|exact⟨rfl,h2⟩|exact⟨trivial,h2⟩,kk⟩
end
end M
end
section
namespace L2
open PySem PySem.Spec PyProof.Rows
theorem tH {M:Model}{Γ:PySem.Ctx}{p:Pos}{t:Sem Fin}{fs:List Frame}{s:Shared}{e:End}{s':Shared}(h:Runs M Γ p t fs s e s'):s.toks<=s'.toks:=by
 induction h<;>first|exact le_refl _|assumption| (simp only[Shared.setGen]at *; omega)|omega
theorem aE2 {M:Model}{Γ:PySem.Ctx}{p:Pos}{g:Nat}{r:Resume}{s s':Shared}{res:GenResult}(h:Wakes M Γ p g r s res s'):s.toks<=s'.toks:=by
 unfold Wakes at h;split at h
 ·exact h.elim
 ·split at h
  ·obtain⟨e,s1,h1,_,_,rfl⟩:=h;exact(tH h1:(s.setGen g .running).toks<=s1.toks)
  ·obtain⟨_,rfl⟩:=h;exact le_refl _
  ·obtain⟨_,rfl⟩:=h;exact le_refl _
 ·obtain⟨e,s1,h1,_,_,rfl⟩:=h;exact(tH h1:(s.setGen g .running).toks<=s1.toks)
 ·obtain⟨_,rfl⟩:=h;exact le_refl _
 ·obtain⟨_,rfl⟩:=h;exact le_refl _
theorem b47 {α:Type}{M:Model}{Γ:PySem.Ctx}: ∀{t:Sem α} {Q:α->Pos->Shared->Prop} {E:Value->Pos->Shared->Prop} {p:Pos} {s:Shared},Sem.wp M Γ t Q E p s->Sem.wp M Γ t (λa p' s'=>Q a p' s'/\s.toks<=s'.toks) (λe p' s'=>E e p' s'/\s.toks<=s'.toks) p s:=by
 intro t
 induction t with
 | pure a=>intro Q E p s h;exact⟨h,le_refl _⟩
 | raise e=>intro Q E p s h;exact⟨h,le_refl _⟩
 | rule _ k ih=>intro Q E p s h;exact ih () h
 | «at» _ k ih=>intro Q E p s h;exact ih () h
 | load a _ k ih=>intro Q E p s ⟨o,q,h⟩;exact⟨o,q,ih o h⟩
 | update a _ f k ih=>intro Q E p s ⟨q,h⟩;exact⟨q,ih () h⟩
 | alloc o k ih=>intro Q E p s h;exact ih _ h
 | loadIfAlive a k ih=>intro Q E p s h;exact ih _ h
 | point _ k ih=>intro Q E p s h;exact ih () h
 | stack k ih=>intro Q E p s h;exact ih _ h
 | fresh k ih=>
  intro Q E p s h;exact Sem.wp_mono _ _ _ (λa p' s' z=>⟨z.1,le_trans (Nat.le_succ _) z.2⟩) (λa p' s' z=>⟨z.1,le_trans (Nat.le_succ _) z.2⟩) _ _ (ih _ h)
 | ask k ih=>intro Q E p s h;exact ih _ h
 | choose _ _ k ih=>intro Q E p s ⟨q,h⟩;exact⟨q,ih _ h⟩
 | os _ _ k ih=>intro Q E p s h;exact ih _ h
 | call c _ _ _ k ih=>
  intro Q E p s h;obtain⟨r,s1,h1,h2⟩:=h;have:=tH h1;exact⟨r,s1,h1,Sem.wp_mono _ _ _ (λa p' s' z=>⟨z.1,le_trans this z.2⟩) (λa p' s' z=>⟨z.1,le_trans this z.2⟩) _ _ (ih _ h2)⟩
 | handled _ k ih=>intro Q E p s h;exact ih _ h
 | newGen _ k ih=>intro Q E p s h;exact ih _ h
 | genState _ k ih=>intro Q E p s ⟨st,q,h⟩;exact⟨st,q,ih _ h⟩
 | resume _ _ _ k ih=>
  intro Q E p s ⟨res,s1,h1,h2⟩;have:=aE2 h1;exact⟨res,s1,h1,Sem.wp_mono _ _ _ (λa p' s' z=>⟨z.1,le_trans this z.2⟩) (λa p' s' z=>⟨z.1,le_trans this z.2⟩) _ _ (ih _ h2)⟩
 | thread k ih=>intro Q E p s h;exact ih _ h
 | unsupported _=>intro Q E p s h;exact h.elim
 | finish _=>intro Q E p s h;exact h.elim
 | register _ _=>intro Q E p s h;exact h.elim
 | _=>intro Q E p s h;exact h.elim
theorem fK {α:Type}{M:Model}{A:Around}{t:Sem α}{Q:α->Shared->Prop}{E:Value->Shared->Prop}{s:Shared}(h:wpAny M A t Q E s):wpAny M A t (λa s'=>Q a s'/\s.toks<=s'.toks) (λe s'=>E e s'/\s.toks<=s'.toks) s:=λΓ p hin=>b47 (h Γ p hin)
def PEp (X:Cx)(e:Expr)(t:TE):Prop:= ∀(pins:List (Addr×Obj)) (s:Shared) (σ:St) (H:Hp) (Q:VK),0<s.toks->Inv X pins σ H s->t σ H Q->wpAny (model X.prog X.w) X.A (eval e X.env) (EP X pins σ Q) X.xe s
def PAp (X:Cx)(es:List Expr)(t:TA):Prop:= ∀(pos:Pos) (pins:List (Addr×Obj)) (s:Shared) (σ:St) (H:Hp) (Q:List V->Hp->Prop),0<s.toks->Inv X pins σ H s->t σ H Q->wpAny (model X.prog X.w) X.A (spliced (backTo pos (starEach es X.env))) (AP X pins σ Q) X.xe s
def PSp (X:Cx)(st:Stmt)(t:TS):Prop:= ∀(pins:List (Addr×Obj)) (s:Shared) (σ:St) (H:Hp) (D:rF),0<s.toks->Inv X pins σ H s->t D σ H->wpAny (model X.prog X.w) X.A (exec st X.env) (SP X pins D) X.xe s
def aE3 (X:Cx)(sts:List Stmt)(t:TS):Prop:= ∀(pins:List (Addr×Obj)) (s:Shared) (σ:St) (H:Hp) (D:rF),0<s.toks->Inv X pins σ H s->t D σ H->wpAny (model X.prog X.w) X.A (execs sts X.env) (SP X pins D) X.xe s
def PEs (X:Cx)(e:Expr)(t:TE):Prop:= ∀(pins:List (Addr×Obj)) (s:Shared) (σ:St) (H:Hp) (Q:VK),Inv X pins σ H s->t σ H Q->wpAny (model X.prog X.w) X.A (eval e X.env) (λv s'=>EP X pins σ Q v s'/\s.toks<s'.toks) X.xe s
def PSt (X:Cx)(st:Stmt)(t:TS):Prop:= ∀(pins:List (Addr×Obj)) (s:Shared) (σ:St) (H:Hp) (D:rF),Inv X pins σ H s->t D σ H->wpAny (model X.prog X.w) X.A (exec st X.env) (λf s'=>SP X pins D f s'/\s.toks<s'.toks) X.xe s
section
variable {X:Cx}{e a b:Expr}{es:List Expr}{st:Stmt}{sts:List Stmt}{pos:Pos}{te ta tb:TE}{t:TA}{u v:TS}
theorem pep (h:PE X e te):PEp X e te:=λpins s σ H Q _ I q=>h pins s σ H Q I q
theorem pap (h:PA X es t):PAp X es t:=λpos pins s σ H Q _ I q=>h pos pins s σ H Q I q
theorem psp (h:PS X st u):PSp X st u:=λpins s σ H D _ I q=>h pins s σ H D I q
theorem pssp (h:PSs X sts u):aE3 X sts u:=λpins s σ H D _ I q=>h pins s σ H D I q
theorem aE4 {t t':TE}(h:PEp X e t')(w: ∀σ H Q,t σ H Q->t' σ H Q):PEp X e t:=λpins s σ H Q k I q=>h pins s σ H Q k I (w σ H Q q)
theorem PApimp {t t':TA}(h:PAp X es t')(w: ∀σ H Q,t σ H Q->t' σ H Q):PAp X es t:=λpos pins s σ H Q k I q=>h pos pins s σ H Q k I (w σ H Q q)
theorem aU4 {t t':TE}(h:PEs X e t')(w: ∀σ H Q,t σ H Q->t' σ H Q):PEs X e t:=λpins s σ H Q I q=>h pins s σ H Q I (w σ H Q q)
theorem b48 {t t':TS}(h:aE3 X sts t')(w: ∀D σ H,t D σ H->t' D σ H):aE3 X sts t:=λpins s σ H D k I q=>h pins s σ H D k I (w D σ H q)
theorem aU5 (ha:PEp X e te)(hr:PAp X es t)(hs:starEach (e::es) X.env=(false,eval e X.env)::starEach es X.env:=by rfl):PAp X (e::es) (b79 te t):=by
 intro pos pins s σ H Q k I h;rw[hs];show wpAny _ _ (spliced ((false,eval e X.env)::backTo pos (starEach es X.env))) _ _ s;refine Calls.spliced_cons (wpAny_mono (fK (ha pins s σ H _ k I h)) (λu s1 z=> ?_) λ_ _ z=>z.1)
 obtain⟨⟨x,H1,I1,r1,q1⟩,le⟩:=z;exact thn (hr pos pins s1 σ H1 _ (lt_of_lt_of_le k le) I1 q1) λus s2 ⟨xs,H2,I2,r2,q2⟩=>⟨x::xs,H2,I2,.cons r1 r2,q2⟩
theorem b49 (h:PAp X es t):PEp X (.List es pos) (tLst t):=by
 intro pins s σ H Q k I hq;refine wpAny_List_spliced (thn (h pos pins s σ H _ k I hq) λus s1 ⟨xs,H1,I1,r,z,q⟩=>⟨by rw[<-r.length];exact z,?_⟩)
 have hf:H1 s1.heap.objs.size=none:=I1.hok.fresh (le_refl _);refine⟨.ref s1.heap.objs.size,upd H1 s1.heap.objs.size (.lst xs),I1.laid (t':=s1.toks) (λb u e=>get?_push_of_some _ e) (le_refl _) ?_,rfl,q _ hf⟩
 exact⟨z,us,_,r,get?_push_size _ rfl⟩
theorem pep_op {op:Operator}{r:R2}(ho:OpR X (binaryOp op) r)(ha:PE X a ta)(hb:PEp X b tb):PEp X (.BinOp a op b pos) (tOp r ta tb):=by
 intro pins s σ H Q k I h;refine wpAny_BinOp (wpAny_mono (fK (ha pins s σ H _ I h)) (λv s1 z=> ?_) λ_ _ z=>z.1)
 obtain⟨⟨x,H1,I1,r1,q1⟩,le⟩:=z;exact thn (hb pins s1 σ H1 _ (lt_of_lt_of_le k le) I1 q1) λu s2 ⟨y,H2,I2,r2,q2⟩=>ho pins s2 σ H2 x y v u Q I2 r1 r2 q2
theorem b50 {i:Nat}{x:Str}{pos':Pos}(hN:X.N.Nodup)(hi:X.N[i]? =some x)(hx:Loc X.env.scope x)(he:PEp X e te)(hs:swapsWith e (some (.Name x pos')) pos.line X.env=pure false:=by rfl)(hf:X.fn x=true\/X.env.scope.names.lookup x=some .local:=by first|exact .inl rfl|exact .inr rfl|assumption) :
  PSp X (.Assign [.Name x pos'] e pos) (aP0 te (qO i)):=by
 intro pins s σ H D k I h;refine wpAny_Assign_Name (thn (he pins s σ H _ k I h) λv s1 ⟨y,H1,I1,r1,q1⟩=> ?_) hs
 exact lP I1 hN hi hx r1 (λs2 I2=>⟨_,H1,I2,q1⟩) hf
theorem aM6 (h1:PSp X st u)(h2:aE3 X sts v):aE3 X (st::sts) (tSeq u v):=by
 intro pins s σ H D k I h;refine wpAny_execs_cons (wpAny_mono (fK (h1 pins s σ H {D with nx:=v D} k I h)) (λf s1 z=> ?_) λ_ _ z=>z.1)
 obtain⟨q,le⟩:=z;cases f with
 | next=>
  obtain⟨σ',H',I',q⟩:=q;exact h2 pins s1 σ' H' D (lt_of_lt_of_le k le) I' q
 | ret v=>exact q
 | brk=>exact q
 | cont=>exact q
theorem b51 {i j pos}:PEs X (.Constant (.int i) j pos) (tC (.int i)):=λ_ s _ H _ I h=>wpAny_Constant_int ⟨⟨.int i,H,I.tok _,⟨_,rfl⟩,h⟩,Nat.lt_succ_self _⟩
theorem pes_op {op:Operator}{r:R2}(ho:OpR X (binaryOp op) r)(ha:PE X a ta)(hb:PEs X b tb):PEs X (.BinOp a op b pos) (tOp r ta tb):=by
 intro pins s σ H Q I h;refine wpAny_BinOp (wpAny_mono (fK (ha pins s σ H _ I h)) (λv s1 z=> ?_) λ_ _ z=>z.1)
 obtain⟨⟨x,H1,I1,r1,q1⟩,le⟩:=z;refine thn (hb pins s1 σ H1 _ I1 q1) λu s2 ⟨⟨y,H2,I2,r2,q2⟩,lt⟩=> ?_
 exact wpAny_mono (fK (ho pins s2 σ H2 x y v u Q I2 r1 r2 q2)) (λw s3 z=>⟨z.1,by have:=z.2;omega⟩) λ_ _ z=>z.1
theorem b52 {i:Nat}{x:Str}{pos':Pos}(hN:X.N.Nodup)(hi:X.N[i]? =some x)(hx:Loc X.env.scope x)(he:PEs X e te)(hs:swapsWith e (some (.Name x pos')) pos.line X.env=pure false:=by rfl)(hf:X.fn x=true\/X.env.scope.names.lookup x=some .local:=by first|exact .inl rfl|exact .inr rfl|assumption) :
  PSt X (.Assign [.Name x pos'] e pos) (aP0 te (qO i)):=by
 intro pins s σ H D I h;refine wpAny_Assign_Name (thn (he pins s σ H _ I h) λv s1 ⟨⟨y,H1,I1,r1,q1⟩,lt⟩=> ?_) hs
 exact wpAny_mono (fK (lP (Q:=λ_ s'=>SP X pins D .next s') I1 hN hi hx r1 (λs2 I2=>⟨_,H1,I2,q1⟩) hf)) (λ_ s2 z=>⟨z.1,lt_of_lt_of_le lt z.2⟩) λ_ _ z=>z.1
theorem aU6 (h1:PSt X st u)(h2:aE3 X sts v):PSs X (st::sts) (tSeq u v):=by
 intro pins s σ H D I h;refine wpAny_execs_cons (thn (h1 pins s σ H {D with nx:=v D} I h) λf s1 ⟨q,lt⟩=> ?_)
 cases f with
 | next=>
  obtain⟨σ',H',I',q⟩:=q;exact h2 pins s1 σ' H' D (Nat.lt_of_le_of_lt (zero_le _) lt) I' q
 | ret v=>exact q
 | brk=>exact q
 | cont=>exact q
def tRepl (y z:Str)(to:TE):TE:=λσ H Q=>to σ H λv H1=> ∃x,v= .str x/\x.length<=1048576/\Q (.str (Txt.replace x y z)) H1
theorem a81 {o:Expr}{to:TE}{y z:Str}{k1 k2}{p1 p2 apos cpos:Pos}(ho:PE X o to)(hyz:(y==z)=false)(hz:z.length<=14)
  (hbase:attributeBase o "replace" X.env (eval o X.env)=eval o X.env:=by rfl)
  (hfew:((backTo cpos (starEach [.Constant (.str y) k1 p1,.Constant (.str z) k2 p2] X.env)).all (λx=> !x.1)&&(backToKw cpos (keywordEach [] X.env)).all (λx=>x.1.isSome)
   &&decide ([Expr.Constant (.str y) k1 p1,.Constant (.str z) k2 p2].length+([]:List Keyword).length+(if([]:List Keyword).isEmpty then 0 else 1)<30))=true:=by rfl)
  (hline:(apos.endLine==cpos.line)=true:=by rfl) (hs:starEach [.Constant (.str y) k1 p1,.Constant (.str z) k2 p2] X.env=(false,eval (.Constant (.str y) k1 p1) X.env)::starEach [.Constant (.str z) k2 p2] X.env:=by rfl)
  (hs2:starEach [.Constant (.str z) k2 p2] X.env=(false,eval (.Constant (.str z) k2 p2) X.env)::starEach [] X.env:=by rfl) (hplain:(backTo cpos (starEach [.Constant (.str z) k2 p2] X.env)).any (·.1)=false:=by rfl) :
  PEp X (.Call (.Attribute o "replace" apos) [.Constant (.str y) k1 p1,.Constant (.str z) k2 p2] [] cpos) (tRepl y z to):=by
 intro pins s σ H Q k I h;refine wpAny_Call_method_late hbase hfew hline rfl (wpAny_mono (fK (ho pins s σ H _ I h)) (λv s1 z=> ?_) λ_ _ z=>z.1)
 obtain⟨⟨x,H1,I1,r1,w,rfl,hw,q1⟩,le⟩:=z;have k1':0<s1.toks:=lt_of_lt_of_le k le;obtain⟨t,rfl⟩:=(show ∃t,v=Value.str w t from r1)
 refine⟨"str","str.replace",PySem.F.plainAttrs_str,PySem.F.slot_str_replace,PySem.F.type_str_replace,?_,?_,?_⟩
 ·exact typeIs_str s1 w t
 ·exact λ_ e=>nomatch e
 rw[hs];refine Calls.callWith_builtin (by show(false||(backTo cpos (starEach [.Constant (.str z) k2 p2] X.env)).any (·.1))=false;rw[hplain]<;>rfl) (Calls.evalArgs_plain ?_)
 show wpAny _ _ (spliced ((false,eval (.Constant (.str y) k1 p1) X.env)::backTo cpos (starEach [.Constant (.str z) k2 p2] X.env))) _ _ _
 refine Calls.spliced_cons (Calls.Constant_str ?_)
 rw[hs2];show wpAny _ _ (spliced ((false,eval (.Constant (.str z) k2 p2) X.env)::backTo cpos (starEach [] X.env))) _ _ _;refine Calls.spliced_cons (Calls.Constant_str (Calls.spliced_nil ?_));refine SC.replaceW (Nat.pos_iff_ne_zero.mp k1') (Nat.succ_ne_zero _) (ne_of_lt (Nat.lt_succ_self _)) hyz hw hz λt' k=>⟨.str _,H1,(I1.tok _),⟨_,rfl⟩,q1⟩
end
end L2
end
section
namespace M
open PySem PySem.Spec PyProof.Rows L2
def PUp (X:Cx)(e:Expr)(t:UE):Prop:=PEp X e (lE X.K t)
def b53 (X:Cx)(es:List Expr)(t:UA):Prop:=PAp X es (lA X.K t)
def PUSp (X:Cx)(st:Stmt)(t:US):Prop:=PSp X st (lS X.K t)
def aI0 (X:Cx)(sts:List Stmt)(t:US):Prop:=aE3 X sts (lS X.K t)
def PUs (X:Cx)(e:Expr)(t:UE):Prop:=PEs X e (lE X.K t)
def PUSt (X:Cx)(st:Stmt)(t:US):Prop:=PSt X st (lS X.K t)
section
variable {X:Cx}{a b e o:Expr}{es:List Expr}{st:Stmt}{sts:List Stmt}{pos:Pos}{ta tb te to:UE}{t u:US}
theorem pup (h:PU X e te):PUp X e te:=pep h
theorem b54 {ta:UA}(h:PUA X es ta):b53 X es ta:=pap h
theorem usp (h:PUS X st t):PUSp X st t:=psp h
theorem ussp (h:mS X sts t):aI0 X sts t:=pssp h
theorem bH {t:UA}(ha:PUp X e ta)(hr:b53 X es t)(hs:starEach (e::es) X.env=(false,eval e X.env)::starEach es X.env:=by rfl):b53 X (e::es) (a6 ta t):=
 PApimp (aU5 ha hr hs) λσ H Q ⟨C,ρ,Q0,I,h,k⟩=>⟨C,ρ,_,I,h,λx ρ1 v H1 q1 f1 s1 r1=>by
  have I1:=(I.frz f1).same s1;refine⟨C,ρ1,_,I1,q1,λxs ρ2 vs H2 q2 f2 s2 r2=> ?_⟩
  exact k _ ρ2 _ H2 q2 (f1.trans f2) (s1.trans s2) (.cons ((r1.rep λa z=>I.avF f1 z).mono (.sub s2 λa=>f2.av)) r2)⟩
theorem vK {t:UA}(h:b53 X es t):PUp X (.List es pos) (iP t):=
 aE4 (b49 h) λσ H Q ⟨C,ρ,Q0,I,h,k⟩=>⟨C,ρ,_,I,h,λl ρ1 vs H1 q f s r=>by
  obtain⟨hz,q⟩:=q;refine⟨by rw[<-r.length];exact hz,λp n=> ?_⟩
  exact k _ ρ1 _ _ q f (s.trans (bI n _)) (cF s n r)⟩
theorem a13 {op:Operator}{g:D->D->(B->Prop)->Prop}(ho:OpU X (binaryOp op) g)(ha:PU X a ta)(hb:PUp X b tb):PUp X (.BinOp a op b pos) (uOp g ta tb):=
 aE4 (pep_op a58 ha hb) (lOp ho)
theorem vL {x:Str}{pos':Pos}(i:Nat)(hN:X.N.Nodup)(hi:X.N[i]? =some x)(hx:Loc X.env.scope x)(he:PUp X e te)(hs:swapsWith e (some (.Name x pos')) pos.line X.env=pure false:=by rfl)(hf:X.fn x=true\/X.env.scope.names.lookup x=some .local:=by first|exact .inl rfl|exact .inr rfl|assumption)
  (hl: ∀pins σ H s,Inv X pins σ H s->i<σ.length:=by intro pins σ H s I;rw[I.len];decide):PUSp X (.Assign [.Name x pos'] e pos) (aX i te):=by
 intro pins s σ H D tk I q;refine b50 hN hi hx he hs hf pins s σ H D tk I ?_;obtain⟨C,ρ,D0,J,h,k⟩:=q;exact⟨C,ρ,_,J,h,λb ρ1 v H1 q f s1 r=>k.nx _ _ _ q ((J.frz f).store s1 r (hl pins σ H s I))⟩
theorem gU (h1:PUSp X st t)(h2:aI0 X sts u):aI0 X (st::sts) (aL t u):=
 b48 (aM6 h1 h2) λD σ H ⟨C,ρ,D0,I,h,k⟩=>⟨C,ρ,{D0 with nx:=u D0},I,h,⟨λρ' σ' H' q I'=>⟨C,ρ',D0,I',q,k⟩,k.rt,k.bk,k.ct⟩⟩
theorem b55 {i j pos}:PUs X (.Constant (.int i) j pos) (uC (.int i)):=aU4 b51 λσ H Q ⟨C,ρ,Q0,I,h,k⟩=>k _ ρ _ H h (.refl _) (.refl _) (show Rep _ _ _ _ _ by simp only[Rep])
theorem aU7 {op:Operator}{g:D->D->(B->Prop)->Prop}(ho:OpU X (binaryOp op) g)(ha:PU X a ta)(hb:PUs X b tb):PUs X (.BinOp a op b pos) (uOp g ta tb):=
 aU4 (pes_op a58 ha hb) (lOp ho)
theorem b56 {x:Str}{pos':Pos}(i:Nat)(hN:X.N.Nodup)(hi:X.N[i]? =some x)(hx:Loc X.env.scope x)(he:PUs X e te)(hs:swapsWith e (some (.Name x pos')) pos.line X.env=pure false:=by rfl)(hf:X.fn x=true\/X.env.scope.names.lookup x=some .local:=by first|exact .inl rfl|exact .inr rfl|assumption)
  (hl: ∀pins σ H s,Inv X pins σ H s->i<σ.length:=by intro pins σ H s I;rw[I.len];decide):PUSt X (.Assign [.Name x pos'] e pos) (aX i te):=by
 intro pins s σ H D I q;refine b52 hN hi hx he hs hf pins s σ H D I ?_;obtain⟨C,ρ,D0,J,h,k⟩:=q;exact⟨C,ρ,_,J,h,λb ρ1 v H1 q f s1 r=>k.nx _ _ _ q ((J.frz f).store s1 r (hl pins σ H s I))⟩
theorem aU8 (h1:PUSt X st t)(h2:aI0 X sts u):mS X (st::sts) (aL t u):=
 vY (aU6 h1 h2) λD σ H ⟨C,ρ,D0,I,h,k⟩=>⟨C,ρ,{D0 with nx:=u D0},I,h,⟨λρ' σ' H' q I'=>⟨C,ρ',D0,I',q,k⟩,k.rt,k.bk,k.ct⟩⟩
def wM (y z:Str)(to:UE):UE:=λρ Q=>to ρ λb ρ1=>match b.d with
 | .str x=>x.length<=1048576/\Q (.pu (.str (Txt.replace x y z))) ρ1
 | _=>False
theorem iK {y z:Str}{k1 k2}{p1 p2 apos cpos:Pos}(ho:PU X o to)(hyz:(y==z)=false)(hz:z.length<=14)
  (hbase:attributeBase o "replace" X.env (eval o X.env)=eval o X.env:=by rfl)
  (hfew:((backTo cpos (starEach [.Constant (.str y) k1 p1,.Constant (.str z) k2 p2] X.env)).all (λx=> !x.1)&&(backToKw cpos (keywordEach [] X.env)).all (λx=>x.1.isSome)
   &&decide ([Expr.Constant (.str y) k1 p1,.Constant (.str z) k2 p2].length+([]:List Keyword).length+(if([]:List Keyword).isEmpty then 0 else 1)<30))=true:=by rfl)
  (hline:(apos.endLine==cpos.line)=true:=by rfl) (hs:starEach [.Constant (.str y) k1 p1,.Constant (.str z) k2 p2] X.env=(false,eval (.Constant (.str y) k1 p1) X.env)::starEach [.Constant (.str z) k2 p2] X.env:=by rfl)
  (hs2:starEach [.Constant (.str z) k2 p2] X.env=(false,eval (.Constant (.str z) k2 p2) X.env)::starEach [] X.env:=by rfl) (hplain:(backTo cpos (starEach [.Constant (.str z) k2 p2] X.env)).any (·.1)=false:=by rfl) :
  PUp X (.Call (.Attribute o "replace" apos) [.Constant (.str y) k1 p1,.Constant (.str z) k2 p2] [] cpos) (wM y z to):=
 aE4 (a81 ho hyz hz hbase hfew hline hs hs2 hplain) λσ H Q ⟨C,ρ,Q0,I,h,k⟩=>⟨C,ρ,_,I,h,λb ρ1 v H1 q f s r=>by
  have rv:=r.rep λa z=>I.avF f z
  generalize b.d=x at q rv;split at q
  ·exact⟨_,aW rv,q.1,k _ _ _ _ q.2 f s aC9⟩
  ·exact q.elim⟩
def aI1 (d:D)(ds:List D)(Q:B->Prop):Prop:=match d,ds with
 | .str x,[.str y]=>Q (.pu (.int (Txt.find x y)))
 | _,_=>False
theorem b57:MtU X "str.find" aI1:=by
 intro A H d ds v vs Q0 Q hA r1 r2 g k;unfold aI1 at g;split at g
 ·rename_i x y
  obtain⟨w,rfl,rw'⟩:=a69 r2;refine⟨λv vs H Q=> ∃x y,v= .str x/\vs=[.str y]/\Q (.int (Txt.find x y)) H,?_,x,y,aW r1,by rw[aW rw'],k _ _ H g (.refl _) (show Rep _ _ _ _ _ by simp only[Rep])⟩
  rintro pins s σ H v vs u us Q I rx rs ⟨x,y,rfl,rfl,q⟩;obtain⟨t,rfl⟩:=rx;obtain⟨u2,rfl,t2,rfl⟩:=vals1 rs;exact SC.find ⟨.int _,H,I.tok _,⟨_,rfl⟩,q⟩
 ·exact g.elim
def wN (d:D)(ds:List D)(Q:B->Prop):Prop:=match d,ds with
 | .str x,[.str y]=>Q (.pu (.int (Txt.rfind x y)))
 | _,_=>False
theorem a82:MtU X "str.rfind" wN:=by
 intro A H d ds v vs Q0 Q hA r1 r2 g k;unfold wN at g;split at g
 ·rename_i x y
  obtain⟨w,rfl,rw'⟩:=a69 r2;refine⟨λv vs H Q=> ∃x y,v= .str x/\vs=[.str y]/\Q (.int (Txt.rfind x y)) H,?_,x,y,aW r1,by rw[aW rw'],k _ _ H g (.refl _) (show Rep _ _ _ _ _ by simp only[Rep])⟩
  rintro pins s σ H v vs u us Q I rx rs ⟨x,y,rfl,rfl,q⟩;obtain⟨t,rfl⟩:=rx;obtain⟨u2,rfl,t2,rfl⟩:=vals1 rs;exact SC.rfind ⟨.int _,H,I.tok _,⟨_,rfl⟩,q⟩
 ·exact g.elim
def vM (d e:D)(Q:B->Prop):Prop:=match d,e with
 | .str i,.str j=>Q (.pu (.bl (!(!(Builtin.Str.occurrences j i 0 j.length 1).isEmpty))))
 | _,_=>False
theorem aM7:OpU X (compareOp .NotIn) vM:=by
 intro A H d e v w Q0 Q hA r1 r2 g k;unfold vM at g;split at g
 ·rename_i i j
  refine⟨λx y H Q=> ∃i j,x= .str i/\y= .str j/\Q (.bl (!(!(Builtin.Str.occurrences j i 0 j.length 1).isEmpty))) H,?_,i,j,aW r1,aW r2,k _ _ H g (.refl _) dG⟩
  rintro pins s σ H x y u v Q I rx ry ⟨i,j,rfl,rfl,q⟩;obtain⟨t,rfl⟩:=rx;obtain⟨t',rfl⟩:=ry;exact P.notIn_str ⟨.bl _,H,I,rfl,q⟩
 ·exact g.elim
def aI2 (d e:D)(Q:B->Prop):Prop:=match d,e with
 | .str x,.int n=>2<=n/\n<=1000/\1<=x.length/\x.length<=1000/\Q (.pu (.str ⟨(replicate n.toNat x.cps).foldl (· ++·) #[]⟩))
 | _,_=>False
theorem aI3 (a:Array Nat): ∀(n:Nat) (b:Array Nat),((replicate n a).foldl (· ++·) b).size=b.size+n*a.size
 | 0,b=>by simp
 | n+1,b=>by
  rw[replicate_succ,foldl_cons,aI3 a n,Array.size_append,succ_mul];omega
theorem b58:OpU X (binaryOp .Mult) aI2:=by
 intro A H d e v w Q0 Q hA r1 r2 g k;unfold aI2 at g;split at g
 ·rename_i x n
  obtain⟨g1,g2,g3,g4,g⟩:=g;refine⟨λx y H Q=> ∃(i:Str) (n:Int),x= .str i/\y= .int n/\2<=n/\n<=1000/\1<=i.length/\i.length<=1000/\Q (.str ⟨(replicate n.toNat i.cps).foldl (· ++·) #[]⟩) H,?_,x,n,aW r1,bA r2,g1,g2,g3,g4,k _ _ H g (.refl _) aC9⟩
  rintro pins s σ H x y u v Q I rx ry ⟨i,n,rfl,rfl,g1,g2,g3,g4,q⟩;obtain⟨t,rfl⟩:=(show ∃t,u=Value.str i t from rx)
  obtain⟨t',rfl⟩:=(show ∃t',v=Value.int n t' from ry)
  have hm:i.length*n.toNat<=1000*1000:=mul_le_mul g4 (by omega)
  refine P.mul_str (by rw[decide_eq_false (by omega),decide_eq_false (by omega)];rfl) (λ_ _=> ?_) (λ_ _=> ?_) ?_
  ·have h1:(1000000:Int)<=(2^63-1)/n:=by
    rw[Int.le_ediv_iff_mul_le (by omega)]
    omega
   omega
  ·unfold Builtin.Str.tooLong sizeLine;exact decide_eq_false (by omega)
  ·rw[if_neg (by omega),if_neg (by
    have h1:(n==1)=false:=by simpa using(by omega: ¬n=1)
    have h2:(i.length==0)=false:=by simpa using(by omega: ¬i.length=0)
    rw[h1,h2]
    decide)]
   refine⟨?_,⟨.str _,H,I.tok _,⟨_,rfl⟩,q⟩⟩
   show((replicate n.toNat i.cps).foldl (· ++·) #[]).size<=sizeLine
   rw[aI3];have e1:i.cps.size=i.length:=rfl;rw[e1,mul_comm];have big:(1000000:Nat)<=sizeLine:=by decide
   simp
   omega
 ·exact g.elim
end
section
variable {X:Cx}{E:XK}
theorem a83 {elt iter tg:Expr}{ifs:List Expr}{scope:Scope}{pos:Pos}{esc:List (Str×NameKind)}{N:List Str}{js:List Nat}{cap:List (Option Nat)}{last:Nat}{ui:UI}{g:UG}{T:List Nat}{tt:UT}{te:XP->UE}{XN:List Str}(he0:X.env.scope.names=esc)(hx0:X.N=XN)(lk:lY esc XN N cap scope last=true)(hl:last<cap.length)(hT:last ∉ T)(hc:X.calm=true)(hi:PUI X tg iter ui)
  (hg: ∀cl C s H fp pins,PUG (aJ X N scope cl C s H fp pins) tg T g) (ht: ∀cl C s H fp pins,PTs (aJ X N scope cl C s H fp pins) ifs (lT X.K tt))
  (he: ∀cl C s H fp pins xe,jN (CXr X.prog X.w X.base) ((aJ X N scope cl C s H fp pins).wish xe) E->PUE ((aJ X N scope cl C s H fp pins).wish xe) E elt te)
  (hH:Holds X E) (hstk:X.stack=X.env::X.outer) (hfr:X.env.frame=some X.env.locals) (hex:X.ex=[]) (hfree:scope.names.all (λx=>x.2 != .free)=true)
  (hs: ∀x,foldedSetIterable iter X.env x=pure x:=by intro _;rfl):PUE X E (.ListComp elt [⟨tg,iter,ifs,0⟩] scope pos) (λEx=>cQ js cap last ui g tt (te Ex)):=
 b44 hc hi (bC.of he0 (hx0▸lk)).1 (bC.of he0 (hx0▸lk)).2 hl hT hg ht he hH hstk hfr hex (λx hx z=>by
  have:=List.all_eq_true.mp hfree x hx;rw[z]at this;exact absurd this (by decide)) hs
def a84 (tc:UT)(t u:USY)(v:US):USY:=λEx D ρ=>tc ρ λb ρ1=>if b=true then t Ex {D with nx:=v D} ρ1 else u Ex D ρ1
theorem a14 {c:Expr}{a fY:List Stmt}{pos:Pos}{tc:UT}{t u:USY}{v:US}(hc: ∀xe,PUT (X.wish xe) c tc)(ha:PUY X a t)(hr:PUY X fY u)(hq: ∀xe,mS (X.wish xe) fY v):PUY X (.If c a [] pos::fY) (a84 tc t u v):=uy_ifs hc ha hr hq
end
section
variable {P:Program}{w:World}{K:PySem.W.Frag}{mg:Str->Option Value}{base:Heap}
theorem Fn.mkW {x y qual:Str}{st:Stmt}{f:Addr}{fd:FuncData}{N ps:List Str}{k:Nat}{φ:Φ}(F:Fun K y qual st f fd)(m:mg x=some (.ref f))(b:Binds K fd ps [])(S:aS N ps (a9 st))
  (len: ∀ds Q,φ ds Q->ds.length=ps.length) {t:US}
  (der: ∀(cdv:Value) (A:Around) (outer:List Env) (s:Shared) (H:Hp) (E:XK),cV k (A.deeper (envOfC qual (a9 st) s.heap.objs.size f cdv))->WS (jO CX0 P w K mg base N qual (a9 st) f cdv A outer s H E).nox (bY st) t)
  (rd: ∀ds Q,φ ds Q->t {nx:=λ_=>Q (.pu .non),rt:=Q} (init N ds)):Fn P w K mg base x ps (k+1) φ:=
 Fn.mkA F m b S len (λcdv A outer s H E hr=>(der cdv A outer s H E hr).out) rd
end
end M
end
section
open PySem L2 M
local macro_rules| `(tactic| walk_at "u")=> `(tactic| simp only[uRev,gRev,b28,gSlT,uChain,uPop,uRevT,gMulT,aL6,rZ,D.isN,gMaxL,uLook,eB,b32,aD0,b33,yP,a68,aS9,sA,gSlS,lZ,wF,vH,wG,iQ,uFmt,aH5,g1,aL2,aI1,wN,vM,aI2,wM,aS6,tF,a84,aU3,a77,yY,uLookE,uAppZ,gSort2,tD,b37,n8,aL,aX,cG,uRetN,oR,cH,bB,uOp,uC,aA,yI,aQ,aQ6,uV,uIx,gIx,kJ,kM,aK,a6,aE,iP,mR,zU,oS,aR5,eR,M.gSub,j6,b18,uR,a63,gI2,rJ,dB,isB,B.d,xL,uOr,uO,a59,uOrV,aQ7,cA,bF,uPar,uAug,uSl,fA,dH,gSl,gAbs,b20,gMin,gToInt,iH,b21,zV,g1,g2,aL2,uSetI,uIf,zX,gSum,uDrop,uAsg,aG7,vZ,aG6,qQ,uRng2,uRngD,uRevR,uZip,uEnum,fS,b24,lX,l5,b25,bind_some,Option.bind_none,map_some,Option.map_none,Option.join,
 List.getElem?_cons_zero,List.getElem?_cons_succ,List.set_cons_zero,List.set_cons_succ,length_cons,List.length_nil,decide_eq_true_eq,false_xor,true_xor,Bool.not_eq_true',decide_eq_false_iff_not,if_true,if_false,reduceCtorEq])
namespace M
def oZ:Φ:=λds Q=> ∃c k p:Int,ds=[.int c,.int k,.int p]/\0<=k/\k<4294967296/\0<p/\ ∀r:Int,0<=r->r<p->Q (.pu (.int r))
def wO:US:=(aL (aX 3 (uOp uR (uOp j6 (uOp eR (uOp eR (uOp eR (aA 0) (uOp j6 (uOp j6 (uC (.int 7)) (aA 1)) (aA 1))) (uOp j6 (uC (.int 13)) (aA 1))) (uC (.int 5))) (uC (.int 48271))) (uC (.int 2147483647)))) (aL (aX 3 (uOp uR (uOp j6 (aA 3) (aA 3)) (uC (.int 2147483629)))) (cG (uOp uR (uOp j6 (aA 3) (uC (.int 39373))) (aA 2)))))
theorem jR (i:Int){j:Int}(h:0<j):i.fmod j=i%j:=Int.fmod_eq_emod_of_nonneg i (Int.le_of_lt h)
theorem aU9 (i:Int){j:Int}(h:0<j):i.fdiv j=i/j:=Int.fdiv_eq_ediv_of_nonneg i (Int.le_of_lt h)
theorem cmR {i j:Int}(h1: -18446744073709551616<j)(h2:j<18446744073709551616):aB3 i j\/(Sm i/\Sm j):= .inl (.inr ⟨h1,h2⟩)
theorem cmL {i j:Int}(h1: -18446744073709551616<i)(h2:i<18446744073709551616):aB3 i j\/(Sm i/\Sm j):= .inl (.inl ⟨h1,h2⟩)
theorem aV0: ∀ds Q,oZ ds Q->wO {nx:=λ_=>Q (.pu .non),rt:=Q} (init ["c","k","p","f"] ds):=by
 rintro ds Q ⟨c,k,p,rfl,h0,h1,hp,h⟩;unfold wO;show(aL _ _:US) _ [some (.pu (.int c)),some (.pu (.int k)),some (.pu (.int p)),none];walk_at "u";rw[jR _ (by decide:(0:Int)<2147483647),jR _ (by decide:(0:Int)<2147483629),jR _ hp]
 refine⟨cmL (by decide) (by decide),cmR (by omega) (by omega),cmL (by decide) (by decide),cmR (by decide) (by decide),by decide,cmR (by omega) (by omega),by decide,cmR (by decide) (by decide),by omega,?_⟩
 exact h _ (emod_nonneg _ (by omega)) (emod_lt_of_pos _ hp)
theorem dL {ui:UI}{g:UG}{tb:US}{D:UD}{ρ:Ev}(n:Nat)(it:Nat->M.D)(ρ1:Ev)(hui: ∀Q:Nat->(Nat->M.D)->Ev->Prop,Q n it ρ1->ui ρ Q)(Pv:Nat->Ev->Prop)(h0:Pv 0 ρ1)
  (hs: ∀i ρ,i<n->Pv i ρ->g (.pu (it i)) ρ λρ2=>tb {D with nx:=Pv (i+1),ct:=Pv (i+1),bk:=D.nx} ρ2) (hd: ∀ρ,Pv n ρ->D.nx ρ):uP ui g tb D ρ:=hui _ ⟨Pv,h0,hs,hd⟩
theorem aI4 {ws:List Int}{i:Nat}(h:i<ws.length):atI (ws.map D.int) (0+(i:Int))=some (.int ws[i]):=by
 rw[Int.zero_add];exact aY (by rw[getElem?_map,getElem?_eq_getElem h];rfl)
def Below (xs ws:List Int):Prop:=xs.length=ws.length/\ ∀(j:Nat) (x w:Int),xs[j]? =some x->ws[j]? =some w->0<=x/\x<w
theorem cpl {i j:Int}(h1:0<=j)(h2:j<=1000000)(h3:i.natAbs<2^64):b00 i j:=⟨h1,h2,h3⟩
def jS:Φ:=λds Q=> ∃(c:Int) (ws:List Int) (p:Int),ds=[.int c,.lst (ws.map .int),.int p]/\ws.length<=1000/\0<p/\(∀w∈ws,0<w/\w<18446744073709551616)/\ ∀xs:List Int,Below xs ws->Q (.ow (xs.map .int))
def wP:US:=(aL (aX 3 (uC (.int 0))) (aL (cH (bB (uOp (rJ λi j=>decide (j<=i)) (aA 0) (uOp a63 (uC (.int 10)) (uC (.int 18))))) (aX 3 (uOp M.gSub (aA 0) (uOp a63 (uC (.int 10)) (uC (.int 18))))) bF) (aL (aX 4 (iP aE)) (aL (uP (qQ (a6 (kJ (aQ 1)) aE)) (cA 5) (cH (bB (uOp (rJ λi j=>decide (j<i)) (aA 3) (uC (.int 1)))) (aL (zU 4 (uOp uR (aA 3) (uIx (aQ 1) (aA 5)))) (aX 3 (uOp b18 (aA 3) (uIx (aQ 1) (aA 5))))) (zU 4 (uOp uR (aK oZ (a6 (aA 0) (a6 (aA 5) (a6 (aA 2) aE)))) (uIx (aQ 1) (aA 5)))))) (oR 4)))))
theorem sm64 {i:Int}(h1: -18446744073709551616<i)(h2:i<18446744073709551616):Sm i:=by
 unfold Sm;have h3:i.natAbs<18446744073709551616:=by omega
 exact lt_of_lt_of_le h3 (by decide +kernel)
theorem wQ {xs ws:List Int}{x:Int}(h: ∀(j:Nat) (x w:Int),xs[j]? =some x->ws[j]? =some w->0<=x/\x<w)(hl:xs.length<ws.length)(h0:0<=x)(h1:x<ws[xs.length]) :
  ∀(j:Nat) (y w:Int),(xs++[x])[j]? =some y->ws[j]? =some w->0<=y/\y<w:=by
 intro j y w e1 e2
 by_cases hj:j<xs.length
 ·rw[getElem?_append_left hj]at e1;exact h j y w e1 e2
 ·rw[List.getElem?_append_right (by lia)]at e1
  by_cases hj':j=xs.length
  ·subst hj';simp at e1;subst e1;rw[getElem?_eq_getElem hl]at e2;cases e2;exact⟨h0,h1⟩
  ·have:j-xs.length≠0:=by lia
   cases e:j-xs.length with
   | zero=>lia
   | succ n=>rw[e]at e1;simp at e1
theorem aV1: ∀ds Q,jS ds Q->wP {nx:=λ_=>Q (.pu .non),rt:=Q} (init ["c","w","p","l","f","k"] ds):=by
 rintro ds Q ⟨c,ws,p,rfl,dR,hp,hw,h⟩;unfold wP;have tail: ∀left:Int,(aL (aX 4 (iP aE)) (aL (uP (qQ (a6 (kJ (aQ 1)) aE)) (cA 5) (cH (bB (uOp (rJ λi j=>decide (j<i)) (aA 3) (uC (.int 1)))) (aL (zU 4 (uOp uR (aA 3) (uIx (aQ 1) (aA 5)))) (aX 3 (uOp b18 (aA 3) (uIx (aQ 1) (aA 5))))) (zU 4 (uOp uR (aK oZ (a6 (aA 0) (a6 (aA 5) (a6 (aA 2) aE)))) (uIx (aQ 1) (aA 5)))))) (oR 4)):US)
   {nx:=λ_=>Q (.pu .non),rt:=Q} [some (.pu (.int c)),some (.pu (.lst (ws.map .int))),some (.pu (.int p)),some (.pu (.int left)),none,none]:=by
  intro left;rw[aL];walk_at "u";refine⟨by decide,?_⟩
  refine dL ws.length (λi=> .int (0+i)) [some (.pu (.int c)),some (.pu (.lst (ws.map .int))),some (.pu (.int p)),some (.pu (.int left)),some (.ow []),none] ?_
   (λi ρ=> ∃(l:Int) (xs:List Int) (kk:Option B),ρ=[some (.pu (.int c)),some (.pu (.lst (ws.map .int))),some (.pu (.int p)),some (.pu (.int l)),some (.ow (xs.map .int)),kk]/\xs.length=i/\ ∀(j:Nat) (x w:Int),xs[j]? =some x->ws[j]? =some w->0<=x/\x<w)
   ⟨left,[],none,rfl,rfl,λj x w e=>by simp at e⟩ ?_ ?_
  ·intro Q q;simp only[qQ];walk_at "u";rw[length_map];refine⟨⟨by lia,by lia⟩,?_⟩
   rw[toNat_natCast];exact q
  ·rintro i ρ hi ⟨l,xs,kk,rfl,hl,hb⟩;subst hl;obtain⟨w0,w1⟩:=hw _ (getElem_mem hi);walk_at "u";refine⟨by decide,?_⟩
   by_cases hc:1<l
   ·rw[if_pos hc];simp only[aI4 hi];rw[jR _ w0,aU9 _ w0];refine⟨by lia,?_,⟨by lia,sm64 (by lia) w1⟩,_,xs++[l%ws[xs.length]],_,by rw[map_append];rfl,by simp,wQ hb hi (emod_nonneg _ (by lia)) (emod_lt_of_pos _ w0)⟩
    rw[length_map];exact lt_of_lt_of_le hi (le_trans dR (by decide))
   ·rw[if_neg hc];refine⟨c,(0+(xs.length:Int)),p,rfl,by lia,by lia,hp,λr r0 r1=> ?_⟩
    simp only[aI4 hi];rw[jR _ w0];refine⟨by lia,?_,l,xs++[r%ws[xs.length]],_,by rw[map_append];rfl,by simp,wQ hb hi (emod_nonneg _ (by lia)) (emod_lt_of_pos _ w0)⟩
    rw[length_map];exact lt_of_lt_of_le hi (le_trans dR (by decide))
  ·rintro ρ ⟨l,xs,kk,rfl,hl,hb⟩;walk_at "u";exact h xs ⟨hl,hb⟩
 show(aL _ _:US) _ [some (.pu (.int c)),some (.pu (.lst (ws.map .int))),some (.pu (.int p)),none,none,none]
 refine(show b00 10 18/\(if decide ((10:Int)^(18:Int).toNat<=c)=true then _ else _)from⟨cpl (by decide) (by decide) (by decide),?_⟩)
 split
 ·exact⟨cpl (by decide) (by decide) (by decide),tail _⟩
 ·exact tail _
theorem aV2 {ys:List Int}{i:Nat}(h:i< (ys.map D.int).length): ∃z,(ys.map D.int).getD i .non= .int z:=by
 rw[length_map]at h;exact⟨ys[i],by rw[getD_eq_getElem?_getD,getElem?_map,getElem?_eq_getElem h];rfl⟩
def iE:Φ:=λds Q=> ∃(ns:List Int) (k:Int),ds=[.rol (ns.map .int),.int k]/\ns.length<=63/\0<=k/\k<4294967296/\ ∀r:Int,Q (.pu (.int r))
def a15:US:=(aL (cH (bB (uOp (dB false) (kJ (aQ 0)) (uC (.int 0)))) (cG (uOp j6 (uC (.int 7919)) (uOp eR (aA 1) (uC (.int 1))))) bF) (aL (cH (bB (uOp (rJ λi j=>decide (i<j)) (aA 1) (kJ (aQ 0)))) (cG (uIx (aQ 0) (aA 1))) bF) (cG (uOp eR (uIx (aQ 0) (uOp uR (aA 1) (kJ (aQ 0)))) (uOp j6 (uC (.int 104729)) (aA 1))))))
theorem aV3 {ns:List Int}{k:Int}(h0:0<=k)(h1:k<ns.length): ∃z,atI (ns.map D.int) k=some (.int z):=by
 obtain⟨i,rfl⟩: ∃i:Nat,k=(i:Int):=⟨k.toNat,by lia⟩
 have hi:i<ns.length:=by lia
 exact⟨ns[i],aY (by rw[getElem?_map,getElem?_eq_getElem hi];rfl)⟩
theorem b59: ∀ds Q,iE ds Q->a15 {nx:=λ_=>Q (.pu .non),rt:=Q} (init ["s","k"] ds):=by
 rintro ds Q ⟨ns,k,rfl,hl,k0,k1,h⟩;unfold a15;show(aL _ _:US) _ [some (.pu (.rol (ns.map .int))),some (.pu (.int k))];walk_at "u";rw[length_map];split
 ·exact⟨cmL (by decide) (by decide),h _⟩
 ·split
  ·obtain⟨z,hz⟩:=aV3 (ns:=ns) k0 (by lia)
   rw[hz];exact h z
  ·refine⟨by lia,?_⟩
   rw[jR _ (by lia)]
   obtain⟨z,hz⟩:=aV3 (ns:=ns) (k:=k%ns.length) (emod_nonneg _ (by lia)) (emod_lt_of_pos _ (by lia))
   rw[hz];exact⟨cmL (by decide) (by decide),h _⟩
def p7:Φ:=λds Q=> ∃i:Int,ds=[.int i]/\Q (.pu (.bl true))
def wR:US:=(cG (a59 (aK zV (a6 (aA 0) (a6 (uC (.ty "int")) aE))) (aQ7 (aK zV (a6 (aA 0) (a6 (uC (.ty "bool")) aE))))))
theorem aV4: ∀ds Q,p7 ds Q->wR {nx:=λ_=>Q (.pu .non),rt:=Q} (init ["f"] ds):=by
 rintro ds Q ⟨i,rfl,h⟩;unfold wR;show(cG _:US) _ [some (.pu (.int i))];walk_at "u"
 simpa using h
theorem a16:bootBuiltins "len"=some (.builtin "len"):=by decide +kernel
theorem bt_abs:bootBuiltins "abs"=some (.builtin "abs"):=by decide +kernel
theorem aV5:bootBuiltins "max"=some (.builtin "max"):=by decide +kernel
theorem cW:bootBuiltins "isinstance"=some (.builtin "isinstance"):=by decide +kernel
theorem a17:bootBuiltins "int"=some (.type "int"):=by decide +kernel
theorem b60:bootBuiltins "bool"=some (.type "bool"):=by decide +kernel
theorem fB:bootBuiltins "tuple"=some (.type "tuple"):=by decide +kernel
theorem b61:bootBuiltins "list"=some (.type "list"):=by decide +kernel
theorem aM8: ∀ds Q,oZ ds Q->ds.length=3:=by rintro ds Q ⟨c,k,p,rfl,_⟩;rfl
theorem aM9: ∀ds Q,jS ds Q->ds.length=3:=by rintro ds Q ⟨c,k,p,rfl,_⟩;rfl
theorem aV6: ∀ds Q,iE ds Q->ds.length=2:=by rintro ds Q ⟨c,k,rfl,_⟩;rfl
theorem aN0: ∀ds Q,p7 ds Q->ds.length=1:=by rintro ds Q ⟨i,rfl,_⟩;rfl
theorem b62: ∀ds Q,yK ds Q->ds.length=1:=by rintro ds Q ⟨i,rfl,_⟩;rfl
theorem kN (t:UE)(D:UD)(ρ:Ev):cG t D ρ=t ρ (λb _=>D.rt b):=rfl
theorem jT (φ:Φ)(t:UA)(ρ:Ev)(Q:B->Ev->Prop):aK φ t ρ Q=t ρ λds ρ1=>φ ds λb=>Q b ρ1:=rfl
theorem fE (t:UE)(u:UA)(ρ:Ev)(Q:List D->Ev->Prop):a6 t u ρ Q=t ρ λx ρ1=>u ρ1 λxs ρ2=>Q (x.d::xs) ρ2:=rfl
theorem aC (t u:US)(D:UD)(ρ:Ev):aL t u D ρ=t {D with nx:=u D} ρ:=rfl
theorem sI (i:Nat)(t:UE)(D:UD)(ρ:Ev):aX i t D ρ=t ρ λb ρ1=>D.nx (ρ1.set i (some b)):=rfl
theorem jF {js:List Nat}{cap:List (Option Nat)}{last t0:Nat}{ui:UI}{te:UE}{ρ:Ev}{Q:B->Ev->Prop}(n:Nat)(it:Nat->D)(ρ1:Ev)(hui: ∀Q:Nat->(Nat->D)->Ev->Prop,Q n it ρ1->ui ρ Q)(hn:n<=1000000)
  (G:Option B->List D->Ev) (x0:Option B) (h0:lX (l5 ρ1 js) cap last=G x0 []) (h1: ∀x l b,(G x l).set t0 (some b)=G (some b) l) (h1': ∀x l,t0< (G x l).length) (h2: ∀x l (Q:List D->Prop),Q l->oS (G x l) last Q) (h3: ∀x l l',(G x l).set last (some (.ow l'))=G x l')
  (f:Nat->D) (hte: ∀i l (Q':B->Ev->Prop),i<n->Q' (.pu (f i)) (G (some (.pu (it i))) l)->te (G (some (.pu (it i))) l) Q') (hq:Q (.ow ((range n).map f)) (l5 ρ1 js)) :
  cQ js cap last ui (cA t0) (λρ Q=>Q true ρ) te ρ Q:=by
 refine hui _ ⟨λi ρ'=> ∃x,ρ'=G x ((range i).map f),⟨x0,h0⟩,?_,?_⟩
 ·rintro i ρ' hi ⟨x,rfl⟩;refine⟨h1' _ _,?_⟩;rw[h1];dsimp only;rw[if_pos rfl];refine hte i _ _ hi (h2 _ _ _ ⟨?_,some (.pu (it i)),?_⟩)
  ·rw[length_map,List.length_range];exact lt_of_lt_of_le hi (le_trans hn (by decide))
  ·rw[h3,List.range_succ,map_append];rfl
 ·rintro ρ' ⟨x,rfl⟩;exact h2 _ _ _ hq
def eG (r:List Int):D:= .tup (r.map .int)
def nA (t:List (List Int)):D:= .tup (t.map eG)
theorem aV7 (l:List D)(i:Nat)(h:i<=l.length):cutD l (some (i:Int)) none=l.drop i:=by
 unfold cutD;rw[HT.sIx_none,HT.sIx_nat,Nat.min_eq_left h];rw[take_of_length_le (by rw[length_drop];exact le_refl _)]
theorem Sm.pow {i:Int}{k:Nat}(h:i.natAbs<=2^k)(hk:k<9000):Sm i:=Nat.lt_of_le_of_lt h (Nat.pow_lt_pow_right (by decide) hk)
theorem aI5 (l:List D)(i n:Nat)(h:i+n<=l.length):cutD l (some (i:Int)) (some ((i+n:Nat):Int))=(l.drop i).take n:=by
 unfold cutD;rw[HT.sIx_nat,HT.sIx_nat,Nat.min_eq_left (show i<=l.length by lia),Nat.min_eq_left h]
 congr 1
 lia
theorem aI6 (t:UE)(ρ:Ev)(Q:Bool->Ev->Prop):bB t ρ Q=t ρ (isB Q):=rfl
theorem a18 (c:UT)(t u:US)(E:UD)(ρ:Ev):cH c t u E ρ=c ρ λb ρ1=>if b=true then t E ρ1 else u E ρ1:=rfl
theorem dR (z:Str):z.cps.toList.length=z.length:=by simp[Str.length]
def tx (i:Int):Str:=Str.ofString (toString i)
theorem aI7: ∀(k m:Nat),m<10^(k+1)->(toDigits 10 m).length<=k+1
 | 0,m,h=>by rw[Nat.toDigits_of_lt_base (by simpa using h)];exact le_refl _
 | k+1,m,h=>by
  by_cases h1:m<10
  ·rw[Nat.toDigits_of_lt_base h1];simp
  ·have hm:m%10<10:=Nat.mod_lt m (by decide)
   have t:toDigits 10 (m/10)++toDigits 10 (m%10)=toDigits 10 (10*(m/10)+m%10):=Nat.toDigits_append_toDigits (by decide) (by omega) hm
   rw[Nat.div_add_mod]at t;rw[<-t,length_append,Nat.toDigits_of_lt_base hm];have:=aI7 k (m/10) (by rw[Nat.pow_succ]at h;omega)
   simp only[length_cons,List.length_nil];omega
theorem aI8 (m:Nat): ∀c∈(toDigits 10 m).map Char.toNat,48<=c/\c<=57:=by
 intro c hc;obtain⟨ch,hch,e⟩:=List.mem_map.mp hc;have r:=PyProof.Rows.digit_range (Nat.isDigit_of_mem_toDigits (by decide) (by decide) hch)
 rw[<-e];exact r
theorem tx_nat (m:Nat):(tx (m:Int)).cps.toList=(toDigits 10 m).map Char.toNat:=PySem.W.KIN.signs_num m
theorem tx_neg (m:Nat)(h0:0<m):(tx (-(m:Int))).cps.toList=45::(toDigits 10 m).map Char.toNat:=by
 obtain⟨n,rfl⟩: ∃n,m=n+1:=⟨m-1,by omega⟩
 show(Str.ofString (toString (Int.negSucc n))).cps.toList=_
 rw[PyProof.Rows.signs_ofString];show(("-"++Nat.repr (n+1)):String).toList.map Char.toNat=_;rw[String.toList_append,map_append,Nat.toList_repr];rfl
def N60 (n:Int):Prop:=n.natAbs<10^60
theorem N60.log {n:Int}(h:N60 n):n.natAbs.log2<1920:=by
 by_cases z:n.natAbs=0
 ·rw[z];decide
 ·exact(Nat.log2_lt z).mpr (lt_of_lt_of_le h (by decide +kernel))
theorem a85 (n:Int)(h:N60 n):(∃m:Nat,n=(m:Int)/\m<10^60/\(tx n).cps.toList=(toDigits 10 m).map Char.toNat)\/(∃m:Nat,n= -(m:Int)/\0<m/\m<10^60/\(tx n).cps.toList=45::(toDigits 10 m).map Char.toNat):=by
 unfold N60 at h
 by_cases h0:0<=n
 ·obtain⟨m,rfl⟩:=Int.eq_ofNat_of_zero_le h0;exact .inl ⟨m,rfl,by omega,tx_nat m⟩
 ·obtain⟨m,rfl⟩: ∃m:Nat,n= -(m:Int):=⟨n.natAbs,by omega⟩
  exact .inr ⟨m,rfl,by omega,by omega,tx_neg m (by omega)⟩
theorem b91 {m:Nat}(h:m<10^60):((toDigits 10 m).map Char.toNat).length<=60:=by
 rw[length_map];exact aI7 59 m h
theorem tI {n:Int}(h:N60 n):(tx n).length<=61:=by
 rw[<-dR];rcases a85 n h with⟨m,_,hm,e⟩| ⟨m,_,_,hm,e⟩
 ·rw[e];have:=b91 hm;omega
 ·rw[e,length_cons];have:=b91 hm;omega
theorem a86 {n:Int}(h:N60 n): ∀c∈(tx n).cps.toList,c=45\/(48<=c/\c<=57):=by
 intro c hc;rcases a85 n h with⟨m,_,hm,e⟩| ⟨m,_,_,hm,e⟩
 ·rw[e]at hc;exact .inr (aI8 m c hc)
 ·rw[e]at hc;rcases List.mem_cons.mp hc with rfl|hc
  ·exact .inl rfl
  ·exact .inr (aI8 m c hc)
theorem sJ (g:D->List D->(B->Prop)->Prop)(to:UE)(t:UA)(ρ:Ev)(Q:B->Ev->Prop):lZ g to t ρ Q=to ρ λx ρ1=>wF x.d/\t ρ1 λds ρ2=>g x.d ds λb=>Q b ρ2:=rfl
theorem d3 {α:Type}{L:List α}{g:α->D}{i:Nat}(h:i<L.length):(L.map g).getD i .non=g L[i]:=by
 rw[getD_eq_getElem?_getD,getElem?_map,getElem?_eq_getElem h];rfl
theorem rP {α:Type}(L:List α)(g:α->D):(range L.length).map (λi=>(L.map g).getD i .non)=L.map g:=by
 apply ext_getElem?
 intro i;rw[getElem?_map,getElem?_map]
 by_cases h:i<L.length
 ·rw[List.getElem?_range h,getElem?_eq_getElem h,map_some,map_some,d3 h]
 ·rw[getElem?_eq_none (by simpa using h),getElem?_eq_none (by omega)];rfl
theorem cX {α:Type}{js:List Nat}{ui:UI}{te:UE}{ρ:Ev}{Q:B->Ev->Prop}(L:List α)(din dout:α->D)(ρ1:Ev)(hui: ∀Q:Nat->(Nat->D)->Ev->Prop,Q (L.map din).length (λi=>(L.map din).getD i .non) ρ1->ui ρ Q)(hn:L.length<=1000000)
  (hte: ∀a∈L,∀(l:List D) (Q':B->Ev->Prop),Q' (.pu (dout a)) [some (.pu (din a)),some (.ow l)]->te [some (.pu (din a)),some (.ow l)] Q') (hq:Q (.ow (L.map dout)) (l5 ρ1 js)) :
  cQ js [none,none] 1 ui (cA 0) (λρ Q=>Q true ρ) te ρ Q:=by
 refine jF (t0:=0) (L.map din).length (λi=>(L.map din).getD i .non) ρ1 hui (by rw[length_map];exact hn) (λx l=>[x,some (.ow l)]) none rfl (λ_ _ _=>rfl) (λ_ _=>zero_lt_succ _) (λ_ _ _ q=>q) (λ_ _ _=>rfl) (λi=>(L.map dout).getD i .non) ?_ ?_
 ·intro i l Q' hi q;rw[length_map]at hi;rw[d3 hi]at q⊢;rw[d3 hi]at q;exact hte _ (getElem_mem hi) l Q' q
 ·rw[length_map,rP];exact hq
theorem at0 {d:D}{l:List D}:atI (d::l) 0=some d:=aY (j:=0) rfl
theorem at1 {d e:D}{l:List D}:atI (d::e::l) 1=some e:=aY (j:=1) rfl
def uU (ns:List Int):Str:=Txt.join " " (ns.map tx)
def a19 (t:List (List Int)):Str:=Txt.join " / " (t.map uU)
abbrev gP:=List (List Int)×Int
def p8 (p:gP):Str:=a19 p.1++" ^ "++tx p.2
def aE5 (ps:List gP):Str:=match ps with
 | []=>"one"
 | _=>Txt.join " * " (ps.map p8)
def cC (p:gP):D:= .tup [nA p.1,.int p.2]
structure u7 (ns:List Int):Prop where
 few:ns.length<=100
 n60: ∀n∈ns,N60 n
structure sK (t:List (List Int)):Prop where
 few:t.length<=20
 rows: ∀r∈t,u7 r
structure tJ (p:gP):Prop where
 tab:sK p.1
 n60:N60 p.2
theorem p9 {y:Str}{B:Nat}: ∀ts:List Str,(∀t∈ts,t.length<=B)->(Txt.join y ts).length<=ts.length*(B+y.length):=by
 intro ts h;have ej:Txt.join y ts=Str.join y ts:=PySem.StrLaws.glued_eq_join y ts;rw[ej];clear ej
 induction ts with
 | nil=>exact zero_le _
 | cons t r ih=>
  have h1:=h t (mem_cons_self ..);have h2:=ih λz hz=>h z (mem_cons_of_mem _ hz)
  rw[length_cons,succ_mul];cases r with
  | nil=>exact le_trans h1 (by simp)
  | cons q r'=>
   show(t++y++Str.join y (q::r')).length<=_
   rw[strLen_append,strLen_append];omega
theorem a87 {y:Str}{c:Nat}: ∀ts:List Str,c∈(Txt.join y ts).cps.toList->c∈y.cps.toList\/ ∃t∈ts,c∈t.cps.toList:=by
 intro ts h;have ej:Txt.join y ts=Str.join y ts:=PySem.StrLaws.glued_eq_join y ts;rw[ej]at h;clear ej
 induction ts with
 | nil=>exact absurd h (by simp[Str.join,Str.empty])
 | cons t r ih=>
  cases r with
  | nil=>exact .inr ⟨t,mem_cons_self ..,h⟩
  | cons q r'=>
   have h':c∈(t++y++Str.join y (q::r')).cps.toList:=h;rw[Str.cps_append,Str.cps_append,toList_append,toList_append,mem_append,mem_append]at h';rcases h' with(h'|h')|h'
   ·exact .inr ⟨t,mem_cons_self ..,h'⟩
   ·exact .inl h'
   ·rcases ih h' with h2| ⟨z,hz,h2⟩
    ·exact .inl h2
    ·exact .inr ⟨z,mem_cons_of_mem _ hz,h2⟩
theorem u7.len {ns:List Int}(h:u7 ns):(uU ns).length<=6200:=by
 refine le_trans (p9 (B:=61) _ λt ht=> ?_) ?_
 ·obtain⟨n,hn,rfl⟩:=List.mem_map.mp ht;exact tI (h.n60 n hn)
 ·rw[length_map];exact mul_le_mul h.few (show 61+(" ":Str).length<=62 by decide)
theorem sK.len {t:List (List Int)}(h:sK t):(a19 t).length<=124060:=by
 refine le_trans (p9 (B:=6200) _ λt ht=> ?_) ?_
 ·obtain⟨n,hn,rfl⟩:=List.mem_map.mp ht;exact(h.rows n hn).len
 ·rw[length_map];exact mul_le_mul h.few (show 6200+(" / ":Str).length<=6203 by decide)
theorem tJ.len {p:gP}(h:tJ p):(p8 p).length<=124124:=by
 unfold p8;rw[strLen_append,strLen_append];have h1:=h.tab.len;have h2:=tI h.n60;have h3:(" ^ ":Str).length=3:=by decide
 omega
theorem u7.signs {ns:List Int}(h:u7 ns): ∀c∈(uU ns).cps.toList,c=32\/c=45\/(48<=c/\c<=57):=by
 intro c hc;rcases a87 _ hc with h1| ⟨t,ht,h1⟩
 ·have e:(" ":Str).cps.toList=[32]:=by decide
  rw[e]at h1;exact .inl (by simpa using h1)
 ·obtain⟨n,hn,rfl⟩:=List.mem_map.mp ht;exact .inr (a86 (h.n60 n hn) c h1)
theorem sK.signs {t:List (List Int)}(h:sK t): ∀c∈(a19 t).cps.toList,c=47\/c=32\/c=45\/(48<=c/\c<=57):=by
 intro c hc;rcases a87 _ hc with h1| ⟨t,ht,h1⟩
 ·have e:(" / ":Str).cps.toList=[32,47,32]:=by decide
  rw[e]at h1;simp at h1;omega
 ·obtain⟨n,hn,rfl⟩:=List.mem_map.mp ht;exact .inr ((h.rows n hn).signs c h1)
theorem tJ.signs {p:gP}(h:tJ p): ∀c∈(p8 p).cps.toList,c=94\/c=47\/c=32\/c=45\/(48<=c/\c<=57):=by
 intro c hc;unfold p8 at hc;rw[Str.cps_append,Str.cps_append,toList_append,toList_append,mem_append,mem_append]at hc;rcases hc with(h1|h1)|h1
 ·exact .inr (h.tab.signs c h1)
 ·have e:(" ^ ":Str).cps.toList=[32,94,32]:=by decide
  rw[e]at h1;simp at h1;omega
 ·have:=a86 h.n60 c h1;omega
theorem aE6 {y:Str}{ts:List Str}{B:Nat}(hB: ∀t∈ts,t.length<=B)(h:ts.length*B+ts.length*y.length<=16777216):JoinOk y ts=true:=by
 unfold JoinOk;rw[PySem.StrLaws.joinFits hB h];rfl
def iL:Φ:=λds Q=> ∃ns:List Int,ds=[eG ns]/\u7 ns/\Q (.pu (.str (uU ns)))
def pA:US:=(cG (lZ wG (uC (.str " ")) (a6 (cQ [] [none,none] 1 (fS (aA 0)) (cA 0) (λρ Q=>Q true ρ) (aK b33 (a6 (aA 0) aE))) aE)))
theorem a20: ∀ds Q,iL ds Q->ds.length=1:=by rintro ds Q ⟨ns,rfl,_⟩;rfl
theorem a88: ∀ds Q,iL ds Q->pA {nx:=λ_=>Q (.pu .non),rt:=Q} (init ["r"] ds):=by
 rintro ds Q ⟨ns,rfl,ok,h⟩;unfold pA;show(cG _:US) _ [some (.pu (eG ns))];rw[kN,sJ];refine(show wF (D.str " ")/\_ from⟨trivial,?_⟩)
 rw[fE];refine cX ns D.int (λn=> .str (tx n)) [some (.pu (eG ns))] ?_ (le_trans ok.few (by decide)) ?_ ?_
 ·intro Q' q;simp only[eG];walk_at "u";exact q
 ·intro n hn l Q' q;walk_at "u";exact⟨(ok.n60 n hn).log,q⟩
 ·refine⟨ns.map tx,by rw[map_map];rfl,aE6 (B:=61) (λt ht=> ?_) ?_,h⟩
  ·obtain⟨n,hn,rfl⟩:=List.mem_map.mp ht;exact tI (ok.n60 n hn)
  ·rw[length_map,show(" ":Str).length=1 by decide]
   have:=ok.few;omega
def fF:Φ:=λds Q=> ∃t:List (List Int),ds=[nA t]/\sK t/\Q (.pu (.str (a19 t)))
def l7:US:=(cG (lZ wG (uC (.str " / ")) (a6 (cQ [] [none,none] 1 (fS (aA 0)) (cA 0) (λρ Q=>Q true ρ) (aK iL (a6 (aA 0) aE))) aE)))
theorem wS: ∀ds Q,fF ds Q->ds.length=1:=by rintro ds Q ⟨ns,rfl,_⟩;rfl
theorem xP: ∀ds Q,fF ds Q->l7 {nx:=λ_=>Q (.pu .non),rt:=Q} (init ["r"] ds):=by
 rintro ds Q ⟨t,rfl,ok,h⟩;unfold l7;show(cG _:US) _ [some (.pu (nA t))];rw[kN,sJ];refine(show wF (D.str " / ")/\_ from⟨trivial,?_⟩)
 rw[fE];refine cX t eG (λr=> .str (uU r)) [some (.pu (nA t))] ?_ (le_trans ok.few (by decide)) ?_ ?_
 ·intro Q' q;simp only[nA];walk_at "u";exact q
 ·intro r hr l Q' q;walk_at "u";exact⟨r,rfl,ok.rows r hr,q⟩
 ·refine⟨t.map uU,by rw[map_map];rfl,aE6 (B:=6200) (λt ht=> ?_) ?_,h⟩
  ·obtain⟨n,hn,rfl⟩:=List.mem_map.mp ht;exact(ok.rows n hn).len
  ·rw[length_map,show(" / ":Str).length=3 by decide]
   have:=ok.few;omega
structure vN (ps:List gP):Prop where
 few:ps.length<=20
 parts: ∀p∈ps,tJ p
theorem vN.join {ps:List gP}(ok:vN ps):JoinOk " * " (ps.map p8)=true:=by
 refine aE6 (B:=124124) (λt ht=> ?_) ?_
 ·obtain⟨n,hn,rfl⟩:=List.mem_map.mp ht;exact(ok.parts n hn).len
 ·rw[length_map,show(" * ":Str).length=3 by decide]
  have:=ok.few;omega
def iF:Φ:=λds Q=> ∃ps:List gP,ds=[.lst (ps.map cC)]/\vN ps/\Q (.pu (.str (aE5 ps)))
def pB:US:=(cG (lZ wG (uC (.str " * ")) (a6 (cQ [] [none,none] 1 (fS (aA 0)) (cA 0) (λρ Q=>Q true ρ) (uOp eB (uOp eB (aK fF (a6 (uIx (aQ 0) (uC (.int 0))) aE)) (uC (.str " ^ "))) (aK b33 (a6 (uIx (aQ 0) (uC (.int 1))) aE)))) aE)))
def l8:US:=(aL (cH (bB (uOp (dB false) (kJ (aQ 0)) (uC (.int 0)))) (cG (uC (.str "one"))) bF) pB)
theorem wT: ∀ds Q,iF ds Q->ds.length=1:=by rintro ds Q ⟨ns,rfl,_⟩;rfl
theorem xQ: ∀ds Q,iF ds Q->l8 {nx:=λ_=>Q (.pu .non),rt:=Q} (init ["r"] ds):=by
 rintro ds Q ⟨ps,rfl,ok,h⟩;unfold l8;show(aL _ _:US) _ [some (.pu (.lst (ps.map cC)))];rw[aC];walk_at "u";rw[length_map];cases ps with
 | nil=>exact h
 | cons p0 ps0=>
  rw[if_neg (by rw[length_cons];omega)]
  unfold pB;rw[kN,sJ];refine(show wF (D.str " * ")/\_ from⟨trivial,?_⟩)
  rw[fE];refine cX (p0::ps0) cC (λr=> .str (p8 r)) [some (.pu (.lst ((p0::ps0).map cC)))] ?_ (le_trans ok.few (by decide)) ?_ ?_
  ·intro Q' q;walk_at "u";exact q
  ·intro r hr l Q' q;have o:=ok.parts r hr;simp only[cC]at q⊢;have h1:=o.tab.len;have h2:=tI o.n60;have h3:(" ^ ":Str).length=3:=by decide
   have hs:sizeLine=16777216:=by decide
   walk_at "u"
   simp only[at0,at1];refine⟨r.1,rfl,o.tab,by rw[h3];omega,o.n60.log,?_,q⟩
   show(a19 r.1++" ^ ").length+(tx r.2).length<=sizeLine
   rw[strLen_append,h3];omega
  ·exact⟨(p0::ps0).map p8,by rw[map_map];rfl,ok.join,h⟩
theorem wU {α:Type}(L:List α)(b:Bool):fJ (L.map λ_=>D.bl b)=some (L.map λ_=>b):=by
 induction L with
 | nil=>rfl
 | cons a r ih=>simp only[map_cons,fJ,ih,map_some]
theorem a89 {α:Type}(L:List α):(L.map λ_=>true).all id=true:=by
 induction L with
 | nil=>rfl
 | cons a r ih=>rw[map_cons,all_cons,ih];rfl
theorem yZ {α:Type}{L:List α}{Q:B->Prop}(h:Q (.pu (.bl true))):zX [.lst (L.map λ_=>D.bl true)] Q:=by
 show(match fJ (L.map λ_=>D.bl true)with
  | some bs=>Q (.pu (.bl (bs.all id)))
  | none=>False)
 rw[wU];dsimp only;rw[a89];exact h
theorem a21 (x:Str):Txt.startswith x "-"=decide (x.cps.toList[0]? =some 45):=by
 have e:(("-":String):Str)=⟨#[45]⟩:=by decide +kernel
 rw[e];have h:=PySem.StrLaws.subAt_one x 45 0;rw[Bool.eq_iff_iff,decide_eq_true_eq,<-h];unfold Txt.startswith;rw[and_eq_true,decide_eq_true_eq]
theorem zA {x:Str}{c:Nat}{r:List Nat}(h:x.cps.toList=c::r):Txt.slice x (some 1) none=⟨r.toArray⟩:=by
 have:=PySem.StrLaws.sliceText_from (x:=x) (i:=1) ⟨by decide,by rw[h,length_cons];omega⟩
 refine Eq.trans this ?_
 rw[h]
 congr 2
 rw[length_cons,show(1:Int).toNat=1 from rfl,List.drop_succ_cons,List.drop_zero,take_of_length_le]
 omega
theorem aV8 {x y:Str}(h:x.cps.toList≠y.cps.toList):x≠y:=λe=>h (by rw[e])
structure Sqr (t:List (List Int)):Prop where
 ok:sK t
 ne:t≠[]
 sq: ∀r∈t,r.length=t.length
theorem Sqr.row {t:List (List Int)}(h:Sqr t){r:List Int}(hr:r∈t):r≠[]:=λz=>by
 have:=h.sq r hr;rw[z]at this;exact h.ne (List.eq_nil_of_length_eq_zero this.symm)
structure PartR (p:gP):Prop where
 ok:tJ p
 sq:Sqr p.1
 lo:1<=p.2
def Pdk (k:Nat)(d:D):Prop:= ∃p,pd d=some p/\p.depth<=k
theorem Pdk.int {k:Nat}{i:Int}:Pdk k (.int i):=⟨_,rfl,zero_le _⟩
theorem pdkL {k:Nat}: ∀{l:List D},(∀d∈l,Pdk k d)-> ∃ps,pdL l=some ps/\PyData.depthAll ps<=k
 | [],_=>⟨[],rfl,zero_le _⟩
 | d::l,h=>by
  obtain⟨p,e,hp⟩:=h d (mem_cons_self ..);obtain⟨ps,es,hps⟩:=pdkL λx hx=>h x (mem_cons_of_mem _ hx)
  refine⟨p::ps,by simp only[pdL,e,es,bind_some,map_some],?_⟩
  simp only[PyData.depthAll];exact Nat.max_le.mpr ⟨hp,hps⟩
theorem Pdk.tup {k:Nat}{l:List D}(h: ∀d∈l,Pdk k d):Pdk (k+1) (.tup l):=by
 obtain⟨ps,e,hp⟩:=pdkL h;exact⟨.tuple ps,by simp only[pd,e,map_some],by simp only[PyData.depth];omega⟩
theorem Pdk.lst {k:Nat}{l:List D}(h: ∀d∈l,Pdk k d):Pdk (k+1) (.lst l):=by
 obtain⟨ps,e,hp⟩:=pdkL h;exact⟨.list ps,by simp only[pd,e,map_some],by simp only[PyData.depth];omega⟩
theorem Pdk.up {k m:Nat}{d:D}(h:Pdk k d)(hm:k<=m):Pdk m d:=let ⟨p,e,hp⟩:=h;⟨p,e,le_trans hp hm⟩
theorem Pdk.row (ns:List Int):Pdk 1 (eG ns):= .tup λd hd=>by
 obtain⟨n,_,rfl⟩:=List.mem_map.mp hd;exact .int
theorem Pdk.tab (t:List (List Int)):Pdk 2 (nA t):= .tup λd hd=>by
 obtain⟨n,_,rfl⟩:=List.mem_map.mp hd;exact .row n
theorem Pdk.part (p:gP):Pdk 3 (cC p):= .tup λd hd=>by
 rcases List.mem_cons.mp hd with rfl|hd
 ·exact .tab _
 ·rw[List.mem_singleton.mp hd];exact .int
theorem Pdk.parts (ps:List gP):Pdk 4 (.lst (ps.map cC)):= .lst λd hd=>by
 obtain⟨n,_,rfl⟩:=List.mem_map.mp hd;exact .part n
theorem Pdk.same {neg:Bool}{k:Nat}{d:D}{Q:B->Prop}(h:Pdk k d)(hk:k<=60)(q:Q (.pu (.bl (neg ^^ true)))):b29 neg d d Q:=by
 obtain⟨p,e,hp⟩:=h;exact⟨p,p,e,e,le_trans hp hk,by rw[PySem.SeqAt.eqv_refl p (zY d e)];exact q⟩
def jG:Φ:=λds Q=> ∃(c:Int) (k:Nat) (p:Int),ds=[.int c,.int (k:Int),.int p]/\k<=81/\0<p/\ ∀ns:List Int,ns.length=k->(∀n∈ns,N60 n)->Q (.pu (eG ns))
def oD:US:=(aX 9 (uOp M.gSub (uOp eR (aA 9) (uIx (aQ 6) (uC (.int 3)))) (uC (.int 1))))
def oE:US:=(aL (uP (qQ (a6 (uIx (aQ 6) (uC (.int 2))) aE)) (cA 10) (aX 9 (uOp j6 (aA 9) (uC (.int 10))))) oD)
def oF:US:=(aL (aX 9 (uC (.int 1))) oE)
def l9:US:=(zU 4 (aA 9))
def lB:US:=(aL (cH (bB (uOp (dB false) (uIx (aQ 6) (uC (.int 0))) (uC (.int 4)))) (aX 9 (aR5 (aA 9))) bF) l9)
def lC:US:=(aL (cH (bB (uOp (rJ λi j=>decide (j<i)) (uIx (aQ 6) (uC (.int 0))) (uC (.int 2)))) oF bF) lB)
def qU:US:=(aL (cH (bB (uOp (rJ λi j=>decide (i<j)) (uIx (aQ 6) (uC (.int 0))) (uC (.int 2)))) (aX 9 (uOp M.gSub (uIx (aQ 6) (uC (.int 1))) (uC (.int 20)))) bF) lC)
def qV:US:=(aL (aX 9 (uOp M.gSub (uOp uR (aA 7) (uOp M.gSub (uOp j6 (uC (.int 2)) (uOp a63 (uC (.int 10)) (uC (.int 60)))) (uC (.int 1)))) (uOp M.gSub (uOp a63 (uC (.int 10)) (uC (.int 60))) (uC (.int 1))))) qU)
def qW:US:=(aL (uP (fS (uSl (aQ 6) (fA (uC (.int 4))) dH)) (cA 8) (aX 7 (uOp eR (uOp j6 (aA 7) (uOp a63 (uC (.int 10)) (uC (.int 8)))) (aA 8)))) qV)
def qX:US:=(aL (aX 7 (uC (.int 0))) qW)
def lD:US:=(aL (aX 6 (uSl (aQ 3) (fA (uOp j6 (uC (.int 12)) (aA 5))) (fA (uOp eR (uOp j6 (uC (.int 12)) (aA 5)) (uC (.int 12)))))) qX)
def u8:US:=(cG (aK iH (a6 (aA 4) aE)))
def u9:US:=(aL (uP (qQ (a6 (aA 1) aE)) (cA 5) lD) u8)
def uA:US:=(aL (aX 4 (iP aE)) u9)
def tK:US:=(aL (aX 3 (aK jS (a6 (aA 0) (a6 (uOp j6 (uOp eR (iP (a6 (uC (.int 5)) (a6 (uC (.int 41)) (a6 (uC (.int 60)) (a6 (uC (.int 3)) aE))))) (uOp j6 (iP (a6 (uOp a63 (uC (.int 10)) (uC (.int 8))) aE)) (uC (.int 8)))) (aA 1)) (a6 (aA 2) aE))))) uA)
theorem aE7: ∀ds Q,jG ds Q->ds.length=3:=by rintro ds Q ⟨ns,k,p,rfl,_⟩;rfl
theorem aI9 {α:Type}(l:List α): ∀(m k j:Nat),k<m->j<l.length->(replicate m l).flatten[l.length*k+j]? =l[j]?
 | 0,_,_,h,_=>absurd h (Nat.not_lt_zero _)
 | m+1,0,j,_,hj=>by
  rw[replicate_succ,flatten_cons,Nat.mul_zero,Nat.zero_add,getElem?_append_left hj]
 | m+1,k+1,j,hk,hj=>by
  rw[replicate_succ,flatten_cons,List.getElem?_append_right (by rw[mul_succ];omega),show l.length*(k+1)+j-l.length=l.length*k+j by rw[mul_succ];omega]
  exact aI9 l m k j (by omega) hj
theorem a90 {α:Type}(l:List α)(m:Nat):(replicate m l).flatten.length=l.length*m:=by
 induction m with
 | zero=>rfl
 | succ m ih=>rw[replicate_succ,flatten_cons,length_append,ih,mul_succ];omega
theorem aV9 {m:Nat}{l:List Int}:(replicate m (l.map D.int)).flatten=(replicate m l).flatten.map .int:=by
 induction m with
 | zero=>rfl
 | succ m ih=>rw[replicate_succ,flatten_cons,ih,replicate_succ,flatten_cons,map_append]
def w12:List Int:=[5,41,60,3,100000000,100000000,100000000,100000000,100000000,100000000,100000000,100000000]
structure P12 (W:List Int):Prop where
 len:W.length=12
 b: ∀(j:Nat) (x w:Int),W[j]? =some x->w12[j]? =some w->0<=x/\x<w
theorem P12.four {W:List Int}(h:P12 W): ∃a b c d r,W=a::b::c::d::r/\0<=a/\a<5/\0<=b/\b<41/\0<=c/\c<60/\0<=d/\d<3:=by
 match W,h.len,h.b with
 | a::b::c::d::r,_,hb=>
  have h0:=hb 0 a 5 rfl rfl;have h1:=hb 1 b 41 rfl rfl;have h2:=hb 2 c 60 rfl rfl;have h3:=hb 3 d 3 rfl rfl;exact⟨a,b,c,d,r,rfl,h0.1,h0.2,h1.1,h1.2,h2.1,h2.2,h3.1,h3.2⟩
theorem aW0 {E:UD}{s0 s1 s2 s3 s5 s7 s8 s10:Option B}{ns:List Int}{W:List D}{a v:Int}(a0:atI W 0=some (.int a))(nv:N60 v)(hl:ns.length<1000)
  (h: ∀v',N60 v'->E.nx [s0,s1,s2,s3,some (.ow ((ns++[v']).map .int)),s5,some (.ow W),s7,s8,some (.pu (.int v')),s10]) :
  lB E [s0,s1,s2,s3,some (.ow (ns.map .int)),s5,some (.ow W),s7,s8,some (.pu (.int v)),s10]:=by
 have hz:(ns.map D.int).length<sizeLine:=by rw[length_map];exact lt_of_lt_of_le hl (by decide)
 have nv':N60 (-v):=by unfold N60 at nv ⊢; rw[Int.natAbs_neg];exact nv
 unfold lB;rw[aC];walk_at "u";simp only[a0];have h1:=h v nv;have h2:=h (-v) nv';rw[map_append]at h1 h2;split
 ·unfold l9;walk_at "u";exact⟨hz,h2⟩
 ·unfold l9;walk_at "u";exact⟨hz,h1⟩
theorem aW1 {E:UD}{s0 s1 s2 s3 s5 s7 s8 s10:Option B}{ns:List Int}{W:List D}{a c d v:Int}(a0:atI W 0=some (.int a))(a2:atI W 2=some (.int c))(a3:atI W 3=some (.int d))(c0:0<=c)(c1:c<60)(d0:0<=d)(d1:d<3)(nv:N60 v)(hl:ns.length<1000)
  (h: ∀v' s10,N60 v'->E.nx [s0,s1,s2,s3,some (.ow ((ns++[v']).map .int)),s5,some (.ow W),s7,s8,some (.pu (.int v')),s10]) :
  lC E [s0,s1,s2,s3,some (.ow (ns.map .int)),s5,some (.ow W),s7,s8,some (.pu (.int v)),s10]:=by
 unfold lC;rw[aC];walk_at "u";simp only[a0];split
 ·unfold oF;rw[aC];walk_at "u";unfold oE;rw[aC];refine dL c.toNat (λi=> .int (0+i)) [s0,s1,s2,s3,some (.ow (ns.map .int)),s5,some (.ow W),s7,s8,some (.pu (.int 1)),s10] ?_
   (λi ρ=> ∃x10,ρ=[s0,s1,s2,s3,some (.ow (ns.map .int)),s5,some (.ow W),s7,s8,some (.pu (.int ((10:Int)^i))),x10]) ⟨_,rfl⟩ ?_ ?_
  ·intro Q' q;walk_at "u";simp only[a2];refine⟨⟨by omega,by omega⟩,q⟩
  ·rintro i ρ hi ⟨x10,rfl⟩;refine⟨by simp,?_⟩
   walk_at "u"
   refine⟨cmR (by decide) (by decide),some (.pu (.int (0+(i:Int)))),?_⟩
   rw[Int.pow_succ]
  ·rintro ρ ⟨x10,rfl⟩;unfold oD;walk_at "u";simp only[a3];refine aW0 a0 ?_ hl λv' nv'=>h v' _ nv'
   unfold N60;have hp:10^c.toNat<=10^59:=Nat.pow_le_pow_right (by decide) (by omega)
   have hq:0<10^c.toNat:=Nat.pow_pos (by decide)
   have he:(10:Int)^c.toNat=((10^c.toNat:Nat):Int):=by simp
   rw[he];generalize 10^c.toNat=t at hp hq⊢;omega
 ·exact aW0 a0 nv hl λv' nv'=>h v' _ nv'
theorem aN1: ∀ds Q,jG ds Q->tK {nx:=λ_=>Q (.pu .non),rt:=Q} (init ["c","m","p","f","r","k","a","b","l","v","j"] ds):=by
 rintro ds Q ⟨c,m,p,rfl,m1,p0,h⟩;unfold tK;show(aL _ _:US) _ [some (.pu (.int c)),some (.pu (.int (m:Int))),some (.pu (.int p)),none,none,none,none,none,none,none,none];rw[aC];walk_at "u";have ew:([D.int 5,.int 41,.int 60,.int 3]++(replicate (8:Int).toNat [D.int ((10:Int)^(8:Int).toNat)]).flatten:List D)=w12.map .int:=by rfl
 refine⟨by decide,cpl (by decide) (by decide) (by decide),by decide,⟨by decide,by decide,by decide⟩,by decide,?_⟩
 rw[ew];refine⟨⟨by omega,by omega,?_⟩,?_⟩
 ·show 12*(m:Int).toNat<=sizeLine
  exact le_trans (show _<=972 by omega) (by decide)
 refine⟨c,(replicate m w12).flatten,p,by rw[toNat_natCast,aV9],?_,p0,?_,λxs hx=> ?_⟩
 ·rw[a90];show 12*m<=1000;omega
 ·intro w hw;obtain⟨l,hl,hw⟩:=List.mem_flatten.mp hw;rw[List.eq_of_mem_replicate hl]at hw;simp only[w12,mem_cons,not_mem_nil,or_false]at hw;omega
 have xl:xs.length=12*m:=by rw[hx.1,a90];rfl
 try dsimp only
 unfold uA;rw[aC];walk_at "u";refine⟨by decide,?_⟩
 unfold u9;rw[aC];refine dL m (λi=> .int (0+i)) [some (.pu (.int c)),some (.pu (.int (m:Int))),some (.pu (.int p)),some (.ow (xs.map .int)),some (.ow []),none,none,none,none,none,none] ?_
  (λi ρ=> ∃(ns:List Int) (y5 y6 y7 y8 y9 y10:Option B),ρ=[some (.pu (.int c)),some (.pu (.int (m:Int))),some (.pu (.int p)),some (.ow (xs.map .int)),some (.ow (ns.map .int)),y5,y6,y7,y8,y9,y10]/\ns.length=i/\ ∀n∈ns,N60 n)
  ⟨[],_,_,_,_,_,_,rfl,rfl,by simp⟩ ?_ ?_
 ·intro Q' q;walk_at "u";refine⟨⟨by omega,by omega⟩,?_⟩
  rw[toNat_natCast];exact q
 ·rintro i ρ hi ⟨ns,y5,y6,y7,y8,y9,y10,rfl,hl,hn⟩;refine⟨by simp,?_⟩
  show lD _ [some (.pu (.int c)),some (.pu (.int (m:Int))),some (.pu (.int p)),some (.ow (xs.map .int)),some (.ow (ns.map .int)),some (.pu (.int (0+(i:Int)))),y6,y7,y8,y9,y10]
  unfold lD;rw[aC];walk_at "u";refine⟨cmL (by decide) (by decide),cmL (by decide) (by decide),?_⟩
  have ec:cutD (xs.map D.int) (some (12*(0+(i:Int)))) (some (12*(0+(i:Int))+12))=((xs.drop (12*i)).take 12).map .int:=by
   have:=aI5 (xs.map D.int) (12*i) 12 (by rw[length_map,xl];omega)
   rw[show(12*(0+(i:Int)))=((12*i:Nat):Int)by omega,show(((12*i:Nat):Int)+12)=((12*i+12:Nat):Int)by omega,this,map_take,map_drop]
  rw[ec];have P:P12 ((xs.drop (12*i)).take 12):=by
   refine⟨by rw[length_take,length_drop,xl];omega,λj x w e1 e2=> ?_⟩
   have hj:j<12:=(List.getElem?_eq_some_iff.mp e2).1;rw[List.getElem?_take_of_lt hj,List.getElem?_drop]at e1;refine hx.2 _ x w e1 ?_;have:=aI9 w12 m i j hi hj;rw[show w12.length=12 from rfl]at this
   rw[this];exact e2
  generalize (xs.drop (12*i)).take 12=W at P;obtain⟨q0,q1,q2,q3,qr,rfl,b0,b1,b2,b3,b4,b5,b6,b7⟩:=P.four;unfold qX;rw[aC];walk_at "u";unfold qW;rw[aC]
  refine dL (qr.map D.int).length (λi=>(qr.map D.int).getD i .non) [some (.pu (.int c)),some (.pu (.int (m:Int))),some (.pu (.int p)),some (.ow (xs.map .int)),some (.ow (ns.map .int)),some (.pu (.int (0+(i:Int)))),some (.ow ((q0::q1::q2::q3::qr).map .int)),some (.pu (.int 0)),y8,y9,y10] ?_
   (λj ρ=> ∃(f:Int) (x8:Option B),ρ=[some (.pu (.int c)),some (.pu (.int (m:Int))),some (.pu (.int p)),some (.ow (xs.map .int)),some (.ow (ns.map .int)),some (.pu (.int (0+(i:Int)))),some (.ow ((q0::q1::q2::q3::qr).map .int)),some (.pu (.int f)),x8,y9,y10]) ⟨_,_,rfl⟩ ?_ ?_
  ·intro Q' q;walk_at "u";have:=aV7 ((q0::q1::q2::q3::qr).map D.int) 4 (by simp)
   rw[show(4:Int)=((4:Nat):Int)from rfl,this]
   exact q
  ·rintro j ρ hj ⟨f,x8,rfl⟩;obtain⟨z,hz⟩:=aV2 hj;rw[hz];refine⟨by simp,?_⟩
   walk_at "u"
   refine⟨cpl (by decide) (by decide) (by decide),cmR (by decide) (by decide),_,_,rfl⟩
  ·rintro ρ ⟨f,x8,rfl⟩;try dsimp only
   have a0:atI ((q0::q1::q2::q3::qr).map D.int) 0=some (.int q0):=aY (j:=0) rfl;have a1:atI ((q0::q1::q2::q3::qr).map D.int) 1=some (.int q1):=aY (j:=1) rfl;have a2:atI ((q0::q1::q2::q3::qr).map D.int) 2=some (.int q2):=aY (j:=2) rfl;have a3:atI ((q0::q1::q2::q3::qr).map D.int) 3=some (.int q3):=aY (j:=3) rfl;generalize (q0::q1::q2::q3::qr).map D.int=W at a0 a1 a2 a3⊢;unfold qV;rw[aC]
   walk_at "u"
   refine⟨cpl (by decide) (by decide) (by decide),cmL (by decide) (by decide),by decide,cpl (by decide) (by decide) (by decide),?_⟩
   have nv:N60 (f.fmod (2*10^(60:Int).toNat-1)-(10^(60:Int).toNat-1)):=by
    rw[jR _ (by decide)]
    have h1:=emod_nonneg f (show(2*10^(60:Int).toNat-1:Int)≠0 by decide)
    have h2:=emod_lt_of_pos f (show(0:Int)<2*10^(60:Int).toNat-1 by decide)
    unfold N60;rw[show((60:Int).toNat)=60 from rfl]at *
    omega
   generalize f.fmod (2*10^(60:Int).toNat-1)-(10^(60:Int).toNat-1)=v at nv⊢;unfold qU;rw[aC];walk_at "u";simp only[a0,a1]
   have key: ∀v',N60 v'-> ∀x10:Option B,∃(ns':List Int) (z5 z6 z7 z8 z9 z10:Option B),([some (.pu (.int c)),some (.pu (.int (m:Int))),some (.pu (.int p)),some (.ow (xs.map .int)),some (.ow ((ns++[v']).map .int)),some (.pu (.int (0+(i:Int)))),some (.ow W),some (.pu (.int f)),x8,some (.pu (.int v')),x10]:Ev)=[some (.pu (.int c)),some (.pu (.int (m:Int))),some (.pu (.int p)),some (.ow (xs.map .int)),some (.ow (ns'.map .int)),z5,z6,z7,z8,z9,z10]/\ns'.length=i+1/\ ∀n∈ns',N60 n:=λv' nv' x10=>⟨ns++[v'],_,_,_,_,_,_,rfl,by simp[hl],λn hn'=>by
    rcases List.mem_append.mp hn' with z|z
    ·exact hn n z
    ·rw[List.mem_singleton.mp z];exact nv'⟩
   split
   ·refine aW1 a0 a2 a3 b4 b5 b6 b7 ?_ (by omega) λv' x10 nv'=>key v' nv' x10
    unfold N60;omega
   ·exact aW1 a0 a2 a3 b4 b5 b6 b7 nv (by omega) λv' x10 nv'=>key v' nv' x10
 ·rintro ρ ⟨ns,y5,y6,y7,y8,y9,y10,rfl,hl,hn⟩;unfold u8;walk_at "u";exact h ns hl hn
structure a91 (t:List (List Int))(r n:Nat):Prop where
 len:t.length=r
 rows: ∀x∈t,x.length=n/\ ∀y∈x,N60 y
theorem b63 {ns:List Int}{r n:Nat}(hl:ns.length=r*n)(h: ∀x∈ns,N60 x):a91 ((range r).map λk=>(ns.drop (n*k)).take n) r n:=by
 refine⟨by simp,λx hx=> ?_⟩
 obtain⟨k,hk,rfl⟩:=List.mem_map.mp hx;have hk':=List.mem_range.mp hk;have h1:n*k+n<=r*n:=by
  have:n*(k+1)<=n*r:=Nat.mul_le_mul_left n hk';rw[mul_comm r n];rw[mul_succ]at this;exact this
 refine⟨by rw[length_take,length_drop,hl];omega,λy hy=>h y (mem_of_mem_drop (List.mem_of_mem_take hy))⟩
theorem b64 {ns:List Int}{r n k:Nat}(hl:ns.length=r*n)(hk:k<r)(hn:n<=1000):cutD (ns.map D.int) (some ((n:Int)*(0+(k:Int)))) (some ((n:Int)*(0+(k:Int))+(n:Int)))=((ns.drop (n*k)).take n).map .int:=by
 have h1:n*k+n<=r*n:=by
  have:n*(k+1)<=n*r:=Nat.mul_le_mul_left n hk;rw[mul_comm r n];rw[mul_succ]at this;exact this
 have:=aI5 (ns.map D.int) (n*k) n (by rw[length_map,hl];exact h1)
 rw[Int.zero_add,<-Int.natCast_mul,<-Int.natCast_add,this,map_take,map_drop]
theorem b65 {ns:List Int}{r n:Nat}{ρ ρ1:Ev}{ui:UI}{Q:B->Ev->Prop}{cap:List (Option Nat)}{js:List Nat}(hl:ns.length=r*n)(hr:r<=1000)(hn:n<=1000)
  (hui: ∀Q:Nat->(Nat->D)->Ev->Prop,Q r (λk=> .int (0+(k:Int))) ρ1->ui ρ Q) (h0:lX (l5 ρ1 js) cap 3=[none,some (.pu (eG ns)),some (.pu (.int (n:Int))),some (.ow [])])
  (hq:Q (.ow (((range r).map λk=>(ns.drop (n*k)).take n).map eG)) (l5 ρ1 js)) :
  cQ js cap 3 ui (cA 0) (λρ Q=>Q true ρ) (b28 (aA 1) (fA (uOp j6 (aA 2) (aA 0))) (fA (uOp eR (uOp j6 (aA 2) (aA 0)) (aA 2)))) ρ Q:=by
 refine jF (t0:=0) r (λk=> .int (0+(k:Int))) ρ1 hui (by omega) (λx l=>[x,some (.pu (eG ns)),some (.pu (.int (n:Int))),some (.ow l)]) none h0 (λ_ _ _=>rfl) (λ_ _=>zero_lt_succ _) (λ_ _ _ q=>q) (λ_ _ _=>rfl) (λk=>eG ((ns.drop (n*k)).take n)) ?_ ?_
 ·intro k l Q' hk q;simp only[eG]at q⊢;walk_at "u";refine⟨cmL (by omega) (by omega),cmL (by omega) (by omega),?_⟩
  rw[b64 hl hk hn];exact q
 ·rw[map_map]at hq;exact hq
def dS:Φ:=λds Q=> ∃(c:Int) (n:Nat) (p:Int),ds=[.int c,.int (n:Int),.int p]/\n<=9/\0<p/\ ∀t:List (List Int),a91 t n n->Q (.pu (nA t))
def m8:US:=(cG (aK iH (a6 (cQ [3,1] [none,some 3,some 1,none] 3 (qQ (a6 (aA 1) aE)) (cA 0) (λρ Q=>Q true ρ) (b28 (aA 1) (fA (uOp j6 (aA 2) (aA 0))) (fA (uOp eR (uOp j6 (aA 2) (aA 0)) (aA 2))))) aE)))
def iR:US:=(aL (aX 3 (aK jG (a6 (aA 0) (a6 (uOp j6 (aA 1) (aA 1)) (a6 (aA 2) aE))))) m8)
theorem tL: ∀ds Q,dS ds Q->ds.length=3:=by rintro ds Q ⟨ns,k,p,rfl,_⟩;rfl
theorem uW: ∀ds Q,dS ds Q->iR {nx:=λ_=>Q (.pu .non),rt:=Q} (init ["c","m","p","f"] ds):=by
 rintro ds Q ⟨c,n,p,rfl,n1,p0,h⟩;unfold iR;show(aL _ _:US) _ [some (.pu (.int c)),some (.pu (.int (n:Int))),some (.pu (.int p)),none];rw[aC];walk_at "u";refine⟨cmL (by omega) (by omega),c,n*n,p,by rw[Int.natCast_mul],?_,p0,λns hl hn=> ?_⟩
 ·exact le_trans (mul_le_mul n1 n1) (by decide)
 dsimp only;unfold m8;rw[kN,jT,fE];refine b65 (r:=n) (n:=n) hl (by omega) (by omega) (ρ1:=[some (.pu (.int c)),some (.pu (.int (n:Int))),some (.pu (.int p)),some (.pu (eG ns))]) ?_ rfl (h _ (b63 hl hn))
 intro Q' q;walk_at "u";refine⟨⟨by omega,by omega⟩,?_⟩
 rw[toNat_natCast];exact q
theorem a91.ok {t:List (List Int)}{r n:Nat}(h:a91 t r n)(hr:r<=20)(hn:n<=100):sK t:=⟨by rw[h.len];exact hr,λx hx=>⟨by rw[(h.rows x hx).1];exact hn,(h.rows x hx).2⟩⟩
theorem a91.sqr {t:List (List Int)}{n:Nat}(h:a91 t n n)(h0:1<=n)(hr:n<=20):Sqr t:=⟨h.ok hr (by omega),λz=>by have:=h.len;rw[z]at this;simp at this;omega,λx hx=>by rw[(h.rows x hx).1,h.len]⟩
structure aJ0 (p:gP):Prop where
 tab: ∃n,1<=n/\n<=4/\a91 p.1 n n
 n60:N60 p.2
 lo:1<=p.2
theorem aJ0.r {p:gP}(h:aJ0 p):PartR p:=by
 obtain⟨n,n1,n4,t⟩:=h.tab;exact⟨⟨t.ok (by omega) (by omega),h.n60⟩,t.sqr n1 (by omega),h.lo⟩
structure a22 (ps:List gP):Prop where
 few:ps.length<=4
 parts: ∀p∈ps,aJ0 p
theorem a22.ok {ps:List gP}(h:a22 ps):vN ps:=⟨by have:=h.few;omega,λp hp=>(h.parts p hp).r.ok⟩
def j8:Φ:=λds Q=> ∃(s:List Int) (k p:Int),ds=[.rol (s.map .int),.int k,.int p]/\s.length<=63/\0<=k/\k<=1000/\0<p/\ ∀ps:List gP,a22 ps->Q (.ow (ps.map cC))
def m9:US:=(zU 4 (mR (a6 (aK dS (a6 (aK iE (a6 (aA 0) (a6 (uOp eR (uOp eR (aA 1) (uC (.int 1))) (aA 5)) aE))) (a6 (uOp eR (uIx (aQ 3) (uOp eR (uC (.int 1)) (aA 5))) (uC (.int 1))) (a6 (aA 2) aE)))) (a6 (aK b20 (a6 (uC (.int 1)) (a6 (aK gAbs (a6 (uIx (aQ 6) (uC (.int 0))) aE)) aE))) aE))))
def gW:US:=(aL (aX 6 (aK jG (a6 (aK iE (a6 (aA 0) (a6 (uOp eR (uOp eR (aA 1) (uC (.int 5))) (aA 5)) aE))) (a6 (uC (.int 1)) (a6 (uC (.int 999999739)) aE))))) m9)
def pC:US:=(oR 4)
def pE:US:=(aL (uP (qQ (a6 (uIx (aQ 3) (uC (.int 0))) aE)) (cA 5) gW) pC)
def pF:US:=(aL (aX 4 (iP aE)) pE)
def nB:US:=(aL (aX 3 (aK jS (a6 (aK iE (a6 (aA 0) (a6 (aA 1) aE))) (a6 (iP (a6 (uC (.int 5)) (a6 (uC (.int 4)) (a6 (uC (.int 4)) (a6 (uC (.int 4)) (a6 (uC (.int 4)) aE)))))) (a6 (aA 2) aE))))) pF)
theorem xR: ∀ds Q,j8 ds Q->ds.length=3:=by rintro ds Q ⟨ns,k,p,rfl,_⟩;rfl
theorem a23: ∀ds Q,j8 ds Q->nB {nx:=λ_=>Q (.pu .non),rt:=Q} (init ["s","k","p","d","f","j","a"] ds):=by
 rintro ds Q ⟨s,k,p,rfl,s1,k0,k1,p0,h⟩;unfold nB;show(aL _ _:US) _ [some (.pu (.rol (s.map .int))),some (.pu (.int k)),some (.pu (.int p)),none,none,none,none];rw[aC];walk_at "u";refine⟨s,k,rfl,s1,k0,by omega,λcc=>⟨by decide,cc,[5,4,4,4,4],p,rfl,by decide,p0,by decide,λway hw=> ?_⟩⟩
 obtain⟨w0,w1,w2,w3,w4,rfl⟩: ∃w0 w1 w2 w3 w4,way=[w0,w1,w2,w3,w4]:=by
  match way,hw.1 with
  | [w0,w1,w2,w3,w4],_=>exact⟨w0,w1,w2,w3,w4,rfl⟩
 have b0:=hw.2 0 w0 5 rfl rfl;have wj: ∀j:Nat,j<4-> ∃w,atI ([w0,w1,w2,w3,w4].map D.int) (1+(0+(j:Int)))=some (.int w)/\0<=w/\w<4:=λj hj=>by
  have e:(1+(0+(j:Int)))=((1+j:Nat):Int):=by omega
  rw[e]
  match j,hj with
  | 0,_=>exact⟨w1,aY rfl,(hw.2 1 w1 4 rfl rfl)⟩
  | 1,_=>exact⟨w2,aY rfl,(hw.2 2 w2 4 rfl rfl)⟩
  | 2,_=>exact⟨w3,aY rfl,(hw.2 3 w3 4 rfl rfl)⟩
  | 3,_=>exact⟨w4,aY rfl,(hw.2 4 w4 4 rfl rfl)⟩
 have a0:atI ([w0,w1,w2,w3,w4].map D.int) 0=some (.int w0):=aY (j:=0) rfl;generalize [w0,w1,w2,w3,w4].map D.int=W at a0 wj⊢;try dsimp only
 unfold pF;rw[aC];walk_at "u";refine⟨by decide,?_⟩
 unfold pE;rw[aC];refine dL w0.toNat (λi=> .int (0+i)) [some (.pu (.rol (s.map .int))),some (.pu (.int k)),some (.pu (.int p)),some (.ow W),some (.ow []),none,none] ?_
  (λi ρ=> ∃(ps:List gP) (y5 y6:Option B),ρ=[some (.pu (.rol (s.map .int))),some (.pu (.int k)),some (.pu (.int p)),some (.ow W),some (.ow (ps.map cC)),y5,y6]/\ps.length=i/\ ∀q∈ps,aJ0 q)
  ⟨[],_,_,rfl,rfl,by simp⟩ ?_ ?_
 ·intro Q' q;walk_at "u";simp only[a0];exact⟨⟨by omega,by omega⟩,q⟩
 ·rintro i ρ hi ⟨ps,y5,y6,rfl,hl,hp⟩;obtain⟨w,aw,wl,wh⟩:=wj i (by omega)
  refine⟨by simp,?_⟩
  show gW _ [some (.pu (.rol (s.map .int))),some (.pu (.int k)),some (.pu (.int p)),some (.ow W),some (.ow (ps.map cC)),some (.pu (.int (0+(i:Int)))),y6]
  unfold gW;rw[aC];walk_at "u";refine⟨s,_,rfl,s1,by omega,by omega,λc1=>⟨c1,1,_,rfl,by omega,by decide,λns hl1 hn1=> ?_⟩⟩
  obtain⟨f,rfl⟩: ∃f,ns=[f]:=by
   match ns,hl1 with
   | [f],_=>exact⟨f,rfl⟩
  have nf:=hn1 f (by simp)
  try dsimp only
  unfold m9;simp only[eG,map_cons,map_nil];walk_at "u";refine⟨s,_,rfl,s1,by omega,by omega,λc2=> ?_⟩
  simp only[aw];refine⟨c2,(w+1).toNat,p,by rw[toNat_of_nonneg (by omega)],by omega,p0,λt ht=> ?_⟩
  have af:atI [D.int f] 0=some (.int f):=aY (j:=0) rfl;simp only[af];have hz:(ps.map cC).length<sizeLine:=by rw[length_map];exact lt_of_lt_of_le (show _<10 by omega) (by decide)
  refine⟨by decide,hz,ps++[(t,(if(if f<0 then -f else f)>1 then(if f<0 then -f else f)else 1))],_,_,by rw[map_append];rfl,by simp[hl],λq hq=> ?_⟩
  rcases List.mem_append.mp hq with z|z
  ·exact hp q z
  ·rw[List.mem_singleton.mp z];unfold N60 at nf;refine⟨⟨(w+1).toNat,by omega,by omega,ht⟩,?_,?_⟩
   ·unfold N60;dsimp only;split<;>split<;>omega
   ·dsimp only;split<;>split<;>omega
 ·rintro ρ ⟨ps,y5,y6,rfl,hl,hp⟩;unfold pC;walk_at "u";exact h ps ⟨by omega,hp⟩
def gB:List Nat->List Nat
 | 45::r=>r
 | l=>l
def a24 (l:List Nat):Bool:=l.all λc=>decide (48<=c)&&decide (c<=57)
def dM (w:List Nat):Bool:=decide (w=[48])||(decide (gB w≠[])&&decide ((gB w).head?≠some 48)&&decide ((gB w).length<=60)&&a24 (gB w))
def uX:List Nat->Int
 | 45::r=> -(PySem.NumText.digitsVal r:Int)
 | l=>(PySem.NumText.digitsVal l:Int)
def Asc (w:Str):Prop:=w.cps.all (· <128)=true
def dU:Φ:=λds Q=> ∃w:Str,ds=[.str w]/\Asc w/\w.length<=1000000/\Q (.pu (.bl (dM w.cps.toList)))
def kO:US:=(cG (aK zX (a6 (cQ [] [none,none] 1 (aH5 (aA 1)) (cA 0) (λρ Q=>Q true ρ) (uOp b32 (aA 0) (uC (.str "0123456789")))) aE)))
def gD:US:=(aL (cH (uOr (bB (uOp (dB false) (aA 1) (uC (.str "")))) (uOr (bB (uOp (dB false) (uOp aD0 (aA 1) (uC (.int 0))) (uC (.str "0")))) (bB (uOp (rJ λi j=>decide (j<i)) (aK yP (a6 (aA 1) aE)) (uC (.int 60)))))) (cG (uC (.bl false))) bF) kO)
def kP:US:=(aL (aX 1 (uIf (bB (lZ vH (aA 0) (a6 (uC (.str "-")) aE))) (sA (aA 0) (fA (uC (.int 1))) dH) (aA 0))) gD)
def iS:US:=(aL (cH (bB (uOp (dB false) (aA 0) (uC (.str "0")))) (cG (uC (.bl true))) bF) kP)
theorem tM: ∀ds Q,dU ds Q->ds.length=1:=by rintro ds Q ⟨ns,rfl,_⟩;rfl
def xS (f:List Nat):Bool:=decide (f≠[])&&decide (f.head?≠some 48)&&decide (f.length<=60)&&a24 f
theorem aW2 (c:Nat):(!(Builtin.Str.occurrences ("0123456789":Str) ⟨#[c]⟩ 0 ("0123456789":Str).length 1).isEmpty)=(decide (48<=c)&&decide (c<=57)):=by
 rw[PySem.StrLaws.found_one];have e:("0123456789":Str).cps.toList=[48,49,50,51,52,53,54,55,56,57]:=by decide +kernel
 rw[e]
 by_cases h:48<=c/\c<=57
 ·rw[decide_eq_true h.1,decide_eq_true h.2];simp;omega
 ·have h2:(decide (48<=c)&&decide (c<=57))=false:=by
   rw[Bool.and_eq_false_iff]
   by_cases h1:48<=c
   ·exact .inr (decide_eq_false (by omega))
   ·exact .inl (decide_eq_false h1)
  rw[h2];simp;omega
theorem qI {α:Type}(L:List α)(b:α->Bool):fJ (L.map λa=>D.bl (b a))=some (L.map b):=by
 induction L with
 | nil=>rfl
 | cons a r ih=>simp only[map_cons,fJ,ih,map_some]
theorem aW3 {α:Type}{L:List α}{b:α->Bool}{Q:B->Prop}(h:Q (.pu (.bl (L.all b)))):zX [.lst (L.map λa=>D.bl (b a))] Q:=by
 show(match fJ (L.map λa=>D.bl (b a))with
  | some bs=>Q (.pu (.bl (bs.all id)))
  | none=>False)
 rw[qI];dsimp only;rw[all_map];exact h
theorem aN2 (l:List Nat)(p:Nat->Bool):(range l.length).all (λi=>p (l.getD i 0))=l.all p:=by
 have:(range l.length).map (λi=>l.getD i 0)=l:=by
  apply ext_getElem?
  intro i
  by_cases h:i<l.length
  ·rw[getElem?_map,List.getElem?_range h,getElem?_eq_getElem h,map_some,getD_eq_getElem?_getD,getElem?_eq_getElem h];rfl
  ·rw[getElem?_eq_none (by simpa using h),getElem?_eq_none (by simpa using h)]
 conv=>rhs;rw[<-this]
 rw[all_map];rfl
theorem wV {Q:B->Prop}{w:Option B}{F:Str}(asc:Asc F)(hl:F.length<=1000000)(h:Q (.pu (.bl (xS F.cps.toList)))) :
  gD {nx:=λ_=>Q (.pu .non),rt:=Q} [w,some (.pu (.str F))]:=by
 have hs:sizeLine=16777216:=by decide
 have hF:F.cps.toList.length=F.length:=dR F;unfold gD;rw[aC];walk_at "u";cases e:F.cps.toList with
 | nil=>
  have e0:F=("":Str):=by
   obtain⟨c⟩:=F;have:c= #[]:=by simpa using e
   rw[this];rfl
  rw[if_pos e0];rw[e]at h;exact h
 | cons c r=>
  have e0:F≠("":Str):=aV8 (by rw[e];intro z;cases z)
  rw[if_neg e0];refine⟨by omega,c,aY (j:=0) rfl,?_⟩
  have e':("0":Str).cps.toList=[48]:=by decide +kernel
  by_cases c0:c=48
  ·subst c0;rw[if_pos (by decide +kernel)]
   rw[e]at h;have:xS (48::r)=false:=by simp[xS]
   rw[this]at h;exact h
  ·have e1:(⟨#[c]⟩:Str)≠("0":Str):=aV8 (by
    rw[e'];intro z;cases z;exact c0 rfl)
   rw[if_neg e1];refine⟨by omega,?_⟩
   by_cases l60:60< (F.length:Int)
   ·rw[if_pos (by simpa using l60)]
    have:xS F.cps.toList=false:=by
     unfold xS;rw[decide_eq_false (show ¬F.cps.toList.length<=60 by omega)]
     simp
    rw[this]at h;exact h
   ·rw[if_neg (by simpa using l60)]
    have hn:xS F.cps.toList=a24 F.cps.toList:=by
     unfold xS;rw[e,<-e,decide_eq_true (show F.cps.toList.length<=60 by omega),e]
     simp[c0]
    rw[hn]at h;unfold kO;rw[kN,jT,fE];have es:F.cps.size=F.cps.toList.length:=by rw[length_toList]
    refine jF (t0:=0) F.cps.toList.length (λi=> .str ⟨#[F.cps.toList.getD i 0]⟩) [w,some (.pu (.str F))] ?_ (by omega) (λx l=>[x,some (.ow l)]) none rfl (λ_ _ _=>rfl) (λ_ _=>zero_lt_succ _) (λ_ _ _ q=>q) (λ_ _ _=>rfl) (λi=> .bl (decide (48<=F.cps.toList.getD i 0)&&decide (F.cps.toList.getD i 0<=57))) ?_ (aW3 (by rw[aN2 F.cps.toList λc=>decide (48<=c)&&decide (c<=57)];exact h))
    ·intro Q' q;walk_at "u";rw[es];exact⟨asc,q⟩
    ·intro i l Q' hi q;walk_at "u";rw[aW2];exact q
theorem zB {x:Str}{c:Nat}{r:List Nat}(h:x.cps.toList=c::r)(a:Asc x):Asc ⟨r.toArray⟩:=by
 unfold Asc at a⊢;rw[<-all_toList,h,all_cons,and_eq_true]at a;rw[<-all_toList];exact a.2
theorem uY: ∀ds Q,dU ds Q->iS {nx:=λ_=>Q (.pu .non),rt:=Q} (init ["w","f"] ds):=by
 rintro ds Q ⟨w,rfl,asc,hl,h⟩;have hs:sizeLine=16777216:=by decide
 unfold iS;show(aL _ _:US) _ [some (.pu (.str w)),none];rw[aC];walk_at "u";have e':("0":Str).cps.toList=[48]:=by decide +kernel
 by_cases n0:w=("0":Str)
 ·rw[if_pos n0];rw[n0,e']at h;exact h
 have nw:w.cps.toList≠[48]:=λz=>n0 (by
  obtain⟨c⟩:=w;have z':c.toList=("0":Str).cps.toList:=by rw[e'];exact z
  have:c=("0":Str).cps:=by
   apply Array.ext'
   exact z'
  rw[this])
 rw[if_neg n0];have hN:dM w.cps.toList=xS (gB w.cps.toList):=by
  unfold dM xS;rw[decide_eq_false nw,Bool.false_or]
 rw[hN]at h;unfold kP;rw[aC];walk_at "u";rw[a21];refine⟨trivial,?_⟩;cases e:w.cps.toList with
 | nil=>
  rw[if_neg (by simp)]
  rw[e]at h;exact wV asc hl (by rw[e];exact h)
 | cons c r=>
  by_cases c45:c=45
  ·subst c45;rw[if_pos (by simp),zA e]
   rw[e]at h;refine⟨by omega,wV (zB e asc) ?_ (by
    show Q (.pu (.bl (xS r)))
    exact h)⟩
   show r.toArray.size<=1000000
   have:=dR w;rw[e]at this;simp at this⊢;omega
  ·rw[if_neg (by simp[c45])]
   have:gB (c::r)=c::r:=by
    unfold gB;split
    ·rename_i q;cases q;exact absurd rfl c45
    ·rfl
   rw[e,this]at h;exact wV asc hl (by rw[e];exact h)
def dN (w:List Nat):Option Int:=if dM w=true then some (uX w)else none
theorem a92 {l:List Nat}(h:a24 l=true): ∀c∈l,48<=c/\c<=57:=λc hc=>by
 have:=List.all_eq_true.mp h c hc;rw[and_eq_true,decide_eq_true_eq,decide_eq_true_eq]at this;exact this
theorem aJ1 {w:Str}(h:dM w.cps.toList=true):intText? w=some (uX w.cps.toList)/\w.length<=61:=by
 have hw:=dR w;unfold dM at h;rw[Bool.or_eq_true]at h;rcases h with h|h
 ·have e:=of_decide_eq_true h;rw[e]at hw;simp at hw;refine⟨?_,by omega⟩
  have r:=intText_digits (x:=w) (by rw[e];intro c hc;simp at hc;omega) (by rw[e];simp) (by omega)
  rw[r,e];rfl
 ·simp only[and_eq_true,decide_eq_true_eq]at h;obtain⟨⟨⟨h1,h2⟩,h3⟩,h4⟩:=h;have fa:=a92 h4;cases e:w.cps.toList with
  | nil=>rw[e]at h1;exact absurd rfl h1
  | cons c r=>
   rw[e]at h1 h2 h3 h4 fa hw
   by_cases c45:c=45
   ·subst c45;have es:gB (45::r)=r:=rfl;rw[es]at h1 h2 h3 fa;simp at hw;refine⟨?_,by omega⟩
    exact intText_neg (x:=w) e fa h1 (by omega)
   ·have es:gB (c::r)=c::r:=by
     unfold gB;split
     ·rename_i q;cases q;exact absurd rfl c45
     ·rfl
    have ev:uX (c::r)=(PySem.NumText.digitsVal (c::r):Int):=by
     unfold uX;split
     ·rename_i q;cases q;exact absurd rfl c45
     ·rfl
    rw[es]at h1 h2 h3 fa;simp at hw h3;refine⟨?_,by omega⟩
    have r':=intText_digits (x:=w) (by rw[e];exact fa) (by rw[e];exact h1) (by omega)
    rw[r',e,ev]
def xT:Option Int->D
 | some n=> .int n
 | none=> .non
theorem aN3 {x:Str}{c:Nat}{r:List Nat}(h:x.cps.toList=c::r):Txt.slice x none (some 1)=⟨#[c]⟩:=by
 have hl:=dR x;rw[h]at hl;have e:Txt.slice x none (some 1)=PySem.StrLaws.sliceText x (some ((0:Nat):Int)) (some ((1:Nat):Int)):=by
  show PySem.StrLaws.sliceText x none (some 1)=_
  unfold PySem.StrLaws.sliceText;rw[PySem.StrLaws.sliceIdx_none_lo];rfl
 rw[e,PySem.StrLaws.sliceText_nat x (by decide) (by simp at hl;omega),h]
 rfl
theorem aW4 {c:Nat}(h:48<=c/\c<=57):(Txt.find ("0123456789":Str) ⟨#[c]⟩:Int)=((c-48:Nat):Int):=by
 obtain⟨h1,h2⟩:=h;have:c=48\/c=49\/c=50\/c=51\/c=52\/c=53\/c=54\/c=55\/c=56\/c=57:=by omega
 rcases this with rfl|rfl|rfl|rfl|rfl|rfl|rfl|rfl|rfl|rfl<;>decide +kernel
theorem b66 (l:List Nat)(c:Nat):PySem.NumText.digitsVal (l++[c])=PySem.NumText.digitsVal l*10+(c-48):=by
 unfold PySem.NumText.digitsVal;rw[List.foldl_append];rfl
theorem aW5: ∀(l:List Nat) (a:Nat),(∀c∈l,48<=c/\c<=57)->l.foldl (λacc c=>acc*10+(c-48)) a< (a+1)*10^l.length
 | [],a,_=>by simp
 | c::l,a,h=>by
  have h1:=aW5 l (a*10+(c-48)) λd hd=>h d (mem_cons_of_mem _ hd)
  have h2:=h c (mem_cons_self ..);have h3:(a*10+(c-48)+1)*10^l.length<=((a+1)*10)*10^l.length:=mul_le_mul_right _ (by omega)
  rw[foldl_cons,length_cons,Nat.pow_succ,mul_comm (10^l.length) 10,<-Nat.mul_assoc];omega
theorem dv_lt (l:List Nat)(h: ∀c∈l,48<=c/\c<=57):PySem.NumText.digitsVal l<10^l.length:=by
 have:=aW5 l 0 h;rw[Nat.zero_add,Nat.one_mul]at this;exact this
def gE:Φ:=λds Q=> ∃w:Str,ds=[.str w]/\Asc w/\w.length<=1000000/\Q (.pu (xT (dN w.cps.toList)))
def mB:US:=(aX 2 (uOp eR (uOp j6 (aA 2) (uC (.int 10))) (lZ aI1 (uC (.str "0123456789")) (a6 (aA 3) aE))))
def gX:US:=(aL (cH (bB (uOp vM (aA 3) (uC (.str "0123456789")))) (cG (uC .non)) bF) mB)
def pG:US:=(oR 2)
def pH:US:=(aL (cH (bB (uOp (dB false) (sA (aA 0) dH (fA (uC (.int 1)))) (uC (.str "-")))) (aX 2 (aR5 (aA 2))) bF) pG)
def pI:US:=(aL (uP (aH5 (aA 1)) (cA 3) gX) pH)
def gF:US:=(aL (aX 2 (uC (.int 0))) pI)
def jU:US:=(aL (cH (uOr (bB (uOp (dB false) (aK yP (a6 (aA 1) aE)) (uC (.int 0)))) (uOr (bB (uOp (rJ λi j=>decide (j<i)) (aK yP (a6 (aA 1) aE)) (uC (.int 60)))) (xL (bB (uOp (dB false) (uOp aD0 (aA 1) (uC (.int 0))) (uC (.str "0")))) (bB (uOp (dB true) (aA 0) (uC (.str "0"))))))) (cG (uC .non)) bF) gF)
def pJ:US:=(aL (cH (bB (uOp (dB false) (sA (aA 0) dH (fA (uC (.int 1)))) (uC (.str "-")))) (aX 1 (sA (aA 0) (fA (uC (.int 1))) dH)) bF) jU)
def nE:US:=(aL (aX 1 (aA 0)) pJ)
theorem xU: ∀ds Q,gE ds Q->ds.length=1:=by rintro ds Q ⟨ns,rfl,_⟩;rfl
theorem kQ {w:Str}:(Txt.slice w none (some 1)=("-":Str))↔ ∃r,w.cps.toList=45::r:=by
 have e':(("-":String):Str)=⟨#[45]⟩:=by decide +kernel
 rw[e'];cases e:w.cps.toList with
 | nil=>
  have:w=⟨#[]⟩:=by
   obtain⟨c⟩:=w;have:c= #[]:=by simpa using e
   rw[this]
  rw[this];constructor
  ·intro z;exact absurd z (by decide +kernel)
  ·rintro⟨r,z⟩;cases z
 | cons c r=>
  rw[aN3 e];constructor
  ·intro z;injection z with z;have:c=45:=by simpa using z
   exact⟨r,by rw[this]⟩
  ·rintro⟨r',z⟩;cases z;rfl
theorem rd_no4 {Q:B->Prop}{w F:Str}{neg:Bool}{s3:Option B}(asc:Asc F)(hF:F.cps.toList.length<=60)(hw:w.length<=1000000)(hn:(Txt.slice w none (some 1)=("-":Str))↔neg=true)
  (h:a24 F.cps.toList=true->Q (.pu (.int (if neg=true then -(PySem.NumText.digitsVal F.cps.toList:Int)else(PySem.NumText.digitsVal F.cps.toList:Int))))) (h0:a24 F.cps.toList=false->Q (.pu .non)) :
  gF {nx:=λ_=>Q (.pu .non),rt:=Q} [some (.pu (.str w)),some (.pu (.str F)),none,s3]:=by
 have hs:sizeLine=16777216:=by decide
 unfold gF;rw[aC];walk_at "u";unfold pI;rw[aC];have es:F.cps.size=F.cps.toList.length:=by rw[length_toList]
 refine dL F.cps.toList.length (λi=> .str ⟨#[F.cps.toList.getD i 0]⟩) [some (.pu (.str w)),some (.pu (.str F)),some (.pu (.int 0)),s3] ?_
  (λi ρ=> ∃x3,ρ=[some (.pu (.str w)),some (.pu (.str F)),some (.pu (.int (PySem.NumText.digitsVal (F.cps.toList.take i):Int))),x3]/\ ∀c∈F.cps.toList.take i,48<=c/\c<=57) ⟨s3,rfl,by simp⟩ ?_ ?_
 ·intro Q' q;walk_at "u";rw[es];exact⟨asc,q⟩
 ·rintro i ρ hi ⟨x3,rfl,hd⟩;refine⟨by simp,?_⟩
  have eg:F.cps.toList.getD i 0=F.cps.toList[i]:=by rw[getD_eq_getElem?_getD,getElem?_eq_getElem hi];rfl
  have hm:F.cps.toList[i]∈F.cps.toList:=getElem_mem hi;rw[eg];generalize hc:F.cps.toList[i]=c at hm;show gX _ [some (.pu (.str w)),some (.pu (.str F)),some (.pu (.int (PySem.NumText.digitsVal (F.cps.toList.take i):Int))),some (.pu (.str ⟨#[c]⟩))];unfold gX;rw[aC];walk_at "u";rw[aW2]
  by_cases fc:48<=c/\c<=57
  ·have hb:(decide (48<=c)&&decide (c<=57))=true:=by rw[decide_eq_true fc.1,decide_eq_true fc.2];rfl
   rw[hb];rw[if_neg (by decide)]
   unfold mB;walk_at "u";rw[aW4 fc];have lt:=dv_lt _ hd;have le:(F.cps.toList.take i).length<=60:=by rw[length_take];omega
   have lt2:PySem.NumText.digitsVal (F.cps.toList.take i)<10^60:=lt_of_lt_of_le lt (Nat.pow_le_pow_right (by decide) le)
   refine⟨.inr ⟨Sm.pow (k:=200) ?_ (by decide),Sm.pow (k:=200) (by decide +kernel) (by decide)⟩,?_⟩
   ·rw[Int.natAbs_natCast];exact le_trans (le_of_lt lt2) (by decide +kernel)
   have et:F.cps.toList.take (i+1)=F.cps.toList.take i++[c]:=by rw[take_succ,getElem?_eq_getElem hi,hc];rfl
   refine⟨trivial,some (.pu (.str ⟨#[c]⟩)),?_,?_⟩
   ·rw[et,b66]
    norm_cast
   ·rw[et];intro d hd';rcases List.mem_append.mp hd' with z|z
    ·exact hd d z
    ·rw[List.mem_singleton.mp z];exact fc
  ·have hb:(decide (48<=c)&&decide (c<=57))=false:=by
    rw[Bool.and_eq_false_iff]
    by_cases z:48<=c
    ·exact .inr (decide_eq_false (by omega))
    ·exact .inl (decide_eq_false z)
   rw[hb];rw[if_pos (by decide)]
   refine h0 ?_
   cases e:a24 F.cps.toList with
   | false=>rfl
   | true=>exact absurd (a92 e c hm) fc
 ·rintro ρ ⟨x3,rfl,hd⟩;rw[take_of_length_le (le_refl _)]at hd⊢;have hf:a24 F.cps.toList=true:=by
   unfold a24;rw[all_eq_true];intro c hc;have:=hd c hc;rw[decide_eq_true this.1,decide_eq_true this.2];rfl
  have h:=h hf;dsimp only;unfold pH;rw[aC];walk_at "u";refine⟨by omega,?_⟩
  unfold pG
  by_cases ng:neg=true
  ·rw[if_pos (hn.mpr ng)];rw[if_pos ng]at h;walk_at "u";exact h
  ·rw[if_neg (λz=>ng (hn.mp z))]
   rw[if_neg ng]at h;walk_at "u";exact h
theorem a25: ∀ds Q,gE ds Q->nE {nx:=λ_=>Q (.pu .non),rt:=Q} (init ["w","f","t","s"] ds):=by
 rintro ds Q ⟨w,rfl,asc,hl,h⟩;have hs:sizeLine=16777216:=by decide
 have e0:("0":Str).cps.toList=[48]:=by decide +kernel
 have core: ∀(F:Str) (neg:Bool),F.cps.toList=gB w.cps.toList->Asc F->F.length<=1000000->((Txt.slice w none (some 1)=("-":Str))↔neg=true)->uX w.cps.toList=(if neg=true then -(PySem.NumText.digitsVal F.cps.toList:Int)else(PySem.NumText.digitsVal F.cps.toList:Int))->
   jU {nx:=λ_=>Q (.pu .non),rt:=Q} [some (.pu (.str w)),some (.pu (.str F)),none,none]:=by
  intro F neg eF aF lF hn ev;have hF:=dR F;unfold jU;rw[aC];walk_at "u";refine⟨by omega,?_⟩
  by_cases c1:(F.length:Int)=0
  ·rw[if_pos c1];have e1:gB w.cps.toList=[]:=by rw[<-eF];exact List.length_eq_zero_iff.mp (by omega)
   have:dN w.cps.toList=none:=by
    unfold dN dM;rw[e1];rw[decide_eq_false (show ¬w.cps.toList=[48]from λz=>by rw[z]at e1;cases e1)]
    rfl
   rw[this]at h;exact h
  rw[if_neg c1];refine⟨by omega,?_⟩
  by_cases c2:60< (F.length:Int)
  ·rw[if_pos (by simpa using c2)]
   have:dN w.cps.toList=none:=by
    unfold dN dM;rw[<-eF,decide_eq_false (show ¬F.cps.toList.length<=60 by omega)]
    rw[decide_eq_false (show ¬w.cps.toList=[48]from λz=>by
     rw[z]at eF;have:F.cps.toList=[48]:=eF;rw[this]at hF;simp at hF;omega)]
    simp
   rw[this]at h;exact h
  rw[if_neg (by simpa using c2)]
  obtain⟨c,r,ec⟩: ∃c r,F.cps.toList=c::r:=by
   cases e:F.cps.toList with
   | nil=>rw[e]at hF;simp at hF;omega
   | cons c r=>exact⟨c,r,rfl⟩
  refine⟨by omega,c,by rw[ec];exact aY (j:=0) rfl,?_⟩
  have s0:((⟨#[c]⟩:Str)=("0":Str))↔c=48:=by
   constructor
   ·intro z;have:=congrArg (λx:Str=>x.cps.toList) z
    rw[e0]at this
    simpa using this
   ·rintro rfl
    decide +kernel
  have w0:(w=("0":Str))↔w.cps.toList=[48]:=by
   constructor
   ·intro z;rw[z];exact e0
   ·intro z;obtain⟨a⟩:=w;have z':a.toList=("0":Str).cps.toList:=by rw[e0];exact z
    have:a=("0":Str).cps:=by
     apply Array.ext'
     exact z'
    rw[this]
  have l60:F.cps.toList.length<=60:=by omega
  have fin:(w.cps.toList=[48]\/c≠48)->gF {nx:=λ_=>Q (.pu .non),rt:=Q} [some (.pu (.str w)),some (.pu (.str F)),none,none]:=by
   intro hc;refine rd_no4 aF l60 hl hn (λhf=> ?_) (λhf=> ?_)
   ·have:dN w.cps.toList=some (uX w.cps.toList):=by
     unfold dN;rw[if_pos];unfold dM;rcases hc with hc|hc
     ·rw[decide_eq_true hc];rfl
     ·rw[<-eF,hf,decide_eq_true l60,decide_eq_true (show F.cps.toList≠[]by rw[ec];simp),decide_eq_true (show F.cps.toList.head?≠some 48 by rw[ec];simpa using hc)]
      simp
    rw[this]at h;rw[<-ev];exact h
   ·have:dN w.cps.toList=none:=by
     unfold dN;rw[if_neg];unfold dM;rw[<-eF,hf,decide_eq_false (show ¬w.cps.toList=[48]from λz=>by
      rw[z]at eF;have:F.cps.toList=[48]:=eF;rw[this]at hf;exact absurd hf (by decide))]
     simp
    rw[this]at h;exact h
  by_cases c0:c=48
  ·rw[if_pos (s0.mpr c0)]
   by_cases hw:w.cps.toList=[48]
   ·rw[if_neg (λz=>z (w0.mpr hw))]
    exact fin (.inl hw)
   ·rw[if_pos (λz=>hw (w0.mp z))]
    have:dN w.cps.toList=none:=by
     unfold dN dM;rw[<-eF,decide_eq_false hw,decide_eq_false (show ¬F.cps.toList.head?≠some 48 by rw[ec,c0];simp)]
     simp
    rw[this]at h;exact h
  ·rw[if_neg (λz=>c0 (s0.mp z))]
   exact fin (.inr c0)
 unfold nE;show(aL _ _:US) _ [some (.pu (.str w)),none,none,none];rw[aC];walk_at "u";unfold pJ;rw[aC];walk_at "u";refine⟨by omega,?_⟩
 by_cases m: ∃r,w.cps.toList=45::r
 ·rw[if_pos (kQ.mpr m)];obtain⟨r,e⟩:=m;refine⟨by omega,?_⟩
  rw[zA e];refine core ⟨r.toArray⟩ true (by rw[e];rfl) (zB e asc) ?_ ⟨λ_=>rfl,λ_=>kQ.mpr ⟨r,e⟩⟩ (by rw[e,if_pos rfl];rfl)
  show r.toArray.size<=1000000
  have:=dR w;rw[e]at this;simp at this⊢;omega
 ·rw[if_neg (λz=>m (kQ.mp z))]
  have es:gB w.cps.toList=w.cps.toList:=by
   unfold gB;split
   ·rename_i r q;exact absurd ⟨r,q⟩ m
   ·rfl
  have ev:uX w.cps.toList=(PySem.NumText.digitsVal w.cps.toList:Int):=by
   unfold uX;split
   ·rename_i r q;exact absurd ⟨r,q⟩ m
   ·rfl
  exact core w false es.symm asc hl ⟨λz=>absurd (kQ.mp z) m,λz=>by cases z⟩ (by rw[if_neg (by decide)];exact ev)
theorem aN4 {x y p:Str}(h:p∈Txt.split x y):p=x\/ ∃i j,p=Builtin.Str.strSub x i j:=by
 unfold Txt.split at h;split at h
 ·exact .inl (List.mem_singleton.mp h)
 ·split at h
  ·exact .inl (List.mem_singleton.mp h)
  ·unfold Builtin.Str.partsBetween at h;obtain⟨⟨i,j⟩,_,rfl⟩:=List.mem_map.mp h;exact .inr ⟨i,j,rfl⟩
theorem eJ {x y p:Str}(a:Asc x)(h:p∈Txt.split x y):Asc p/\p.length<=x.length:=by
 rcases aN4 h with rfl| ⟨i,j,rfl⟩
 ·exact⟨a,le_refl _⟩
 ·unfold Builtin.Str.strSub;refine⟨?_,?_⟩
  ·unfold Asc at a⊢;rw[<-all_toList,all_eq_true]at a⊢;intro c hc;refine a c ?_;have:c∈(x.cps.toList.drop i).take (j-i):=by simpa using hc
   exact mem_of_mem_drop (List.mem_of_mem_take this)
  ·show(x.cps.extract i j).size<=x.cps.size
   rw[Array.size_extract];omega
theorem eU (x y:Str):(Txt.split x y).length<=x.length+2:=by
 unfold Txt.split;split
 ·simp
 ·split
  ·simp
  ·have e1:=StrLaws.occ_length_le x y 0 x.length (x.length+1);rw[length_partsBetween];omega
def cE {α:Type}:List (Option α)->Option (List α)
 | []=>some []
 | some a::r=>(cE r).map (a::·)
 | none::_=>none
def fL (t:Str):Option (List Int):=cE ((Txt.split t " ").map λw=>dN w.cps.toList)
theorem dE {α:Type}: ∀{l:List (Option α)},cE l=none↔none∈l
 | []=>by simp[cE]
 | some a::r=>by
  show(cE r).map (a::·)=none↔_
  rw[Option.map_eq_none_iff,dE];simp
 | none::r=>by simp[cE]
theorem dF {α:Type}: ∀{l:List (Option α)} {xs:List α},cE l=some xs->l=xs.map some
 | [],xs,h=>by cases h;rfl
 | some a::r,xs,h=>by
  have h':(cE r).map (a::·)=some xs:=h;rw[Option.map_eq_some_iff]at h';obtain⟨ys,e,rfl⟩:=h';rw[dF e];rfl
 | none::r,xs,h=>by cases h
def mC:Φ:=λds Q=> ∃t:Str,ds=[.str t]/\Asc t/\t.length<=500000/\Q (.pu (match fL t with|some r=>eG r|none=> .non))
def uB:US:=(cG (aK iH (a6 (aA 1) aE)))
def uD:US:=(aL (cH (bB (aK aL6 (a6 (cQ [] [none,none] 1 (fS (aA 1)) (cA 0) (λρ Q=>Q true ρ) (rZ false (aA 0))) aE))) (cG (uC .non)) bF) uB)
def tN:US:=(aL (aX 1 (cQ [] [none,none] 1 (fS (lZ iQ (aA 0) (a6 (uC (.str " ")) aE))) (cA 0) (λρ Q=>Q true ρ) (aK gE (a6 (aA 0) aE)))) uD)
theorem aE8: ∀ds Q,mC ds Q->ds.length=1:=by rintro ds Q ⟨ns,rfl,_⟩;rfl
theorem a93 {α:Type}{L:List α}{b:α->Bool}{Q:B->Prop}(h:Q (.pu (.bl (L.any b)))):aL6 [.lst (L.map λa=>D.bl (b a))] Q:=by
 show(match fJ (L.map λa=>D.bl (b a))with
  | some bs=>Q (.pu (.bl (bs.any id)))
  | none=>False)
 rw[qI];dsimp only;rw[any_map];exact h
theorem aN5: ∀ds Q,mC ds Q->tN {nx:=λ_=>Q (.pu .non),rt:=Q} (init ["t","r"] ds):=by
 rintro ds Q ⟨t,rfl,asc,hl,h⟩;have hs:sizeLine=16777216:=by decide
 have cnt:=eU t " ";have sub: ∀w∈Txt.split t " ",Asc w/\w.length<=t.length:=λw hw=>eJ asc hw
 unfold fL at h;unfold tN;show(aL _ _:US) _ [some (.pu (.str t)),none];rw[aC,sI];obtain⟨L,eL⟩: ∃L,L=Txt.split t " ":=⟨_,rfl⟩;rw[<-eL]at cnt sub h;refine cX L D.str (λw=>xT (dN w.cps.toList)) [some (.pu (.str t)),none] ?_ (by omega) ?_ ?_
 ·intro Q' q;rw[eL]at q;walk_at "u";exact⟨trivial,by decide,by omega,q⟩
 ·intro w hw l Q' q;obtain⟨a,b⟩:=sub w hw;walk_at "u";exact⟨w,rfl,a,by omega,q⟩
 clear eL;dsimp only[l5,List.set];unfold uD;rw[aC,a18,aI6,jT,fE];refine cX L (λw=>xT (dN w.cps.toList)) (λw=> .bl (dN w.cps.toList).isNone) [some (.pu (.str t)),some (.pu (.lst (L.map λw=>xT (dN w.cps.toList))))] ?_ (by omega) ?_ ?_
 ·intro Q' q;walk_at "u";exact q
 ·intro w hw l Q' q;walk_at "u";generalize dN w.cps.toList=o at q⊢;cases o<;>exact q
 refine a93 (L:=L) (b:=λw=>(dN w.cps.toList).isNone) ?_
 cases e:cE (L.map λw=>dN w.cps.toList)with
 | none=>
  rw[e]at h;have m:=dE.mp e;have:L.any (λw=>(dN w.cps.toList).isNone)=true:=by
   rw[List.any_eq_true];obtain⟨w,hw,ew⟩:=List.mem_map.mp m;exact⟨w,hw,by rw[ew];rfl⟩
  rw[this];exact h
 | some r=>
  rw[e]at h;have em:=dF e;have:L.any (λw=>(dN w.cps.toList).isNone)=false:=by
   cases z:L.any (λw=>(dN w.cps.toList).isNone)with
   | false=>rfl
   | true=>
    rw[List.any_eq_true]at z;obtain⟨w,hw,ew⟩:=z;have:dN w.cps.toList∈r.map some:=by rw[<-em];exact List.mem_map.mpr ⟨w,hw,rfl⟩
    obtain⟨x,_,ex⟩:=List.mem_map.mp this;rw[<-ex]at ew;cases ew
  rw[this];unfold uB;walk_at "u";have er:(L.map λw=>xT (dN w.cps.toList))=r.map D.int:=by
   have:=congrArg (List.map xT) em;rw[map_map,map_map]at this;exact this
  rw[er];exact h
def cJ:ΦX:=λds Q Ex=> ∃t:Str,ds=[.str t]/\Asc t/\t.length<=500000/\(match fL t with|some r=>Q (.pu (eG r))|none=>Ex "NoText" [])
def jV:USX:=(λEx=>aL ((λ_=>(aX 1 (lZ iQ (aA 0) (a6 (uC (.str " ")) aE)))) Ex) ((λEx=>aL ((λEx=>cH (uO (bB (aK zX (a6 (cQ [] [none,none] 1 (fS (aA 1)) (cA 0) (λρ Q=>Q true ρ) (aK dU (a6 (aA 0) aE))) aE)))) ((tD "NoText" (a6 (uC (.str "this is no row")) aE)) Ex) ((λ_=>bF) Ex)) Ex) ((λ_=>(cG (aK iH (a6 (cQ [] [none,none] 1 (fS (aA 1)) (cA 0) (λρ Q=>Q true ρ) (aK a68 (a6 (aA 0) aE))) aE)))) Ex)) Ex))
theorem uZ: ∀ds Q Ex,cJ ds Q Ex->ds.length=1:=by rintro ds Q Ex ⟨p,rfl,_⟩;rfl
theorem wW: ∀ds Q Ex,cJ ds Q Ex->jV Ex {nx:=λ_=>Q (.pu .non),rt:=Q} (init ["t","w"] ds):=by
 rintro ds Q Ex ⟨t,rfl,asc,hl,h⟩;have hs:sizeLine=16777216:=by decide
 have cnt:=eU t " ";have sub: ∀w∈Txt.split t " ",Asc w/\w.length<=t.length:=λw hw=>eJ asc hw
 unfold fL at h;unfold jV;show(aL _ _:US) _ [some (.pu (.str t)),none];rw[aC];dsimp only;rw[sI,sJ];walk_at "u";refine⟨trivial,by decide,by omega,?_⟩
 generalize Txt.split t " "=L at cnt sub h⊢;refine cX L D.str (λw=> .bl (dM w.cps.toList)) [some (.pu (.str t)),some (.pu (.lst (L.map .str)))] ?_ (by omega) ?_ ?_
 ·intro Q' q;walk_at "u";exact q
 ·intro w hw l Q' q;obtain⟨a,b⟩:=sub w hw;walk_at "u";exact⟨w,rfl,a,by omega,q⟩
 dsimp only[l5];rw[qI];dsimp only;rw[all_map];cases e:cE (L.map λw=>dN w.cps.toList)with
 | none=>
  rw[e]at h;have m:=dE.mp e;have hf:L.all (id∘λw=>dM w.cps.toList)=false:=by
   cases z:L.all (id∘λw=>dM w.cps.toList)with
   | false=>rfl
   | true=>
    obtain⟨w,hw,ew⟩:=List.mem_map.mp m;have:=List.all_eq_true.mp z w hw;have h2:dM w.cps.toList=true:=this;unfold dN at ew;rw[if_pos h2]at ew;cases ew
  rw[if_pos hf];exact⟨by decide,h⟩
 | some r=>
  rw[e]at h;have em:=dF e;have each: ∀w∈L,dM w.cps.toList=true:=λw hw=>by
   cases z:dM w.cps.toList with
   | true=>rfl
   | false=>
    have:dN w.cps.toList∈r.map some:=by rw[<-em];exact List.mem_map.mpr ⟨w,hw,rfl⟩
    unfold dN at this;rw[if_neg (by rw[z];decide)]at this
    obtain⟨x,_,ex⟩:=List.mem_map.mp this;cases ex
  have ht:L.all (id∘λw=>dM w.cps.toList)=true:=List.all_eq_true.mpr λw hw=>each w hw
  rw[if_neg (by rw[ht];decide)]
  refine cX L D.str (λw=> .int (uX w.cps.toList)) [some (.pu (.str t)),some (.pu (.lst (L.map .str)))] ?_ (by omega) ?_ ?_
  ·intro Q' q;walk_at "u";exact q
  ·intro w hw l Q' q;obtain⟨n1,n2⟩:=aJ1 (each w hw);walk_at "u";exact⟨_,n1,by omega,q⟩
  have er:(L.map λw=>D.int (uX w.cps.toList))=r.map D.int:=by
   have:=congrArg (List.map xT) em;rw[map_map,map_map]at this;refine Eq.trans ?_ this;refine List.map_congr_left λw hw=> ?_
   show _=xT (dN w.cps.toList)
   unfold dN;rw[if_pos (each w hw)];rfl
  rw[er];exact h
def rD:Option (List Int)->D
 | some r=>eG r
 | none=> .non
theorem uE {α:Type}{js:List Nat}{ui:UI}{te:UE}{ρ:Ev}{Q:B->Ev->Prop}(L:List α)(din dout:α->D)(ok:α->Prop)(ρ1:Ev)(hui: ∀Q:Nat->(Nat->D)->Ev->Prop,Q (L.map din).length (λi=>(L.map din).getD i .non) ρ1->ui ρ Q)(hn:L.length<=1000000)
  (hte: ∀a∈L,∀(l:List D) (Q':B->Ev->Prop),(ok a->Q' (.pu (dout a)) [some (.pu (din a)),some (.ow l)])->te [some (.pu (din a)),some (.ow l)] Q') (hq:(∀a∈L,ok a)->Q (.ow (L.map dout)) (l5 ρ1 js)) :
  cQ js [none,none] 1 ui (cA 0) (λρ Q=>Q true ρ) te ρ Q:=by
 refine hui _ ⟨λi ρ'=> ∃x,ρ'=[x,some (.ow ((L.take i).map dout))]/\ ∀a∈L.take i,ok a,⟨none,rfl,by simp⟩,?_,?_⟩
 ·rintro i ρ' hi ⟨x,rfl,ho⟩;rw[length_map]at hi;refine⟨by simp,?_⟩
  dsimp only;rw[if_pos rfl,d3 hi];refine hte L[i] (getElem_mem hi) _ _ λoa=> ?_
  refine⟨?_,some (.pu (din L[i])),?_,?_⟩
  ·rw[length_map,length_take];exact Nat.lt_of_le_of_lt (Nat.min_le_left _ _) (lt_of_lt_of_le hi (le_trans hn (by decide)))
  ·rw[take_succ,getElem?_eq_getElem hi,map_append];rfl
  ·intro a ha;rw[take_succ,getElem?_eq_getElem hi]at ha;rcases List.mem_append.mp ha with z|z
   ·exact ho a z
   ·rw[List.mem_singleton.mp z];exact oa
 ·rintro ρ' ⟨x,rfl,ho⟩;rw[length_map,take_of_length_le (le_refl _)]at ho⊢;exact hq ho
def mD (t:Str):Option (List (List Int)):=(cE ((Txt.split t " / ").map fL)).bind λrows=>if rows.all (λr=>r.length==rows.length)=true then some rows else none
def iM:Φ:=λds Q=> ∃t:Str,ds=[.str t]/\Asc t/\t.length<=500000/\Q (.pu (match mD t with|some r=>nA r|none=> .non))
def qY:US:=(cG (aK iH (a6 (aA 1) aE)))
def qZ:US:=(aL (cH (bB (aK aL6 (a6 (cQ [] [none,some 1,none] 2 (fS (aA 1)) (cA 0) (λρ Q=>Q true ρ) (uOrV (rZ false (aA 0)) (uOp (dB true) (kJ (aQ 0)) (kJ (aQ 1))))) aE))) (cG (uC .non)) bF) qY)
def pK:US:=(aL (aX 1 (cQ [] [none,none] 1 (fS (lZ iQ (aA 0) (a6 (uC (.str " / ")) aE))) (cA 0) (λρ Q=>Q true ρ) (aK mC (a6 (aA 0) aE)))) qZ)
theorem a26: ∀ds Q,iM ds Q->ds.length=1:=by rintro ds Q ⟨ns,rfl,_⟩;rfl
def bL:ΦX:=λds Q Ex=> ∃t:Str,ds=[.str t]/\Asc t/\t.length<=500000/\(match mD t with|some r=>Q (.pu (nA r))|none=>Ex "NoText" [])
def gY:USX:=(λEx=>aL ((λEx=>aX 1 ((λEx=>aK iH (a6 ((λEx=>cQ [] [none,none] 1 (fS (lZ iQ (aA 0) (a6 (uC (.str " / ")) aE))) (cA 0) (λρ Q=>Q true ρ) ((λEx=>n8 cJ (a6 (aA 0) aE) Ex) Ex)) Ex) aE)) Ex)) Ex) ((λEx=>aL ((λEx=>cH (bB (aK aL6 (a6 (cQ [] [none,some 1,none] 2 (fS (aA 1)) (cA 0) (λρ Q=>Q true ρ) (uOp (dB true) (kJ (aQ 0)) (kJ (aQ 1)))) aE))) ((tD "NoText" (a6 (uC (.str "a table has as many places in each row as it has rows")) aE)) Ex) ((λ_=>bF) Ex)) Ex) ((λ_=>(oR 1)) Ex)) Ex))
theorem sL: ∀ds Q Ex,bL ds Q Ex->ds.length=1:=by rintro ds Q Ex ⟨p,rfl,_⟩;rfl
theorem a94 {α β:Type}{P:List α}{f:α->Option β}(h: ∀a∈P,f a≠none): ∃rs,cE (P.map f)=some rs:=by
 cases e:cE (P.map f)with
 | some rs=>exact⟨rs,rfl⟩
 | none=>
  obtain⟨a,ha,z⟩:=List.mem_map.mp (dE.mp e);exact absurd z (h a ha)
theorem a95 {P:List Str}{rows:List (List Int)}(h:cE (P.map fL)=some rows):(P.map λp=>rD (fL p))=rows.map eG:=by
 have:=congrArg (List.map rD) (dF h);rw[map_map,map_map]at this;exact this
theorem tO: ∀ds Q Ex,bL ds Q Ex->gY Ex {nx:=λ_=>Q (.pu .non),rt:=Q} (init ["t","r"] ds):=by
 rintro ds Q Ex ⟨t,rfl,asc,hl,h⟩;have hs:sizeLine=16777216:=by decide
 have cnt:=eU t " / ";have sub: ∀w∈Txt.split t " / ",Asc w/\w.length<=t.length:=λw hw=>eJ asc hw
 unfold mD at h;unfold gY;show(aL _ _:US) _ [some (.pu (.str t)),none];rw[aC];dsimp only;rw[sI,jT,fE];obtain⟨P,eP⟩: ∃P,P=Txt.split t " / ":=⟨_,rfl⟩;rw[<-eP]at cnt sub h;have hEx: ∀p∈P,fL p=none->Ex "NoText" []:=λp hp e=>by
  have:cE (P.map fL)=none:=dE.mpr (List.mem_map.mpr ⟨p,hp,e⟩);rw[this]at h;exact h
 refine uE P D.str (λp=>rD (fL p)) (λp=>fL p≠none) [some (.pu (.str t)),none] ?_ (by omega) ?_ ?_
 ·intro Q' q;rw[eP]at q;walk_at "u";exact⟨trivial,by decide,by omega,q⟩
 ·intro p hp l Q' q;obtain⟨a,b⟩:=sub p hp;walk_at "u";refine⟨p,rfl,a,by omega,?_⟩
  cases e:fL p with
  | none=>exact hEx p hp e
  | some r=>
   have:=q (by rw[e];simp)
   rw[e]at this;exact this
 intro hok;clear eP;obtain⟨rows,er⟩:=a94 hok;rw[er]at h;have em:=a95 er;have lr:rows.length=P.length:=by
  have:=congrArg length em
  simpa using this.symm
 rw[em];dsimp only[l5];walk_at "u";rw[bind_some]at h
 refine jF (t0:=0) (rows.map eG).length (λi=>(rows.map eG).getD i .non) [some (.pu (.str t)),some (.pu (.tup (rows.map eG)))] ?_ (by rw[length_map];omega) (λx l=>[x,some (.pu (.tup (rows.map eG))),some (.ow l)]) none rfl (λ_ _ _=>rfl) (λ_ _=>zero_lt_succ _) (λ_ _ _ q=>q) (λ_ _ _=>rfl) (λi=>(rows.map λr=>D.bl (!(r.length==rows.length))).getD i .non) ?_ ?_
 ·intro Q' q;walk_at "u";exact q
 ·intro i l Q' hi q;rw[length_map]at hi;rw[d3 hi]at q⊢;rw[d3 hi]at q;simp only[eG]at q⊢;walk_at "u";rw[length_map,length_map];have eb:(!decide ((rows[i].length:Int)=(rows.length:Int)))= !(rows[i].length==rows.length):=by
   by_cases z:rows[i].length=rows.length
   ·simp[z]
   ·have: ¬((rows[i].length:Int)=(rows.length:Int)):=by omega
    simp[z,this]
  rw[eb];exact q
 rw[length_map,rP];dsimp only[l5];rw[qI];dsimp only;rw[any_map];cases e:rows.all (λr=>r.length==rows.length)with
 | true=>
  rw[e,if_pos rfl]at h;have:rows.any (id∘λr=> !(r.length==rows.length))=false:=by
   cases z:rows.any (id∘λr=> !(r.length==rows.length))with
   | false=>rfl
   | true=>
    obtain⟨r,hr,q⟩:=List.any_eq_true.mp z;have h1:=List.all_eq_true.mp e r hr;have h2:(!(r.length==rows.length))=true:=q;rw[h1]at h2;cases h2
  rw[this,if_neg (by decide)]
  exact h
 | false=>
  rw[e,if_neg (by decide)]at h
  have:rows.any (id∘λr=> !(r.length==rows.length))=true:=by
   cases z:rows.any (id∘λr=> !(r.length==rows.length))with
   | true=>rfl
   | false=>
    have:rows.all (λr=>r.length==rows.length)=true:=List.all_eq_true.mpr λr hr=>by
     cases q:(r.length==rows.length)with
     | true=>rfl
     | false=>
      have y:rows.any (id∘λr=> !(r.length==rows.length))=true:=List.any_eq_true.mpr ⟨r,hr,by show(!(r.length==rows.length))=true;rw[q];rfl⟩
      rw[z]at y;cases y
    rw[this]at e;cases e
  rw[this,if_pos rfl];exact⟨by decide,h⟩
def aE9 (n:Nat)(o:Option (List Int)):Bool:=match o with
 | some r=> !(r.length==n)
 | none=>true
theorem aJ2 (n:Nat): ∀rows:List (List Int),rows.any (aE9 n∘some)= !(rows.all λr=>r.length==n)
 | []=>rfl
 | r::rs=>by
  rw[List.any_cons,all_cons,aJ2 n rs,Bool.not_and];rfl
theorem a96: ∀ds Q,iM ds Q->pK {nx:=λ_=>Q (.pu .non),rt:=Q} (init ["t","r"] ds):=by
 rintro ds Q ⟨t,rfl,asc,hl,h⟩;have hs:sizeLine=16777216:=by decide
 have cnt:=eU t " / ";have sub: ∀w∈Txt.split t " / ",Asc w/\w.length<=t.length:=λw hw=>eJ asc hw
 unfold mD at h;unfold pK;show(aL _ _:US) _ [some (.pu (.str t)),none];rw[aC,sI];obtain⟨P,eP⟩: ∃P,P=Txt.split t " / ":=⟨_,rfl⟩;rw[<-eP]at cnt sub h;refine cX P D.str (λp=>rD (fL p)) [some (.pu (.str t)),none] ?_ (by omega) ?_ ?_
 ·intro Q' q;rw[eP]at q;walk_at "u";exact⟨trivial,by decide,by omega,q⟩
 ·intro p hp l Q' q;obtain⟨a,b⟩:=sub p hp;walk_at "u";refine⟨p,rfl,a,by omega,?_⟩
  cases e:fL p with
  | none=>rw[e]at q;exact q
  | some r=>rw[e]at q;exact q
 clear eP;dsimp only[l5,List.set];unfold qZ;rw[aC,a18,aI6,jT,fE]
 refine jF (t0:=0) (P.map λp=>rD (fL p)).length (λi=>(P.map λp=>rD (fL p)).getD i .non) [some (.pu (.str t)),some (.pu (.lst (P.map λp=>rD (fL p))))] ?_ (by rw[length_map];omega) (λx l=>[x,some (.pu (.lst (P.map λp=>rD (fL p)))),some (.ow l)]) none rfl (λ_ _ _=>rfl) (λ_ _=>zero_lt_succ _) (λ_ _ _ q=>q) (λ_ _ _=>rfl) (λi=>(P.map λp=>D.bl (aE9 P.length (fL p))).getD i .non) ?_ ?_
 ·intro Q' q;walk_at "u";exact q
 ·intro i l Q' hi q;rw[length_map]at hi;rw[d3 hi]at q⊢;rw[d3 hi]at q;cases e:fL P[i]with
  | none=>
   rw[e]at q;simp only[rD]at q⊢;walk_at "u";exact q
  | some r=>
   rw[e]at q;simp only[rD,eG]at q⊢;walk_at "u";rw[length_map,length_map];have eb:(!decide ((r.length:Int)=(P.length:Int)))= !(r.length==P.length):=by
    by_cases z:r.length=P.length
    ·simp[z]
    ·have: ¬((r.length:Int)=(P.length:Int)):=by omega
     simp[z,this]
   rw[eb];exact q
 rw[length_map,rP];refine a93 (L:=P) (b:=λp=>aE9 P.length (fL p)) ?_
 dsimp only[l5];cases er:cE (P.map fL)with
 | none=>
  rw[er]at h;obtain⟨p,hp,z⟩:=List.mem_map.mp (dE.mp er);have:P.any (λp=>aE9 P.length (fL p))=true:=List.any_eq_true.mpr ⟨p,hp,by rw[z];rfl⟩
  rw[this];exact h
 | some rows=>
  rw[er,bind_some]at h;have em:=a95 er;have es:=dF er;have lr:rows.length=P.length:=by
   have:=congrArg length em
   simpa using this.symm
  have ea:P.any (λp=>aE9 P.length (fL p))= !(rows.all λr=>r.length==rows.length):=by
   have:(P.map fL).any (aE9 P.length)=(rows.map some).any (aE9 P.length):=by rw[es]
   rw[any_map,any_map]at this;refine Eq.trans this ?_;rw[<-lr];exact aJ2 _ rows
  rw[ea];cases e:rows.all (λr=>r.length==rows.length)with
  | true=>
   rw[e,if_pos rfl]at h;unfold qY;walk_at "u";rw[em];exact h
  | false=>
   rw[e,if_neg (by decide)]at h
   exact h
def eK (t:Str):Option gP:=match Txt.split t " ^ " with
 | [a,b]=>(mD a).bind λT=>(dN b.cps.toList).bind λn=>if 1<=n then some (T,n)else none
 | _=>none
def lH (t:Str):Option (List gP):=if t="one" then some []else cE ((Txt.split t " * ").map eK)
def dW:ΦX:=λds Q Ex=> ∃t:Str,ds=[.str t]/\Asc t/\t.length<=500000/\(match eK t with|some r=>Q (.pu (cC r))|none=>Ex "NoText" [])
def iT:USX:=(λEx=>aL ((λ_=>(aX 1 (lZ iQ (aA 0) (a6 (uC (.str " ^ ")) aE)))) Ex) ((λEx=>aL ((λEx=>cH (uOr (bB (uOp (dB true) (kJ (aQ 1)) (uC (.int 2)))) (uOr (uO (bB (aK dU (a6 (uIx (aQ 1) (uC (.int 1))) aE)))) (bB (uOp (rJ λi j=>decide (i<j)) (aK a68 (a6 (uIx (aQ 1) (uC (.int 1))) aE)) (uC (.int 1)))))) ((tD "NoText" (a6 (uC (.str "a part is a table, the sign ^ and a number from 1 on")) aE)) Ex) ((λ_=>bF) Ex)) Ex) ((λEx=>cG ((λEx=>mR (a6 ((λEx=>n8 bL (a6 (uIx (aQ 1) (uC (.int 0))) aE) Ex) Ex) (a6 (aK a68 (a6 (uIx (aQ 1) (uC (.int 1))) aE)) aE))) Ex)) Ex)) Ex))
theorem tP: ∀ds Q Ex,dW ds Q Ex->ds.length=1:=by rintro ds Q Ex ⟨p,rfl,_⟩;rfl
theorem v7: ∀ds Q Ex,dW ds Q Ex->iT Ex {nx:=λ_=>Q (.pu .non),rt:=Q} (init ["t","r"] ds):=by
 rintro ds Q Ex ⟨t,rfl,asc,hl,h⟩;have hs:sizeLine=16777216:=by decide
 have sub: ∀w∈Txt.split t " ^ ",Asc w/\w.length<=t.length:=λw hw=>eJ asc hw
 unfold eK at h;unfold iT;show(aL _ _:US) _ [some (.pu (.str t)),none];rw[aC];dsimp only;rw[sI,sJ];walk_at "u";refine⟨trivial,by decide,by omega,?_⟩
 generalize Txt.split t " ^ "=S at sub h⊢
 match S,sub,h with
 | [],sub,h=>exact⟨by decide,h⟩
 | [a],sub,h=>exact⟨by decide,h⟩
 | a::b::c::r,sub,h=>
  rw[if_pos (by simp;omega)]
  exact⟨by decide,h⟩
 | [a,b],sub,h=>
  have h:match((mD a).bind λT=>(dN b.cps.toList).bind λn=>if 1<=n then some ((T,n):gP)else none)with|some r=>Q (.pu (cC r))|none=>Ex "NoText" []:=h
  obtain⟨a1,a2⟩:=sub a (by simp)
  obtain⟨b1,b2⟩:=sub b (by simp)
  have t0:atI ([a,b].map D.str) 0=some (.str a):=aY (j:=0) rfl;have t1:atI ([a,b].map D.str) 1=some (.str b):=aY (j:=1) rfl;rw[if_neg (by simp)]
  simp only[t0,t1];refine⟨b,rfl,b1,by omega,?_⟩
  dsimp only;cases en:dM b.cps.toList with
  | false=>
   have:dN b.cps.toList=none:=by unfold dN;rw[if_neg (by rw[en];decide)]
   rw[if_pos rfl];refine⟨by decide,?_⟩
   rw[this]at h;cases et:mD a with
   | none=>rw[et]at h;exact h
   | some T=>rw[et]at h;exact h
  | true=>
   have eo:dN b.cps.toList=some (uX b.cps.toList):=by unfold dN;rw[if_pos en]
   obtain⟨n1,n2⟩:=aJ1 en;rw[if_neg (by decide)]
   refine⟨_,n1,by omega,?_⟩
   rw[eo]at h
   by_cases c:uX b.cps.toList<1
   ·rw[if_pos (by simpa using c)]
    refine⟨by decide,?_⟩
    cases et:mD a with
    | none=>rw[et]at h;exact h
    | some T=>
     rw[et,bind_some,bind_some,if_neg (by omega)]at h
     exact h
   ·rw[if_neg (by simpa using c)]
    refine⟨a,rfl,a1,by omega,?_⟩
    cases et:mD a with
    | none=>rw[et]at h;exact h
    | some T=>
     rw[et,bind_some,bind_some,if_pos (by omega)]at h
     exact⟨_,n1,by omega,by decide,h⟩
def bS:ΦX:=λds Q Ex=> ∃t:Str,ds=[.str t]/\Asc t/\t.length<=500000/\(match lH t with|some r=>Q (.ow (r.map cC))|none=>Ex "NoText" [])
def gZ:USX:=(λEx=>aL ((λEx=>cH (bB (uOp (dB false) (aA 0) (uC (.str "one")))) ((λ_=>(cG (iP aE))) Ex) ((λ_=>bF) Ex)) Ex) ((λEx=>cG ((λEx=>cQ [] [none,none] 1 (fS (lZ iQ (aA 0) (a6 (uC (.str " * ")) aE))) (cA 0) (λρ Q=>Q true ρ) ((λEx=>n8 dW (a6 (aA 0) aE) Ex) Ex)) Ex)) Ex))
theorem sM: ∀ds Q Ex,bS ds Q Ex->ds.length=1:=by rintro ds Q Ex ⟨p,rfl,_⟩;rfl
def pD:Option gP->D
 | some r=>cC r
 | none=> .non
theorem aN6 {P:List Str}{rows:List gP}(h:cE (P.map eK)=some rows):(P.map λp=>pD (eK p))=rows.map cC:=by
 have:=congrArg (List.map pD) (dF h);rw[map_map,map_map]at this;exact this
theorem tQ: ∀ds Q Ex,bS ds Q Ex->gZ Ex {nx:=λ_=>Q (.pu .non),rt:=Q} (init ["t"] ds):=by
 rintro ds Q Ex ⟨t,rfl,asc,hl,h⟩;have hs:sizeLine=16777216:=by decide
 have cnt:=eU t " * ";have sub: ∀w∈Txt.split t " * ",Asc w/\w.length<=t.length:=λw hw=>eJ asc hw
 unfold lH at h;unfold gZ;show(aL _ _:US) _ [some (.pu (.str t))];rw[aC];dsimp only;rw[a18];walk_at "u"
 by_cases c:t=("one":Str)
 ·rw[if_pos c]at h⊢;exact⟨by omega,h⟩
 rw[if_neg c]at h⊢;obtain⟨P,eP⟩: ∃P,P=Txt.split t " * ":=⟨_,rfl⟩;rw[<-eP]at cnt sub h;have hEx: ∀p∈P,eK p=none->Ex "NoText" []:=λp hp e=>by
  have:cE (P.map eK)=none:=dE.mpr (List.mem_map.mpr ⟨p,hp,e⟩);rw[this]at h;exact h
 refine uE P D.str (λp=>pD (eK p)) (λp=>eK p≠none) [some (.pu (.str t))] ?_ (by omega) ?_ ?_
 ·intro Q' q;rw[eP]at q;walk_at "u";exact⟨trivial,by decide,by omega,q⟩
 ·intro p hp l Q' q;obtain⟨a,b⟩:=sub p hp;walk_at "u";refine⟨p,rfl,a,by omega,?_⟩
  cases e:eK p with
  | none=>exact hEx p hp e
  | some r=>
   have:=q (by rw[e];simp)
   rw[e]at this;exact this
 intro hok;obtain⟨rows,er⟩:=a94 hok;rw[er]at h;rw[aN6 er];exact h
def kR:Φ:=λds Q=> ∃t:Str,ds=[.str t]/\Asc t/\t.length<=500000/\(match lH t with|some r=>Q (.ow (r.map cC))|none=>Q (.pu .non))
def oG:US:=(zU 1 (mR (a6 (aA 5) (a6 (aA 4) aE))))
def oH:US:=(aL (cH (uOr (bB (rZ false (aA 4))) (uOr (bB (uOp (rJ λi j=>decide (i<j)) (aA 4) (uC (.int 1)))) (bB (rZ false (aA 5))))) (cG (uC .non)) bF) oG)
def oI:US:=(aL (aX 5 (aK iM (a6 (uIx (aQ 3) (uC (.int 0))) aE))) oH)
def oJ:US:=(aL (aX 4 (aK gE (a6 (uIx (aQ 3) (uC (.int 1))) aE))) oI)
def oK:US:=(aL (cH (bB (uOp (dB true) (kJ (aQ 3)) (uC (.int 2)))) (cG (uC .non)) bF) oJ)
def iU:US:=(aL (aX 3 (lZ iQ (aA 2) (a6 (uC (.str " ^ ")) aE))) oK)
def r6:US:=(oR 1)
def r8:US:=(aL (uP (fS (lZ iQ (aA 0) (a6 (uC (.str " * ")) aE))) (cA 2) iU) r6)
def r9:US:=(aL (cH (bB (uOp (dB false) (aA 0) (uC (.str "one")))) (oR 1) bF) r8)
def pL:US:=(aL (aX 1 (iP aE)) r9)
theorem a27: ∀ds Q,kR ds Q->ds.length=1:=by rintro ds Q ⟨ns,rfl,_⟩;rfl
theorem aN7 {p a b:Str}(e:Txt.split p " ^ "=[a,b]):eK p=(mD a).bind λT=>(dN b.cps.toList).bind λn=>if 1<=n then some (T,n)else none:=by
 unfold eK;rw[e]
theorem aN8 {p:Str}(e:(Txt.split p " ^ ").length≠2):eK p=none:=by
 unfold eK;split
 ·rename_i a b z;rw[z]at e;exact absurd rfl e
 ·rfl
theorem a97: ∀ds Q,kR ds Q->pL {nx:=λ_=>Q (.pu .non),rt:=Q} (init ["t","f","p","h","m","b"] ds):=by
 rintro ds Q ⟨t,rfl,asc,hl,h⟩;have hs:sizeLine=16777216:=by decide
 have cnt:=eU t " * ";have sub: ∀w∈Txt.split t " * ",Asc w/\w.length<=t.length:=λw hw=>eJ asc hw
 unfold lH at h;unfold pL;show(aL _ _:US) _ [some (.pu (.str t)),none,none,none,none,none];rw[aC];walk_at "u";refine⟨by omega,?_⟩
 unfold r9;rw[aC];walk_at "u"
 by_cases c:t=("one":Str)
 ·rw[if_pos c]at h⊢;exact h
 rw[if_neg c]at h⊢;unfold r8;rw[aC];obtain⟨P,eP⟩: ∃P,P=Txt.split t " * ":=⟨_,rfl⟩;rw[<-eP]at cnt sub h;refine dL (P.map D.str).length (λi=>(P.map D.str).getD i .non) [some (.pu (.str t)),some (.ow []),none,none,none,none] ?_
  (λi ρ=> ∃(rs:List gP) (x2 x3 x4 x5:Option B),ρ=[some (.pu (.str t)),some (.ow (rs.map cC)),x2,x3,x4,x5]/\(P.take i).map eK=rs.map some) ⟨[],none,none,none,none,rfl,by simp⟩ ?_ ?_
 ·intro Q' q;rw[eP]at q;walk_at "u";exact⟨trivial,by decide,by omega,q⟩
 ·rintro i ρ hi ⟨rs,x2,x3,x4,x5,rfl,hr⟩;rw[length_map]at hi;rw[d3 hi];have hp:=getElem_mem hi;obtain⟨a,b⟩:=sub _ hp;have et:P.take (i+1)=P.take i++[P[i]]:=by rw[take_succ,getElem?_eq_getElem hi];rfl
  have hN:eK P[i]=none->Q (.pu .non):=λe=>by
   have:cE (P.map eK)=none:=dE.mpr (List.mem_map.mpr ⟨_,hp,e⟩);rw[this]at h;exact h
  generalize P[i]=p at a b et hN;refine⟨by simp,?_⟩
  show iU _ [some (.pu (.str t)),some (.ow (rs.map cC)),some (.pu (.str p)),x3,x4,x5]
  have lrs:rs.length<=500002:=by
   have:=congrArg length hr;rw[length_map,length_map,length_take]at this;omega
  unfold iU;rw[aC];walk_at "u";refine⟨trivial,by decide,by omega,?_⟩
  have sub2: ∀w∈Txt.split p " ^ ",Asc w/\w.length<=p.length:=λw hw=>eJ a hw
  have two:= @aN7 p;have non:= @aN8 p;generalize Txt.split p " ^ "=S at sub2 two non⊢;unfold oK;rw[aC];walk_at "u";rw[length_map]
  by_cases l2:S.length=2
  ·rw[if_neg (by omega)]
   obtain⟨u,v,rfl⟩: ∃u v,S=[u,v]:=by
    match S,l2 with
    | [u,v],_=>exact⟨u,v,rfl⟩
   have ep:=two (a:=u) (b:=v) rfl;obtain⟨u1,u2⟩:=sub2 u (by simp)
   obtain⟨v1,v2⟩:=sub2 v (by simp)
   have t0:atI ([u,v].map D.str) 0=some (.str u):=aY (j:=0) rfl;have t1:atI ([u,v].map D.str) 1=some (.str v):=aY (j:=1) rfl;unfold oJ;rw[aC];walk_at "u";simp only[t1];refine⟨v,rfl,v1,by omega,?_⟩
   dsimp only;unfold oI;rw[aC];walk_at "u";simp only[t0];refine⟨u,rfl,u1,by omega,?_⟩
   dsimp only;unfold oH;rw[aC];cases en:dN v.cps.toList with
   | none=>
    have z:eK p=none:=by
     rw[ep,en];cases mD u<;>rfl
    simp only[xT];walk_at "u";exact hN z
   | some n=>
    rw[en]at ep;simp only[xT];walk_at "u"
    by_cases n1:n<1
    ·rw[if_pos (by simpa using n1)]
     refine hN ?_
     rw[ep];cases mD u with
     | none=>rfl
     | some T=>rw[bind_some,bind_some,if_neg (by omega)]
    ·rw[if_neg (by simpa using n1)]
     cases eT:mD u with
     | none=>
      rw[eT]at ep;exact hN ep
     | some T=>
      rw[eT,bind_some,bind_some,if_pos (by omega)]at ep
      dsimp only[nA];unfold oG;walk_at "u";refine⟨by decide,by rw[length_map];omega,rs++[(T,n)],some (.pu (.str p)),some (.ow ([u,v].map .str)),some (.pu (.int n)),some (.pu (.tup (T.map eG))),?_,?_⟩
      ·rw[map_append];rfl
      ·rw[et,map_append,hr,map_append];show _++[eK p]=_;rw[ep];rfl
  ·rw[if_pos (by omega)]
   exact hN (non l2)
 ·rintro ρ ⟨rs,x2,x3,x4,x5,rfl,hr⟩;rw[length_map,take_of_length_le (le_refl _)]at hr;have er:cE (P.map eK)=some rs:=by
   rw[hr];clear hr h
   induction rs with
   | nil=>rfl
   | cons r l ih=>
    show(cE (l.map some)).map (r::·)=_
    rw[ih];rfl
  rw[er]at h;dsimp only;unfold r6;walk_at "u";exact h
def dX (k:Nat)(t:Str):Option D:=match k with
 | 0=>(fL t).map eG
 | 1=>(mD t).map nA
 | _=>(lH t).map λr=> .lst (r.map cC)
def aW6 (o:Option D):D:=match o with
 | some d=> .tup [.int 0,d]
 | none=> .tup [.int 1,.non]
def vO:Φ:=λds Q=> ∃(k:Nat) (t:Str),ds=[.int (k:Int),.str t]/\k<3/\Asc t/\t.length<=500000/\Q (.pu (aW6 (dX k t)))
def a98:US:=(aL (aU3 3 "NoText" (λa _ _=> .adr a) (a84 (bB (uOp (dB false) (aA 0) (uC (.int 0)))) (λEx=>aX 2 (mR (a6 (uC (.int 0)) (a6 (tF cJ (a6 (aA 1) aE) Ex) aE)))) (a84 (bB (uOp (dB false) (aA 0) (uC (.int 1)))) (λEx=>aX 2 (mR (a6 (uC (.int 0)) (a6 (tF bL (a6 (aA 1) aE) Ex) aE)))) (a84 (bB (uOp (dB false) (aA 0) (uC (.int 2)))) (λEx=>aX 2 (mR (a6 (uC (.int 0)) (a6 (tF bS (a6 (aA 1) aE) Ex) aE)))) (λ_=>bF) bF) (cH (bB (uOp (dB false) (aA 0) (uC (.int 2)))) (aX 2 (mR (a6 (uC (.int 0)) (a6 (n8 bS (a6 (aA 1) aE) λ_ _=>False) aE)))) bF)) (aL (cH (bB (uOp (dB false) (aA 0) (uC (.int 1)))) (aX 2 (mR (a6 (uC (.int 0)) (a6 (n8 bL (a6 (aA 1) aE) λ_ _=>False) aE)))) bF) (cH (bB (uOp (dB false) (aA 0) (uC (.int 2)))) (aX 2 (mR (a6 (uC (.int 0)) (a6 (n8 bS (a6 (aA 1) aE) λ_ _=>False) aE)))) bF))) (λx=>(aL (aX 2 (mR (a6 (uC (.int 2)) (a6 (uC .non) aE)))) (aL (cH (xL (bB (a77 x 3 true)) (bB (a77 x 3 true))) (aX 2 (mR (a6 (uC (.int 1)) (a6 (uC .non) aE)))) bF) (aL (cH (bB (a77 x 3 false)) (aX 2 (mR (a6 (uC (.int 2)) (a6 (uC .non) aE)))) bF) (aL (cH (bB (a77 x 3 false)) (aX 2 (mR (a6 (uC (.int 2)) (a6 (uC .non) aE)))) bF) (cH (bB (a77 x 3 false)) (aX 2 (mR (a6 (uC (.int 2)) (a6 (uC .non) aE)))) bF))))))) (oR 2))
def a28:US:=(aL (aX 2 (mR (a6 (uC (.int 0)) (a6 (uC .non) aE)))) a98)
theorem aW7: ∀ds Q,vO ds Q->ds.length=2:=by rintro ds Q ⟨k,t,rfl,_⟩;rfl
theorem b67: ∀ds Q,vO ds Q->a28 {nx:=λ_=>Q (.pu .non),rt:=Q} (init ["w","t","f","e"] ds):=by
 rintro ds Q ⟨k,t,rfl,k3,asc,hl,h⟩;unfold a28;show(aL _ _:US) _ [some (.pu (.int (k:Int))),some (.pu (.str t)),none,none];rw[aC];walk_at "u";refine⟨by decide,?_⟩
 unfold a98;rw[aC];walk_at "u"
 match k,k3,h with
 | 0,_,h=>
  rw[if_pos (by decide)]
  refine⟨t,rfl,asc,hl,?_⟩
  unfold dX at h;cases e:fL t with
  | none=>rw[e]at h;exact⟨rfl,λ_ _=>⟨by decide,trivial,trivial,by decide,trivial,trivial,trivial,h⟩⟩
  | some r=>
   rw[e]at h;refine⟨by decide,?_⟩
   rw[if_neg (by decide),if_neg (by decide)]
   exact h
 | 1,_,h=>
  rw[if_neg (by decide),if_pos (by decide)]
  refine⟨t,rfl,asc,hl,?_⟩
  unfold dX at h;cases e:mD t with
  | none=>rw[e]at h;exact⟨rfl,λ_ _=>⟨by decide,trivial,trivial,by decide,trivial,trivial,trivial,h⟩⟩
  | some r=>
   rw[e]at h;refine⟨by decide,?_⟩
   rw[if_neg (by decide)]
   exact h
 | 2,_,h=>
  rw[if_neg (by decide),if_neg (by decide),if_pos (by decide)]
  refine⟨t,rfl,asc,hl,?_⟩
  unfold dX at h;cases e:lH t with
  | none=>rw[e]at h;exact⟨rfl,λ_ _=>⟨by decide,trivial,trivial,by decide,trivial,trivial,trivial,h⟩⟩
  | some r=>
   rw[e]at h;exact⟨by decide,h⟩
def sN:Φ:=λds Q=> ∃ns:List Int,ds=[eG ns,.int (ns.length:Int)]/\ns.length<=1000000/\Q (.pu (.bl true))
def a99:US:=(cG (aK zX (a6 (cQ [] [none,none] 1 (fS (aA 0)) (cA 0) (λρ Q=>Q true ρ) (aK p7 (a6 (aA 0) aE))) aE)))
def a29:US:=(aL (cH (uOr (uO (bB (aK zV (a6 (aA 0) (a6 (uC (.ty "tuple")) aE))))) (bB (uOp (dB true) (kJ (aQ 0)) (aA 1)))) (cG (uC (.bl false))) bF) a99)
theorem aW8: ∀ds Q,sN ds Q->ds.length=2:=by rintro ds Q ⟨ns,rfl,_⟩;rfl
theorem b68: ∀ds Q,sN ds Q->a29 {nx:=λ_=>Q (.pu .non),rt:=Q} (init ["f","m"] ds):=by
 rintro ds Q ⟨ns,rfl,hl,h⟩;unfold a29;show(aL _ _:US) _ [some (.pu (eG ns)),some (.pu (.int (ns.length:Int)))];rw[aC];simp only[eG];walk_at "u";simp only[isI,length_map,not_true,if_false,false_eq_true,Bool.not_true];unfold a99;rw[kN,jT,fE];refine cX ns D.int (λ_=> .bl true) [some (.pu (.tup (ns.map .int))),some (.pu (.int (ns.length:Int)))] ?_ hl ?_ (yZ h)
 ·intro Q' q;walk_at "u";exact q
 ·intro n hn l Q' q;walk_at "u";exact⟨n,rfl,q⟩
structure aW9 (t:List (List Int))(n:Nat):Prop where
 len:t.length=n
 rows: ∀r∈t,r.length=n
 few:n<=1000000
def gG:Φ:=λds Q=> ∃(t:List (List Int)) (n:Nat),ds=[nA t,.int (n:Int)]/\aW9 t n/\Q (.pu (.bl true))
def rA:US:=(cG (aK zX (a6 (cQ [1] [none,some 1,none] 2 (fS (aA 0)) (cA 0) (λρ Q=>Q true ρ) (aK sN (a6 (aA 0) (a6 (aA 1) aE)))) aE)))
def nF:US:=(aL (cH (uOr (uO (bB (aK zV (a6 (aA 0) (a6 (uC (.ty "tuple")) aE))))) (bB (uOp (dB true) (kJ (aQ 0)) (aA 1)))) (cG (uC (.bl false))) bF) rA)
theorem xV: ∀ds Q,gG ds Q->ds.length=2:=by rintro ds Q ⟨ns,n,rfl,_⟩;rfl
theorem a30: ∀ds Q,gG ds Q->nF {nx:=λ_=>Q (.pu .non),rt:=Q} (init ["f","m"] ds):=by
 rintro ds Q ⟨t,n,rfl,ok,h⟩;have few:=ok.few;unfold nF;show(aL _ _:US) _ [some (.pu (nA t)),some (.pu (.int (n:Int)))];rw[aC];simp only[nA];walk_at "u";simp only[isI,length_map,ok.len,not_true,if_false,false_eq_true,Bool.not_true];unfold rA;rw[kN,jT,fE]
 refine jF (t0:=0) (t.map eG).length (λi=>(t.map eG).getD i .non) [some (.pu (.tup (t.map eG))),some (.pu (.int (n:Int)))] ?_ (by rw[length_map,ok.len];exact few) (λx l=>[x,some (.pu (.int (n:Int))),some (.ow l)]) none rfl (λ_ _ _=>rfl) (λ_ _=>zero_lt_succ _) (λ_ _ _ q=>q) (λ_ _ _=>rfl) (λ_=> .bl true) ?_ (yZ h)
 ·intro Q' q;walk_at "u";exact q
 ·intro i l Q' hi q;rw[length_map]at hi;rw[d3 hi]at q⊢;have hr:=ok.rows _ (getElem_mem hi);walk_at "u";exact⟨_,by rw[hr],by omega,q⟩
def j9:Φ:=λds Q=> ∃ps:List gP,ds=[.lst (ps.map cC),.lst (ps.map cC)]/\(∀p∈ps,aW9 p.1 p.1.length)/\Q (.pu (.bl true))
def mE:US:=(cH (uOr (uO (bB (aK zV (a6 (uIx (aQ 2) (uC (.int 0))) (a6 (uC (.ty "tuple")) aE))))) (uO (bB (aK gG (a6 (uIx (aQ 2) (uC (.int 0))) (a6 (kJ (uV (uIx (aQ 2) (uC (.int 0))))) aE)))))) (cG (uC (.bl false))) bF)
def hG:US:=(aL (cH (uOr (uO (bB (aK zV (a6 (aA 2) (a6 (uC (.ty "tuple")) aE))))) (uOr (bB (uOp (dB true) (kJ (aQ 2)) (uC (.int 2)))) (uO (bB (aK p7 (a6 (uIx (aQ 2) (uC (.int 1))) aE)))))) (cG (uC (.bl false))) bF) mE)
def pM:US:=(cG (uOp (b29 false) (aA 0) (aA 1)))
def pN:US:=(aL (uP (fS (aA 0)) (cA 2) hG) pM)
def nG:US:=(aL (cH (uOr (uO (bB (aK zV (a6 (aA 0) (a6 (uC (.ty "list")) aE))))) (bB (uOp (dB true) (kJ (aQ 0)) (kJ (aQ 1))))) (cG (uC (.bl false))) bF) pN)
theorem xW: ∀ds Q,j9 ds Q->ds.length=2:=by rintro ds Q ⟨ns,rfl,_⟩;rfl
theorem a31: ∀ds Q,j9 ds Q->nG {nx:=λ_=>Q (.pu .non),rt:=Q} (init ["f","d","p"] ds):=by
 rintro ds Q ⟨ps,rfl,ok,h⟩;unfold nG;show(aL _ _:US) _ [some (.pu (.lst (ps.map cC))),some (.pu (.lst (ps.map cC))),none];rw[aC];walk_at "u";simp only[isI,not_true,if_false,false_eq_true,Bool.not_true];unfold pN;rw[aC];refine dL (ps.map cC).length (λi=>(ps.map cC).getD i .non) [some (.pu (.lst (ps.map cC))),some (.pu (.lst (ps.map cC))),none] ?_
  (λi ρ=> ∃x,ρ=[some (.pu (.lst (ps.map cC))),some (.pu (.lst (ps.map cC))),x]) ⟨_,rfl⟩ ?_ ?_
 ·intro Q' q;walk_at "u";exact q
 ·rintro i ρ hi ⟨x,rfl⟩;rw[length_map]at hi;have t:=ok _ (getElem_mem hi);rw[d3 hi];refine⟨by simp,?_⟩
  show hG _ [some (.pu (.lst (ps.map cC))),some (.pu (.lst (ps.map cC))),some (.pu (.tup [nA ps[i].1,.int ps[i].2]))]
  generalize ps[i]=q at *;unfold hG;rw[aC];walk_at "u";simp only[isI,at0,at1,not_true,if_false,false_eq_true,Bool.not_true];rw[if_neg (by decide)]
  refine⟨q.2,rfl,?_⟩
  simp only[Bool.not_true,false_eq_true,if_false];unfold mE;walk_at "u";simp only[at0,nA,isI,kM,not_true,if_false,false_eq_true,Bool.not_true];refine⟨q.1,q.1.length,by rw[length_map];rfl,t,?_⟩
  simp only[Bool.not_true,false_eq_true,if_false];exact⟨_,rfl⟩
 ·rintro ρ ⟨x,rfl⟩;unfold pM;walk_at "u";exact(Pdk.parts ps).same (by decide) h
def gH:Φ:=λds Q=> ∃t:Str,ds=[.str t]/\Asc t/\t.length<=500000/\Q (.pu (.bl true))
def d4:US:=(cH (uO (bB (aA 6))) (cG (uC (.bl false))) bF)
def d5:US:=(aL (cH (xL (bB (aA 6)) (xL (bB (rZ true (aA 5))) (bB (uOp (dB false) (aA 2) (uC (.int 2)))))) (aX 6 (aK j9 (a6 (aA 4) (a6 (aA 5) aE)))) bF) d4)
def d6:US:=(aL (cH (xL (bB (aA 6)) (xL (bB (rZ true (aA 5))) (bB (uOp (dB false) (aA 2) (uC (.int 1)))))) (aX 6 (aK gG (a6 (aA 4) (a6 (kJ (aQ 5)) aE)))) bF) d5)
def d7:US:=(aL (cH (xL (bB (aA 6)) (xL (bB (rZ true (aA 5))) (bB (uOp (dB false) (aA 2) (uC (.int 0)))))) (aX 6 (aK sN (a6 (aA 4) (a6 (kJ (aQ 5)) aE)))) bF) d6)
def hJ:US:=(aL (cH (bB (rZ false (aA 5))) (aX 6 (uOp (dB false) (aA 3) (uC (.int 1)))) (aX 6 (a59 (uOp (dB false) (aA 3) (uC (.int 0))) (uOp (b29 false) (aA 4) (aA 5))))) d7)
def hU:US:=(aL (aX 5 (uIx (aQ 1) (aA 2))) hJ)
def hV:US:=(aL (uAsg (aK vO (a6 (aA 2) (a6 (aA 0) aE))) (aG7 (vZ 3 (vZ 4 aG6)))) hU)
def pO:US:=(cG (uC (.bl true)))
def jW:US:=(aL (uP (qQ (a6 (uC (.int 3)) aE)) (cA 2) hV) pO)
def nI:US:=(aL (aX 1 (iP (a6 (aK mC (a6 (aA 0) aE)) (a6 (aK iM (a6 (aA 0) aE)) (a6 (aK kR (a6 (aA 0) aE)) aE))))) jW)
theorem xX: ∀ds Q,gH ds Q->ds.length=1:=by rintro ds Q ⟨k,rfl,_⟩;rfl
theorem wX {α:Type}{l:List (Option α)}{xs:List α}(h:cE l=some xs):xs.length=l.length:=by
 rw[dF h,length_map]
theorem aX0 {t:Str}{r:List Int}(h:fL t=some r):r.length<=t.length+2:=by
 have:=wX h;rw[length_map]at this;rw[this];exact eU t " "
theorem aJ3 {t:Str}{T:List (List Int)}(h:mD t=some T)(hl:t.length<=500000):aW9 T T.length:=by
 unfold mD at h;cases e:cE ((Txt.split t " / ").map fL)with
 | none=>rw[e]at h;cases h
 | some rows=>
  rw[e,bind_some]at h;split at h
  ·rename_i q
   cases h;have hc:=wX e;rw[length_map]at hc;have:=eU t " / ";refine⟨rfl,λr hr=> ?_,by omega⟩
   have:=List.all_eq_true.mp q r hr
   simpa using this
  ·cases h
theorem aX1 {t:Str}{p:gP}(h:eK t=some p)(a:Asc t)(hl:t.length<=500000):aW9 p.1 p.1.length:=by
 unfold eK at h;split at h
 ·rename_i u v e
  have hu:=eJ (x:=t) (y:=" ^ ") (p:=u) a (by rw[e];simp)
  cases eT:mD u with
  | none=>rw[eT]at h;cases h
  | some T=>
   rw[eT,bind_some]at h;cases en:dN v.cps.toList with
   | none=>rw[en]at h;cases h
   | some n=>
    rw[en,bind_some]at h;split at h
    ·cases h;exact aJ3 eT (by omega)
    ·cases h
 ·cases h
theorem aN9 {t:Str}{ps:List gP}(h:lH t=some ps)(a:Asc t)(hl:t.length<=500000): ∀p∈ps,aW9 p.1 p.1.length:=by
 unfold lH at h;split at h
 ·cases h;intro p hp;cases hp
 ·intro p hp;have es:=dF h;have:some p∈(Txt.split t " * ").map eK:=by rw[es];exact List.mem_map.mpr ⟨p,hp,rfl⟩
  obtain⟨w,hw,ew⟩:=List.mem_map.mp this;obtain⟨w1,w2⟩:=eJ a hw;exact aX1 ew w1 (by omega)
def dk (o:Option D):D:=o.getD .non
theorem a32: ∀ds Q,gH ds Q->nI {nx:=λ_=>Q (.pu .non),rt:=Q} (init ["t","d","k","r","f","u","g"] ds):=by
 rintro ds Q ⟨t,rfl,asc,hl,h⟩;have core:jW {nx:=λ_=>Q (.pu .non),rt:=Q} [some (.pu (.str t)),some (.ow [dk (dX 0 t),dk (dX 1 t),dk (dX 2 t)]),none,none,none,none,none]:=by
  unfold jW;rw[aC];refine dL 3 (λk=> .int (0+(k:Int))) [some (.pu (.str t)),some (.ow [dk (dX 0 t),dk (dX 1 t),dk (dX 2 t)]),none,none,none,none,none] ?_
   (λ_ ρ=> ∃(x2 x3 x4 x5 x6:Option B),ρ=[some (.pu (.str t)),some (.ow [dk (dX 0 t),dk (dX 1 t),dk (dX 2 t)]),x2,x3,x4,x5,x6]) ⟨_,_,_,_,_,rfl⟩ ?_ ?_
  ·intro Q' q;walk_at "u";exact⟨⟨by decide,by decide⟩,q⟩
  ·rintro k ρ hk ⟨x2,x3,x4,x5,x6,rfl⟩;refine⟨by simp,?_⟩
   rw[show(0:Int)+(k:Int)=(k:Int)by omega]
   show hV _ [some (.pu (.str t)),some (.ow [dk (dX 0 t),dk (dX 1 t),dk (dX 2 t)]),some (.pu (.int (k:Int))),x3,x4,x5,x6]
   have ek:atI [dk (dX 0 t),dk (dX 1 t),dk (dX 2 t)] (k:Int)=some (dk (dX k t)):=by
    match k,hk with
    | 0,_=>exact aY (j:=0) rfl
    | 1,_=>exact aY (j:=1) rfl
    | 2,_=>exact aY (j:=2) rfl
   unfold hV;rw[aC];walk_at "u";refine⟨k,t,rfl,hk,asc,hl,?_⟩;cases e:dX k t with
   | none=>
    rw[e]at ek;have ek:atI [dk (dX 0 t),dk (dX 1 t),dk (dX 2 t)] (k:Int)=some .non:=ek;generalize [dk (dX 0 t),dk (dX 1 t),dk (dX 2 t)]=W at ek;dsimp only[aW6];refine⟨by decide,by decide,rfl,?_⟩
    unfold hU;rw[aC];walk_at "u";simp only[ek];unfold hJ;rw[aC];walk_at "u";unfold d7;rw[aC];walk_at "u";simp only[decide_true,if_true];unfold d6;rw[aC];walk_at "u";unfold d5;rw[aC];walk_at "u";unfold d4;walk_at "u";exact⟨_,_,_,_,_,rfl⟩
   | some d=>
    rw[e]at ek;have ek:atI [dk (dX 0 t),dk (dX 1 t),dk (dX 2 t)] (k:Int)=some d:=ek;generalize [dk (dX 0 t),dk (dX 1 t),dk (dX 2 t)]=W at ek;dsimp only[aW6];refine⟨by decide,by decide,rfl,?_⟩
    unfold hU;rw[aC];walk_at "u";simp only[ek];unfold hJ;rw[aC]
    match k,hk,e with
    | 0,_,e=>
     obtain⟨r,er,rfl⟩:=Option.map_eq_some_iff.mp e;have hr:=aX0 er;have same:= @Pdk.same false 1 (eG r);simp only[eG]at same⊢;walk_at "u";refine same (Pdk.row r) (by decide) ?_
     unfold d7;rw[aC];walk_at "u";refine⟨r,by rw[length_map];rfl,by omega,?_⟩
     dsimp only;unfold d6;rw[aC];walk_at "u";unfold d5;rw[aC];walk_at "u";unfold d4;walk_at "u";exact⟨_,_,_,_,_,rfl⟩
    | 1,_,e=>
     obtain⟨r,er,rfl⟩:=Option.map_eq_some_iff.mp e;have hr:=aJ3 er hl;have same:= @Pdk.same false 2 (nA r);simp only[nA]at same⊢;walk_at "u";refine same (Pdk.tab r) (by decide) ?_
     unfold d7;rw[aC];walk_at "u";unfold d6;rw[aC];walk_at "u";refine⟨r,r.length,by rw[length_map];rfl,hr,?_⟩
     dsimp only;unfold d5;rw[aC];walk_at "u";unfold d4;walk_at "u";exact⟨_,_,_,_,_,rfl⟩
    | 2,_,e=>
     obtain⟨r,er,rfl⟩:=Option.map_eq_some_iff.mp e;have hr:=aN9 er asc hl;walk_at "u";refine(Pdk.parts r).same (by decide) ?_
     unfold d7;rw[aC];walk_at "u";unfold d6;rw[aC];walk_at "u";unfold d5;rw[aC];walk_at "u";refine⟨r,rfl,hr,?_⟩;dsimp only;unfold d4;walk_at "u";exact⟨_,_,_,_,_,rfl⟩
  ·rintro ρ ⟨x2,x3,x4,x5,x6,rfl⟩;dsimp only;unfold pO;walk_at "u";exact h
 unfold nI;show(aL _ _:US) _ [some (.pu (.str t)),none,none,none,none,none,none];rw[aC];walk_at "u";refine⟨t,rfl,asc,hl,t,rfl,asc,hl,t,rfl,asc,hl,?_⟩;have big:0+1+1+1<=sizeLine:=by decide
 have e0:(match fL t with|some r=>eG r|none=>D.non)=dk (dX 0 t):=by unfold dX;cases fL t<;>rfl
 have e1:(match mD t with|some r=>nA r|none=>D.non)=dk (dX 1 t):=by unfold dX;cases mD t<;>rfl
 have e2:dk (dX 2 t)=dk ((lH t).map λr=> .lst (r.map cC)):=rfl
 rw[e2]at core;cases e:lH t with
 | none=>
  rw[e]at core;refine⟨big,?_⟩;rw[<-e0,<-e1]at core;exact core
 | some ps=>
  rw[e]at core;refine⟨big,?_⟩;rw[<-e0,<-e1]at core;exact core
def odd:List Str:=[""," ","one","One","one ","none","-","0","-0","00","/","1 / 2","1 0 / 0 1","^","1 ^ 1","1 ^ 0","1 ^ -1","1 0 / 0 1 ^ 2","1_0","1e3","0x1","1 ^ 1 ^ 1","one * one","1 ^ 1 * one","1.0","1,0"]
theorem odd_ok: ∀t∈odd,Asc t/\t.length<=500000:=by
 unfold Asc
 decide +kernel
def jA:Φ:=λds Q=>ds=[]/\Q (.ow (odd.map .str))
def pP:US:=(cG (uOp eR (aA 0) (iP (a6 (uC (.str "1.0")) (a6 (uC (.str "1,0")) aE)))))
def pQ:US:=(aL (aX 0 (uOp eR (aA 0) (iP (a6 (uC (.str "1 ^ 0")) (a6 (uC (.str "1 ^ -1")) (a6 (uC (.str "1 0 / 0 1 ^ 2")) (a6 (uC (.str "1_0")) (a6 (uC (.str "1e3")) (a6 (uC (.str "0x1")) (a6 (uC (.str "1 ^ 1 ^ 1")) (a6 (uC (.str "one * one")) (a6 (uC (.str "1 ^ 1 * one")) aE)))))))))))) pP)
def nJ:US:=(aL (aX 0 (iP (a6 (uC (.str "")) (a6 (uC (.str " ")) (a6 (uC (.str "one")) (a6 (uC (.str "One")) (a6 (uC (.str "one ")) (a6 (uC (.str "none")) (a6 (uC (.str "-")) (a6 (uC (.str "0")) (a6 (uC (.str "-0")) (a6 (uC (.str "00")) (a6 (uC (.str "/")) (a6 (uC (.str "1 / 2")) (a6 (uC (.str "1 0 / 0 1")) (a6 (uC (.str "^")) (a6 (uC (.str "1 ^ 1")) aE))))))))))))))))) pQ)
theorem xY: ∀ds Q,jA ds Q->ds.length=0:=by rintro ds Q ⟨rfl,_⟩;rfl
theorem a33: ∀ds Q,jA ds Q->nJ {nx:=λ_=>Q (.pu .non),rt:=Q} (init ["s"] ds):=by
 rintro ds Q ⟨rfl,h⟩;unfold nJ;show(aL _ _:US) _ [none];rw[aC];walk_at "u";refine⟨by decide,?_⟩
 unfold pQ;rw[aC];walk_at "u";refine⟨by decide,by decide,?_⟩
 unfold pP;walk_at "u";exact⟨by decide,by decide,h⟩
def vP:Φ:=λds Q=> ∃w:List Int,ds=[.lst (w.map .int)]/\Below w [22,4000,22,2,94]/\ ∀s:Str,Asc s->s.length=1->Q (.pu (.str s))
def zC:US:=(cG (uOp aD0 (uOp eB (aA 1) (uC (.str "ABCDEFGHIJKLMNOPQRSTUVWXYZ[\\]^_`abcdefghijklmnopqrstuvwxyz{|}~"))) (uIx (aQ 0) (uC (.int 4)))))
def zD:US:=(aL (aX 1 (uC (.str " !\"#$&'()*+,-./0123456789:;<=>?@"))) zC)
def a34:US:=(aL (cH (bB (uOp (dB false) (uIx (aQ 0) (uC (.int 3))) (uC (.int 0)))) (cG (uOp aD0 (uC (.str " -+0123456789/^*,.eE_a")) (uIx (aQ 0) (uC (.int 2))))) bF) zD)
theorem aX2: ∀ds Q,vP ds Q->ds.length=1:=by rintro ds Q ⟨w,rfl,_⟩;rfl
theorem aJ4 {z:Str}{i:Int}(a:Asc z)(h0:0<=i)(h1:i<z.length): ∃c,atI z.cps.toList i=some c/\Asc ⟨#[c]⟩:=by
 have hl:=dR z;have hi:i.toNat<z.cps.toList.length:=by omega
 refine⟨z.cps.toList[i.toNat],?_,?_⟩
 ·have:=aY (xs:=z.cps.toList) (j:=i.toNat) (getElem?_eq_getElem hi);rw[toNat_of_nonneg h0]at this;exact this
 ·unfold Asc at a⊢;rw[<-all_toList,all_eq_true]at a;have:=a _ (getElem_mem hi)
  simpa using this
theorem qJ {a b:Str}(h1:Asc a)(h2:Asc b):Asc (a++b):=by
 unfold Asc at *;rw[<-all_toList,all_eq_true]at *;intro c hc;rw[Str.cps_append,toList_append]at hc;rcases List.mem_append.mp hc with z|z
 ·exact h1 c z
 ·exact h2 c z
theorem b69: ∀ds Q,vP ds Q->a34 {nx:=λ_=>Q (.pu .non),rt:=Q} (init ["w","l"] ds):=by
 rintro ds Q ⟨w,rfl,hw,h⟩;obtain⟨w0,w1,w2,w3,w4,rfl⟩: ∃w0 w1 w2 w3 w4,w=[w0,w1,w2,w3,w4]:=by
  match w,hw.1 with
  | [w0,w1,w2,w3,w4],_=>exact⟨w0,w1,w2,w3,w4,rfl⟩
 have b2:=hw.2 2 w2 22 rfl rfl;have b4:=hw.2 4 w4 94 rfl rfl;have a2:atI ([w0,w1,w2,w3,w4].map D.int) 2=some (.int w2):=aY (j:=2) rfl;have a3:atI ([w0,w1,w2,w3,w4].map D.int) 3=some (.int w3):=aY (j:=3) rfl;have a4:atI ([w0,w1,w2,w3,w4].map D.int) 4=some (.int w4):=aY (j:=4) rfl;generalize [w0,w1,w2,w3,w4].map D.int=W at a2 a3 a4⊢;unfold a34;show(aL _ _:US) _ [some (.pu (.lst W)),none];rw[aC]
 walk_at "u"
 simp only[a2,a3]
 by_cases c:w3=0
 ·rw[if_pos c];obtain⟨s,e,hs⟩:=aJ4 (z:=" -+0123456789/^*,.eE_a") (i:=w2) (by unfold Asc;decide +kernel) b2.1 (by
   have:(Str.ofString " -+0123456789/^*,.eE_a").length=22:=by decide +kernel
   rw[this];exact b2.2)
  exact⟨by decide +kernel,s,e,h _ hs rfl⟩
 ·rw[if_neg c];unfold zD;rw[aC];walk_at "u";unfold zC;walk_at "u";simp only[a4];obtain⟨s,e,hs⟩:=aJ4 (z:=(" !\"#$&'()*+,-./0123456789:;<=>?@":Str)++("ABCDEFGHIJKLMNOPQRSTUVWXYZ[\\]^_`abcdefghijklmnopqrstuvwxyz{|}~":Str)) (i:=w4) (qJ (by unfold Asc;decide +kernel) (by unfold Asc;decide +kernel)) b4.1 (by
   have:((" !\"#$&'()*+,-./0123456789:;<=>?@":Str)++("ABCDEFGHIJKLMNOPQRSTUVWXYZ[\\]^_`abcdefghijklmnopqrstuvwxyz{|}~":Str)).length=94:=by decide +kernel
   rw[this];exact b4.2)
  exact⟨by decide +kernel,by decide +kernel,s,e,h _ hs rfl⟩
theorem aA0 {x:Str}(a:Asc x)(lo hi:Option Int):Asc (Txt.slice x lo hi)/\(Txt.slice x lo hi).length<=x.length:=by
 show Asc (PySem.StrLaws.sliceText x lo hi)/\(PySem.StrLaws.sliceText x lo hi).length<=x.length
 unfold PySem.StrLaws.sliceText;split
 ·exact⟨a,le_refl _⟩
 ·constructor
  ·unfold Asc at a⊢;rw[<-all_toList,all_eq_true]at a⊢;intro c hc;have hc:c∈(Builtin.Str.strSliceIndices lo hi 1 x.length).filterMap (x.cps[·]?):=by simpa using hc
   obtain⟨i,_,e⟩:=List.mem_filterMap.mp hc;exact a c (by
    have:=Array.mem_of_getElem? e
    simpa using this)
  ·show((Builtin.Str.strSliceIndices lo hi 1 x.length).filterMap (x.cps[·]?)).toArray.size<=x.length
   have h1:=sliceIndices_le lo hi x.length;have h2:=List.length_filterMap_le (x.cps[·]?) (Builtin.Str.strSliceIndices lo hi 1 x.length);simp only[size_toArray];omega
theorem zE {c:Nat}{g:Array Nat}: ∀(ps:List Str) (acc:Array Nat),c∈(ps.foldl (λacc p=>acc++g++p.cps) acc).toList->c∈acc.toList\/c∈g.toList\/ ∃p∈ps,c∈p.cps.toList
 | [],acc,h=> .inl h
 | p::ps,acc,h=>by
  rcases zE ps _ h with z|z| ⟨q,hq,z⟩
  ·rw[toList_append,toList_append]at z;rcases List.mem_append.mp z with z|z
   ·rcases List.mem_append.mp z with z|z
    ·exact .inl z
    ·exact .inr (.inl z)
   ·exact .inr (.inr ⟨p,mem_cons_self ..,z⟩)
  ·exact .inr (.inl z)
  ·exact .inr (.inr ⟨q,mem_cons_of_mem _ hq,z⟩)
theorem wY {g:Str}{ps:List Str}(ag:Asc g)(ap: ∀p∈ps,Asc p):Asc (Builtin.Str.glued g ps):=by
 unfold Asc;rw[<-all_toList,all_eq_true];intro c hc;unfold Builtin.Str.glued at hc;have up: ∀{p:Str},Asc p->c∈p.cps.toList->decide (c<128)=true:=λ{p} a z=>by
  unfold Asc at a;rw[<-all_toList,all_eq_true]at a;exact a c z
 rcases zE _ _ hc with z|z| ⟨p,hp,z⟩
 ·cases ps with
  | nil=>cases z
  | cons p r=>exact up (ap p (mem_cons_self ..)) z
 ·exact up ag z
 ·exact up (ap p (mem_of_mem_drop hp)) z
theorem b70 {x y z:Str}(a:Asc x)(az:Asc z):Asc (Txt.replace x y z)/\(Txt.replace x y z).length<=x.length+(x.length+1)*z.length:=by
 unfold Txt.replace;split
 ·exact⟨a,by omega⟩
 ·constructor
  ·refine wY az λp hp=> ?_
   unfold Builtin.Str.partsBetween at hp;obtain⟨⟨i,j⟩,_,rfl⟩:=List.mem_map.mp hp;unfold Asc at a⊢;rw[<-all_toList,all_eq_true]at a⊢;intro c hc;have:c∈(x.cps.toList.drop i).take (j-i):=by simpa[Builtin.Str.strSub]using hc
   exact a c (mem_of_mem_drop (List.mem_of_mem_take this))
  ·have h1:=StrLaws.occ_length_le x y 0 x.length (x.length+1);have hy:(Builtin.Str.glued y (Builtin.Str.partsBetween x (Builtin.Str.occurrences x y 0 x.length (x.length+1)) y.length)).length=x.length:=by rw[StrLaws.glued_between_self]
   rw[size_glued,length_partsBetween,Nat.add_sub_cancel]at hy;rw[size_glued,length_partsBetween,Nat.add_sub_cancel];have h2:(Builtin.Str.occurrences x y 0 x.length (x.length+1)).length*z.length<=(x.length+1)*z.length:=mul_le_mul_right _ h1;omega
theorem aO0 (x y:Str):((Txt.split x y).map (·.length)).sum<=x.length:=by
 unfold Txt.split;split
 ·simp
 ·split
  ·simp
  ·have hy:(Builtin.Str.glued y (Builtin.Str.partsBetween x (Builtin.Str.occurrences x y 0 x.length (x.length+1)) y.length)).length=x.length:=by rw[StrLaws.glued_between_self]
   rw[size_glued]at hy;omega
theorem rev_ok {x:Str}(a:Asc x)(hl:x.length<=200000):JoinOk " " (Txt.split x " ").reverse=true/\Asc (Txt.join " " (Txt.split x " ").reverse)/\(Txt.join " " (Txt.split x " ").reverse).length<=2*x.length+2:=by
 have hs:=aO0 x " ";have hc:=eU x " ";have h1:(" ":Str).length=1:=by decide +kernel
 have e:((Txt.split x " ").reverse.map (·.length)).sum=((Txt.split x " ").map (·.length)).sum:=by rw[List.map_reverse,List.sum_reverse]
 refine⟨?_,?_,?_⟩
 ·unfold JoinOk Builtin.Str.tooLong;have f: ∀(l:List Str) (n:Nat),l.foldl (λn (s:Str)=>n+s.length+(" ":Str).length) n=n+(l.map (·.length)).sum+l.length:=by
   intro l
   induction l with
   | nil=>intro n;simp
   | cons s l ih=>intro n;rw[foldl_cons,ih,h1,map_cons,List.sum_cons,length_cons];omega
  rw[List.foldl_toArray,f,e,length_reverse];have sz:sizeLine=16777216:=by decide
  rw[decide_eq_false (by omega)]
  rfl
 ·exact wY (by unfold Asc;decide +kernel) λp hp=>(eJ a (List.mem_reverse.mp hp)).1
 ·show(Builtin.Str.glued " " (Txt.split x " ").reverse).length<=_
  rw[size_glued,e,length_reverse,h1];omega
def nK:Φ:=λds Q=> ∃(t:Str) (w:List Int),ds=[.str t,.lst (w.map .int)]/\Asc t/\t.length<=150000/\Below w [22,4000,22,2,94]/\ ∀s:Str,Asc s->s.length<=500000->Q (.pu (.str s))
def nL:US:=(cG (uIx (aQ 4) (uIx (aQ 1) (uC (.int 0)))))
def nM:US:=(aL (aX 4 (uOp eR (aA 4) (iP (a6 (wM "-" "- " (aA 0)) (a6 (uOp eB (sA (aA 0) dH (fA (uOp eR (lZ wN (aA 0) (a6 (uC (.str " ")) aE)) (uC (.int 1))))) (uC (.str "0"))) (a6 (uOp eB (aA 3) (aA 0)) (a6 (uOp eB (aA 0) (aA 3)) aE))))))) nL)
def nN:US:=(aL (aX 4 (uOp eR (aA 4) (iP (a6 (uOp eB (uOp eB (aA 0) (uC (.str " * "))) (aA 0)) (a6 (aA 5) (a6 (wM "/" "^" (aA 0)) (a6 (sA (aA 0) dH (fA (aK b20 (a6 (uC (.int 0)) (a6 (lZ wN (aA 0) (a6 (uC (.str " / ")) aE)) aE))))) aE))))))) nM)
def nO:US:=(aL (aX 5 (lZ wG (uC (.str " ")) (a6 (aS6 (uV (lZ iQ (aA 0) (a6 (uC (.str " ")) aE))) (aR5 (uC (.int 1)))) aE))) nN)
def nP:US:=(aL (aX 4 (uOp eR (aA 4) (iP (a6 (uOp eB (aA 0) (uOp aI2 (uC (.str "0")) (uC (.int 60)))) (a6 (wM " / " "/" (aA 0)) (a6 (wM " ^ " "^" (aA 0)) (a6 (uOp eB (uOp eB (aA 0) (uC (.str " / "))) (aA 0)) aE))))))) nO)
def nQ:US:=(aL (aX 4 (uOp eR (aA 4) (iP (a6 (uOp eB (aA 0) (uC (.str " "))) (a6 (uOp eB (uC (.str " ")) (aA 0)) (a6 (wM " " "  " (aA 0)) (a6 (uOp eB (uC (.str "+")) (aA 0)) (a6 (uOp eB (uC (.str "0")) (aA 0)) (a6 (uOp eB (uC (.str "-")) (aA 0)) aE))))))))) nP)
def sO:US:=(aL (aX 4 (iP (a6 (aA 0) (a6 (uOp eB (uOp eB (sA (aA 0) dH (fA (aA 2))) (aA 3)) (sA (aA 0) (fA (aA 2)) dH)) (a6 (uOp eB (sA (aA 0) dH (fA (aA 2))) (sA (aA 0) (fA (uOp eR (aA 2) (uC (.int 1)))) dH)) (a6 (uOp eB (uOp eB (sA (aA 0) dH (fA (aA 2))) (aA 3)) (sA (aA 0) (fA (uOp eR (aA 2) (uC (.int 1)))) dH)) aE)))))) nQ)
def sP:US:=(aL (aX 3 (aK vP (a6 (aA 1) aE))) sO)
def rQ:US:=(aL (aX 2 (uOp uR (uIx (aQ 1) (uC (.int 1))) (uOp eR (aK yP (a6 (aA 0) aE)) (uC (.int 1))))) sP)
theorem aA1: ∀ds Q,nK ds Q->ds.length=2:=by rintro ds Q ⟨t,w,rfl,_⟩;rfl
def Fit (s:Str):Prop:=Asc s/\s.length<=500000
theorem eD {a b:Str}(h1:Asc a)(h2:Asc b)(h:a.length+b.length<=500000):Fit (a++b):=⟨qJ h1 h2,by rw[strLen_append];exact h⟩
theorem rd_ch8 {Q:B->Prop}{t:Str}{W:List D}{w0:Int}{L:List Str}{x2 x3 x5:Option B}(a0:atI W 0=some (.int w0))(b0:0<=w0/\w0<22)(hL: ∀s∈L,Fit s)(n:L.length=22)(h: ∀s:Str,Asc s->s.length<=500000->Q (.pu (.str s))) :
  nL {nx:=λ_=>Q (.pu .non),rt:=Q} [some (.pu (.str t)),some (.pu (.lst W)),x2,x3,some (.ow (L.map .str)),x5]:=by
 unfold nL;walk_at "u";simp only[a0];have hi:w0.toNat<L.length:=by omega
 have e:atI (L.map D.str) w0=some (.str L[w0.toNat]):=by
  have:=aY (xs:=L.map D.str) (j:=w0.toNat) (v:= .str L[w0.toNat]) (by rw[getElem?_map,getElem?_eq_getElem hi];rfl)
  rw[toNat_of_nonneg b0.1]at this;exact this
 rw[e];obtain⟨f1,f2⟩:=hL _ (getElem_mem hi);exact h _ f1 f2
theorem sQ {L M:List Str}(h1: ∀s∈L,Fit s)(h2: ∀s∈M,Fit s): ∀s∈L++M,Fit s:=λs hs=>(List.mem_append.mp hs).elim (h1 s) (h2 s)
theorem pR {t y z:Str}(a:Asc t)(hl:t.length<=150000)(az:Asc z)(lz:z.length<=2):Fit (Txt.replace t y z):=by
 obtain⟨r1,r2⟩:=b70 (y:=y) a az;have:(t.length+1)*z.length<=(t.length+1)*2:=Nat.mul_le_mul_left _ lz;exact⟨r1,by omega⟩
theorem rd_ch7 {Q:B->Prop}{t sg:Str}{W:List D}{w0:Int}{L:List Str}{x2 x5:Option B}(asc:Asc t)(hl:t.length<=150000)(as:Asc sg)(ls:sg.length=1)(a0:atI W 0=some (.int w0))(b0:0<=w0/\w0<22)(hL: ∀s∈L,Fit s)(n:L.length=18)(h: ∀s:Str,Asc s->s.length<=500000->Q (.pu (.str s))) :
  nM {nx:=λ_=>Q (.pu .non),rt:=Q} [some (.pu (.str t)),some (.pu (.lst W)),x2,some (.pu (.str sg)),some (.ow (L.map .str)),x5]:=by
 have hs:sizeLine=16777216:=by decide
 unfold nM;rw[aC];walk_at "u";obtain⟨q1,q2⟩:=aA0 asc none (some (Txt.rfind t " "+1));have z0:Asc "0":=by unfold Asc;decide +kernel
 have l0:("0":Str).length=1:=by decide +kernel
 refine⟨by omega,trivial,by omega,by omega,by omega,by omega,by omega,by rw[length_map];omega,?_⟩
 have f1:Fit (Txt.replace t "-" "- "):=pR asc hl (by unfold Asc;decide +kernel) (by decide +kernel)
 have f2:Fit (Txt.slice t none (some (Txt.rfind t " "+1))++("0":Str)):=eD q1 z0 (by omega)
 have f3:Fit (sg++t):=eD as asc (by omega)
 have f4:Fit (t++sg):=eD asc as (by omega)
 have:=rd_ch8 (Q:=Q) (t:=t) (x2:=x2) (x3:=some (.pu (.str sg))) (x5:=x5) a0 b0 (sQ hL (M:=[Txt.replace t "-" "- ",Txt.slice t none (some (Txt.rfind t " "+1))++("0":Str),sg++t,t++sg]) (by simp only[forall_mem_cons];exact⟨f1,f2,f3,f4,by simp⟩)) (by simp[n]) h
 rw[map_append]at this;exact this
theorem rd_ch6 {Q:B->Prop}{t sg ab:Str}{W:List D}{w0:Int}{L:List Str}{x2:Option B}(asc:Asc t)(hl:t.length<=150000)(as:Asc sg)(ls:sg.length=1)(fb:Fit ab)(a0:atI W 0=some (.int w0))(b0:0<=w0/\w0<22)(hL: ∀s∈L,Fit s)(n:L.length=14)(h: ∀s:Str,Asc s->s.length<=500000->Q (.pu (.str s))) :
  nN {nx:=λ_=>Q (.pu .non),rt:=Q} [some (.pu (.str t)),some (.pu (.lst W)),x2,some (.pu (.str sg)),some (.ow (L.map .str)),some (.pu (.str ab))]:=by
 have hs:sizeLine=16777216:=by decide
 unfold nN;rw[aC];walk_at "u";have z0:Asc " * ":=by unfold Asc;decide +kernel
 have l0:(" * ":Str).length=3:=by decide +kernel
 have la:(t++(" * ":Str)).length=t.length+3:=by rw[strLen_append,l0]
 refine⟨by omega,by omega,by omega,trivial,by omega,by omega,by rw[length_map];omega,?_⟩
 obtain⟨q1,q2⟩:=aA0 asc none (some (if Txt.rfind t " / ">0 then Txt.rfind t " / " else 0));have f1:Fit (t++(" * ":Str)++t):=eD (qJ asc z0) asc (by omega)
 have f3:Fit (Txt.replace t "/" "^"):=pR asc hl (by unfold Asc;decide +kernel) (by decide +kernel)
 have f4:Fit (Txt.slice t none (some (if Txt.rfind t " / ">0 then Txt.rfind t " / " else 0))):=⟨q1,by omega⟩
 have:=rd_ch7 (Q:=Q) (x2:=x2) (x5:=some (.pu (.str ab))) asc hl as ls a0 b0 (sQ hL (M:=[t++(" * ":Str)++t,ab,Txt.replace t "/" "^",Txt.slice t none (some (if Txt.rfind t " / ">0 then Txt.rfind t " / " else 0))]) (by simp only[forall_mem_cons];exact⟨f1,fb,f3,f4,by simp⟩)) (by simp[n]) h
 rw[map_append]at this;exact this
theorem rd_ch5 {Q:B->Prop}{t sg:Str}{W:List D}{w0:Int}{L:List Str}{x2:Option B}(asc:Asc t)(hl:t.length<=150000)(as:Asc sg)(ls:sg.length=1)(a0:atI W 0=some (.int w0))(b0:0<=w0/\w0<22)(hL: ∀s∈L,Fit s)(n:L.length=14)(h: ∀s:Str,Asc s->s.length<=500000->Q (.pu (.str s))) :
  nO {nx:=λ_=>Q (.pu .non),rt:=Q} [some (.pu (.str t)),some (.pu (.lst W)),x2,some (.pu (.str sg)),some (.ow (L.map .str)),none]:=by
 have hs:sizeLine=16777216:=by decide
 unfold nO;rw[aC];walk_at "u";obtain⟨j1,j2,j3⟩:=rev_ok asc (by omega)
 refine⟨trivial,trivial,by decide,by omega,trivial,(Txt.split t " ").reverse,by rw[List.map_reverse],j1,?_⟩
 exact rd_ch6 asc hl as ls ⟨j2,by omega⟩ a0 b0 hL n h
theorem rd_ch4 {Q:B->Prop}{t sg:Str}{W:List D}{w0:Int}{L:List Str}{x2:Option B}(asc:Asc t)(hl:t.length<=150000)(as:Asc sg)(ls:sg.length=1)(a0:atI W 0=some (.int w0))(b0:0<=w0/\w0<22)(hL: ∀s∈L,Fit s)(n:L.length=10)(h: ∀s:Str,Asc s->s.length<=500000->Q (.pu (.str s))) :
  nP {nx:=λ_=>Q (.pu .non),rt:=Q} [some (.pu (.str t)),some (.pu (.lst W)),x2,some (.pu (.str sg)),some (.ow (L.map .str)),none]:=by
 have hs:sizeLine=16777216:=by decide
 unfold nP;rw[aC];walk_at "u";have z0:Asc " / ":=by unfold Asc;decide +kernel
 have l0:(" / ":Str).length=3:=by decide +kernel
 have la:(t++(" / ":Str)).length=t.length+3:=by rw[strLen_append,l0]
 have zz:Asc ⟨(replicate (toNat 60) (Str.ofString "0").cps).foldl (λx1 x2=>x1++x2) #[]⟩/\(⟨(replicate (toNat 60) (Str.ofString "0").cps).foldl (λx1 x2=>x1++x2) #[]⟩:Str).length=60:=by
  unfold Asc
  decide +kernel
 obtain⟨zz1,zz2⟩:=zz;generalize (⟨(replicate (toNat 60) (Str.ofString "0").cps).foldl (λx1 x2=>x1++x2) #[]⟩:Str)=Z at zz1 zz2⊢
 refine⟨by decide,by decide,by decide +kernel,by decide +kernel,by omega,by omega,by omega,by omega,by omega,by omega,by rw[length_map];omega,?_⟩
 have f1:Fit (t++Z):=eD asc zz1 (by omega)
 have f2:Fit (Txt.replace t " / " "/"):=pR asc hl (by unfold Asc;decide +kernel) (by decide +kernel)
 have f3:Fit (Txt.replace t " ^ " "^"):=pR asc hl (by unfold Asc;decide +kernel) (by decide +kernel)
 have f4:Fit (t++(" / ":Str)++t):=eD (qJ asc z0) asc (by omega)
 have:=rd_ch5 (Q:=Q) (x2:=x2) asc hl as ls a0 b0 (sQ hL (M:=[t++Z,Txt.replace t " / " "/",Txt.replace t " ^ " "^",t++(" / ":Str)++t]) (by simp only[forall_mem_cons];exact⟨f1,f2,f3,f4,by simp⟩)) (by simp[n]) h
 rw[map_append]at this;exact this
theorem rd_ch3 {Q:B->Prop}{t sg:Str}{W:List D}{w0:Int}{L:List Str}{x2:Option B}(asc:Asc t)(hl:t.length<=150000)(as:Asc sg)(ls:sg.length=1)(a0:atI W 0=some (.int w0))(b0:0<=w0/\w0<22)(hL: ∀s∈L,Fit s)(n:L.length=4)(h: ∀s:Str,Asc s->s.length<=500000->Q (.pu (.str s))) :
  nQ {nx:=λ_=>Q (.pu .non),rt:=Q} [some (.pu (.str t)),some (.pu (.lst W)),x2,some (.pu (.str sg)),some (.ow (L.map .str)),none]:=by
 have hs:sizeLine=16777216:=by decide
 unfold nQ;rw[aC];walk_at "u";have zb:Asc " ":=by unfold Asc;decide +kernel
 have zp:Asc "+":=by unfold Asc;decide +kernel
 have zo:Asc "0":=by unfold Asc;decide +kernel
 have zm:Asc "-":=by unfold Asc;decide +kernel
 have lb:(" ":Str).length=1:=by decide +kernel
 have lp:("+":Str).length=1:=by decide +kernel
 have lo:("0":Str).length=1:=by decide +kernel
 have lm:("-":Str).length=1:=by decide +kernel
 refine⟨by omega,by omega,by omega,by omega,by omega,by omega,by omega,by rw[length_map];omega,?_⟩
 have f1:Fit (t++(" ":Str)):=eD asc zb (by omega)
 have f2:Fit ((" ":Str)++t):=eD zb asc (by omega)
 have f3:Fit (Txt.replace t " " "  "):=pR asc hl (by unfold Asc;decide +kernel) (by decide +kernel)
 have f4:Fit (("+":Str)++t):=eD zp asc (by omega)
 have f5:Fit (("0":Str)++t):=eD zo asc (by omega)
 have f6:Fit (("-":Str)++t):=eD zm asc (by omega)
 have:=rd_ch4 (Q:=Q) (x2:=x2) asc hl as ls a0 b0 (sQ hL (M:=[t++(" ":Str),(" ":Str)++t,Txt.replace t " " "  ",("+":Str)++t,("0":Str)++t,("-":Str)++t]) (by simp only[forall_mem_cons];exact⟨f1,f2,f3,f4,f5,f6,by simp⟩)) (by simp[n]) h
 rw[map_append]at this;exact this
theorem aF0: ∀ds Q,nK ds Q->rQ {nx:=λ_=>Q (.pu .non),rt:=Q} (init ["t","w","a","s","m","b"] ds):=by
 rintro ds Q ⟨t,w,rfl,asc,hl,hw,h⟩;have hs:sizeLine=16777216:=by decide
 obtain⟨w0,w1,w2,w3,w4,rfl⟩: ∃w0 w1 w2 w3 w4,w=[w0,w1,w2,w3,w4]:=by
  match w,hw.1 with
  | [w0,w1,w2,w3,w4],_=>exact⟨w0,w1,w2,w3,w4,rfl⟩
 have b0:=hw.2 0 w0 22 rfl rfl;have a0:atI ([w0,w1,w2,w3,w4].map D.int) 0=some (.int w0):=aY (j:=0) rfl;have a1:atI ([w0,w1,w2,w3,w4].map D.int) 1=some (.int w1):=aY (j:=1) rfl;unfold rQ;show(aL _ _:US) _ [some (.pu (.str t)),some (.pu (.lst ([w0,w1,w2,w3,w4].map .int))),none,none,none,none];rw[aC];walk_at "u";simp only[a1];refine⟨by omega,by omega,?_⟩
 unfold sP;rw[aC];walk_at "u";refine⟨_,rfl,hw,λsg as ls=> ?_⟩
 generalize [w0,w1,w2,w3,w4].map D.int=W at a0 a1⊢;generalize w1.fmod ((t.length:Int)+1)=k;unfold sO;rw[aC];walk_at "u";obtain⟨p1,p2⟩:=aA0 asc none (some k);obtain⟨p3,p4⟩:=aA0 asc (some k) none;obtain⟨p5,p6⟩:=aA0 asc (some (k+1)) none;have la:(Txt.slice t none (some k)++sg).length=(Txt.slice t none (some k)).length+1:=by rw[strLen_append,ls]
 refine⟨by omega,by omega,by omega,by omega,by omega,by omega,by omega,by omega,by omega,by omega,by omega,by omega,?_⟩
 have f1:Fit t:=⟨asc,by omega⟩
 have f2:Fit (Txt.slice t none (some k)++sg++Txt.slice t (some k) none):=eD (qJ p1 as) p3 (by omega)
 have f3:Fit (Txt.slice t none (some k)++Txt.slice t (some (k+1)) none):=eD p1 p5 (by omega)
 have f4:Fit (Txt.slice t none (some k)++sg++Txt.slice t (some (k+1)) none):=eD (qJ p1 as) p5 (by omega)
 exact rd_ch3 (L:=[t,Txt.slice t none (some k)++sg++Txt.slice t (some k) none,Txt.slice t none (some k)++Txt.slice t (some (k+1)) none,Txt.slice t none (some k)++sg++Txt.slice t (some (k+1)) none]) asc hl as ls a0 b0 (by simp only[forall_mem_cons];exact⟨f1,f2,f3,f4,by simp⟩) rfl h
theorem b71 {ns:List Int}(h:u7 ns):Asc (uU ns)/\(uU ns).length<=6200:=by
 refine⟨?_,h.len⟩
 unfold Asc;rw[<-all_toList,all_eq_true];intro c hc;have:=h.signs c hc;exact decide_eq_true (by omega)
theorem b72 {t:List (List Int)}(h:sK t):Asc (a19 t)/\(a19 t).length<=124060:=by
 refine⟨?_,h.len⟩
 unfold Asc;rw[<-all_toList,all_eq_true];intro c hc;have:=h.signs c hc;exact decide_eq_true (by omega)
def aA2:US:=(cG (a59 (aK gH (a6 (aA 2) aE)) (aK zX (a6 (cQ [] [none,none] 1 (fS (aK jA aE)) (cA 0) (λρ Q=>Q true ρ) (aK gH (a6 (aA 0) aE))) aE))))
def wZ:US:=(aL (aX 2 (aK nK (a6 (aA 2) (a6 (aK jS (a6 (aK iE (a6 (aA 0) (a6 (uC (.int 2)) aE))) (a6 (iP (a6 (uC (.int 22)) (a6 (uC (.int 4000)) (a6 (uC (.int 22)) (a6 (uC (.int 2)) (a6 (uC (.int 94)) aE)))))) (a6 (uC (.int 999999883)) aE)))) aE)))) aA2)
def x9:US:=(aL (cH (bB (uOp (dB false) (uIx (aQ 1) (uC (.int 0))) (uC (.int 2)))) (aX 2 (aK iF (a6 (aK j8 (a6 (aA 0) (a6 (uC (.int 4)) (a6 (uC (.int 999999761)) aE)))) aE))) bF) wZ)
def aA3:US:=(aL (cH (bB (uOp (dB false) (uIx (aQ 1) (uC (.int 0))) (uC (.int 1)))) (aX 2 (aK fF (a6 (aK dS (a6 (aK iE (a6 (aA 0) (a6 (uC (.int 1)) aE))) (a6 (uOp eR (uC (.int 1)) (uIx (aQ 1) (uC (.int 2)))) (a6 (uC (.int 999999893)) aE)))) aE))) bF) x9)
def aA4:US:=(aL (aX 2 (aK iL (a6 (aK jG (a6 (aK iE (a6 (aA 0) (a6 (uC (.int 1)) aE))) (a6 (uOp eR (uC (.int 1)) (uIx (aQ 1) (uC (.int 1)))) (a6 (uC (.int 999999893)) aE)))) aE))) aA3)
def a35:US:=(aL (aX 1 (aK jS (a6 (aK iE (a6 (aA 0) (a6 (uC (.int 0)) aE))) (a6 (iP (a6 (uC (.int 3)) (a6 (uC (.int 8)) (a6 (uC (.int 4)) aE)))) (a6 (uC (.int 999999937)) aE))))) aA4)
theorem b92 {Q:B->Prop}{ns:List Int}{t:Str}{s1:Option B}(hl:ns.length<=63)(a:Asc t)(lt:t.length<=150000)(hQ:Q (.pu (.bl true))) :
  wZ {nx:=λ_=>Q (.pu .non),rt:=Q} [some (.pu (.rol (ns.map .int))),s1,some (.pu (.str t))]:=by
 unfold wZ;rw[aC];walk_at "u";refine⟨ns,2,rfl,hl,by decide,by decide,λcc=>⟨by decide,cc,[22,4000,22,2,94],_,rfl,by decide,by decide,by decide,λw hw=>⟨t,w,rfl,a,lt,hw,λs sa sl=> ?_⟩⟩⟩
 dsimp only;unfold aA2;rw[kN];walk_at "u";refine⟨s,rfl,sa,sl,?_⟩;dsimp only;rw[if_pos rfl];refine cX odd D.str (λ_=> .bl true) [some (.pu (.rol (ns.map .int))),s1,some (.pu (.str s))] ?_ (by decide) ?_ ?_
 ·intro Q' q;walk_at "u";exact⟨rfl,q⟩
 ·intro w hw l Q' q;obtain⟨o1,o2⟩:=odd_ok w hw;walk_at "u";exact⟨w,rfl,o1,o2,q⟩
 dsimp only;rw[wU];dsimp only;rw[a89];exact hQ
theorem aX3 {t:List (List Int)}{n:Nat}(h:a91 t n n)(n4:n<=4):(a19 t).length<=1020:=by
 have l1:(" ":Str).length=1:=by decide +kernel
 have l3:(" / ":Str).length=3:=by decide +kernel
 have hr: ∀s∈t.map uU,s.length<=252:=λs hs=>by
  obtain⟨r,hr,rfl⟩:=List.mem_map.mp hs;obtain⟨r1,r2⟩:=h.rows r hr;have:=p9 (y:=" ") (B:=61) (r.map tx) λs hs=>by
   obtain⟨x,hx,rfl⟩:=List.mem_map.mp hs;exact tI (r2 x hx)
  rw[length_map,r1,l1]at this;have h2:n*(61+1)<=4*62:=mul_le_mul_right _ n4;show(Txt.join " " (r.map tx)).length<=252;omega
 have:=p9 (y:=" / ") (B:=252) (t.map uU) hr;rw[length_map,h.len,l3]at this;have h2:n*(252+3)<=4*255:=mul_le_mul_right _ n4;show(Txt.join " / " (t.map uU)).length<=1020;omega
theorem aO1 {ps:List gP}(h:a22 ps):Asc (aE5 ps)/\(aE5 ps).length<=150000:=by
 have ok:=h.ok;have each: ∀s∈ps.map p8,Asc s/\s.length<=1100:=λs hs=>by
  obtain⟨p,hp,rfl⟩:=List.mem_map.mp hs;have o:=h.parts p hp;obtain⟨n,n1,n4,tr⟩:=o.tab;refine⟨?_,?_⟩
  ·unfold Asc;rw[<-all_toList,all_eq_true];intro c hc;have:=(ok.parts p hp).signs c hc;exact decide_eq_true (by omega)
  ·have l1:=aX3 tr n4;have l2:=tI o.n60;have l3:(" ^ ":Str).length=3:=by decide +kernel
   show(a19 p.1++(" ^ ":Str)++tx p.2).length<=1100
   rw[strLen_append,strLen_append,l3];omega
 cases ps with
 | nil=>exact⟨by unfold Asc;decide +kernel,by decide +kernel⟩
 | cons p r=>
  have l3:(" * ":Str).length=3:=by decide +kernel
  refine⟨wY (g:=" * ") (by unfold Asc;decide +kernel) λs hs=>(each s hs).1,?_⟩
  have:=p9 (y:=" * ") (B:=1100) ((p::r).map p8) λs hs=>(each s hs).2
  rw[length_map,l3]at this;have few:=h.few;have h2:(p::r).length*(1100+3)<=4*1103:=mul_le_mul_right _ few;show(Txt.join " * " ((p::r).map p8)).length<=150000;omega
theorem rd_law: ∀ds Q,yK ds Q->a35 {nx:=λ_=>Q (.pu .non),rt:=Q} (init ["s","w","t"] ds):=by
 rintro ds Q ⟨ns,rfl,hl,hQ⟩;unfold a35;show(aL _ _:US) _ [some (.pu (.rol (ns.map .int))),none,none];rw[aC];walk_at "u";refine⟨ns,0,rfl,hl,by decide,by decide,λcc=>⟨by decide,cc,[3,8,4],_,rfl,by decide,by decide,by decide,λway hw=> ?_⟩⟩
 obtain⟨w0,w1,w2,rfl⟩: ∃w0 w1 w2,way=[w0,w1,w2]:=by
  match way,hw.1 with
  | [w0,w1,w2],_=>exact⟨w0,w1,w2,rfl⟩
 have b1:=hw.2 1 w1 8 rfl rfl;have b2:=hw.2 2 w2 4 rfl rfl;have a0:atI ([w0,w1,w2].map D.int) 0=some (.int w0):=aY (j:=0) rfl;have a1:atI ([w0,w1,w2].map D.int) 1=some (.int w1):=aY (j:=1) rfl;have a2:atI ([w0,w1,w2].map D.int) 2=some (.int w2):=aY (j:=2) rfl;generalize [w0,w1,w2].map D.int=W at a0 a1 a2⊢;unfold aA4;rw[aC];walk_at "u";refine⟨ns,1,rfl,hl,by decide,by decide,λc1=> ?_⟩
 simp only[a1];refine⟨c1,(1+w1).toNat,_,by rw[toNat_of_nonneg (by omega)],by omega,by decide,λr rl rn=> ?_⟩
 have ro:u7 r:=⟨by omega,rn⟩
 refine⟨r,rfl,ro,?_⟩
 obtain⟨f1,f2⟩:=b71 ro;generalize uU r=t0 at f1 f2⊢;have l2:t0.length<=150000:=by omega
 clear f2;have c3: ∀t:Str,Asc t->t.length<=150000->x9 {nx:=λ_=>Q (.pu .non),rt:=Q} [some (.pu (.rol (ns.map .int))),some (.ow W),some (.pu (.str t))]:=by
  intro t ta tl;unfold x9;rw[aC];walk_at "u";simp only[a0]
  by_cases c:w0=2
  ·rw[if_pos c];refine⟨ns,4,_,rfl,hl,by decide,by decide,by decide,λps hp=>⟨ps,rfl,hp.ok,?_⟩⟩
   obtain⟨g1,g2⟩:=aO1 hp;exact b92 hl g1 g2 hQ
  ·rw[if_neg c];exact b92 hl ta tl hQ
 unfold aA3;rw[aC];walk_at "u";simp only[a0]
 by_cases c:w0=1
 ·rw[if_pos c];refine⟨ns,1,rfl,hl,by decide,by decide,λc1=> ?_⟩
  simp only[a2];refine⟨c1,(1+w2).toNat,_,by rw[toNat_of_nonneg (by omega)],by omega,by decide,λT hT=>⟨T,rfl,hT.ok (by omega) (by omega),?_⟩⟩
  obtain⟨g1,g2⟩:=b72 (hT.ok (by omega) (by omega))
  exact c3 _ g1 (by omega)
 ·rw[if_neg c];exact c3 _ f1 l2
theorem aX4:bootBuiltins "str"=some (.type "str"):=by decide +kernel
end M
end
namespace M
open PySem PySem.Spec PyProof.Rows L2
set_option maxHeartbeats 4000000
def top (i:Nat):Stmt:=PySem.Challenge.pw_ringhouse_k87_read_or_refused.main.body.getD i (.Pass ⟨0,0,0,0⟩)
abbrev cT:Stmt:=top 26
abbrev jB:List Str:=["text","words"]
abbrev lJ:List Str:=["text"]
abbrev bX:Stmt:=top 27
abbrev gI:List Str:=["text","rows"]
abbrev iV:List Str:=["text"]
abbrev cK:Stmt:=top 28
abbrev jX:List Str:=["text"]
abbrev iW:List Str:=["text"]
abbrev e6:Stmt:=top 29
abbrev rB:List Str:=["text","sides"]
abbrev jY:List Str:=["text"]
abbrev eM:Stmt:=top 30
abbrev jZ:List Str:=["word","figures"]
abbrev iX:List Str:=["word"]
abbrev a36:Stmt:=top 32
abbrev aX5:List Str:=["_law_script","_law_k"]
abbrev a37:List Str:=["_law_script","_law_k"]
abbrev vQ:Stmt:=top 33
abbrev aJ5:List Str:=["_law_cell_here","_law_k","_law_prime","_law_far"]
abbrev xA:List Str:=["_law_cell_here","_law_k","_law_prime"]
abbrev vR:Stmt:=top 34
abbrev aJ6:List Str:=["_law_cell_here","_law_widths","_law_prime","_law_left","_law_found","_law_k"]
abbrev xB:List Str:=["_law_cell_here","_law_widths","_law_prime"]
abbrev vS:Stmt:=top 35
abbrev aJ7:List Str:=["_law_found"]
abbrev xC:List Str:=["_law_found"]
abbrev xD:Stmt:=top 36
abbrev aF1:List Str:=["_law_found","_law_many"]
abbrev a38:List Str:=["_law_found","_law_many"]
abbrev iN:Stmt:=top 37
abbrev pS:List Str:=["_law_found","_law_many"]
abbrev nR:List Str:=["_law_found","_law_many"]
abbrev sR:Stmt:=top 38
abbrev aA5:List Str:=["_law_cell_here","_law_many","_law_prime","_law_found","_law_row_here","_law_k","_law_part","_law_far","_law_low","_law_place","_law_j"]
abbrev tR:List Str:=["_law_cell_here","_law_many","_law_prime"]
abbrev eN:Stmt:=top 39
abbrev k6:List Str:=["_law_cell_here","_law_many","_law_prime","_law_found"]
abbrev iY:List Str:=["_law_cell_here","_law_many","_law_prime"]
abbrev kS:Stmt:=top 40
abbrev uF:List Str:=["_law_script","_law_k","_law_prime","_law_deep","_law_found","_law_j","_law_far"]
abbrev nS:List Str:=["_law_script","_law_k","_law_prime"]
abbrev k7:Stmt:=top 41
abbrev rR:List Str:=["_law_row_here"]
abbrev pT:List Str:=["_law_row_here"]
abbrev gJ:Stmt:=top 42
abbrev nU:List Str:=["_law_table"]
abbrev lK:List Str:=["_law_table"]
abbrev gK:Stmt:=top 43
abbrev nV:List Str:=["_law_parts"]
abbrev lL:List Str:=["_law_parts"]
abbrev kT:Stmt:=top 44
abbrev uG:List Str:=["_law_found","_law_due","_law_pair"]
abbrev nW:List Str:=["_law_found","_law_due"]
abbrev kU:Stmt:=top 45
abbrev uH:List Str:=["_law_word","_law_figures","_law_total","_law_sign_here"]
abbrev nX:List Str:=["_law_word"]
abbrev mF:Stmt:=top 46
abbrev sS:List Str:=["_law_text","_law_row_here"]
abbrev tS:List Str:=["_law_text"]
abbrev hW:Stmt:=top 47
abbrev nY:List Str:=["_law_text","_law_rows"]
abbrev pU:List Str:=["_law_text"]
abbrev nZ:Stmt:=top 48
abbrev xE:List Str:=["_law_text","_law_found","_law_piece","_law_halves","_law_many","_law_table"]
abbrev pV:List Str:=["_law_text"]
abbrev kW:Stmt:=top 49
abbrev uI:List Str:=["_law_some"]
abbrev o0:List Str:=[]
abbrev a39:Stmt:=top 50
abbrev aX6:List Str:=["_law_way","_law_low"]
abbrev a40:List Str:=["_law_way"]
abbrev qK:Stmt:=top 51
abbrev zF:List Str:=["_law_text","_law_way","_law_at","_law_sign_here","_law_some","_law_about"]
abbrev rS:List Str:=["_law_text","_law_way"]
abbrev a41:Stmt:=top 52
abbrev aX7:List Str:=["_law_way","_law_text","_law_found","e"]
abbrev a42:List Str:=["_law_way","_law_text"]
abbrev kX:Stmt:=top 53
abbrev uJ:List Str:=["_law_text","_law_dues","_law_k","_law_refused","_law_found","_law_due","_law_good"]
abbrev o3:List Str:=["_law_text"]
abbrev uK:Stmt:=top 54
abbrev aX8:List Str:=["_law_script","_law_way","_law_text"]
abbrev PP_law:List Str:=["_law_script"]
local macro_rules| `(tactic| walk_at "s")=> `(tactic| exact⟨rfl,rfl,rfl,by decide +kernel,rfl,by decide +kernel,by decide +kernel⟩)
theorem rC:aS jB lJ (a9 cT):=by walk_at "s"
theorem oM:aS gI iV (a9 bX):=by walk_at "s"
theorem v8:aS jX iW (a9 cK):=by walk_at "s"
theorem pW:aS rB jY (a9 e6):=by walk_at "s"
theorem oN:aS jZ iX (a9 eM):=by walk_at "s"
theorem b73:aS aX5 a37 (a9 a36):=by walk_at "s"
theorem xF:aS aJ5 xA (a9 vQ):=by walk_at "s"
theorem mG:aS aJ6 xB (a9 vR):=by walk_at "s"
theorem aX9:aS aJ7 xC (a9 vS):=by walk_at "s"
theorem b74:aS aF1 a38 (a9 xD):=by walk_at "s"
theorem a43:aS pS nR (a9 iN):=by walk_at "s"
theorem bT:aS aA5 tR (a9 sR):=by walk_at "s"
theorem oO:aS k6 iY (a9 eN):=by walk_at "s"
theorem gL:aS uF nS (a9 kS):=by walk_at "s"
theorem aA6:aS rR pT (a9 k7):=by walk_at "s"
theorem xZ:aS nU lK (a9 gJ):=by walk_at "s"
theorem y0:aS nV lL (a9 gK):=by walk_at "s"
theorem sT:aS uG nW (a9 kT):=by walk_at "s"
theorem dO:aS uH nX (a9 kU):=by walk_at "s"
theorem zG:aS sS tS (a9 mF):=by walk_at "s"
theorem uL:aS nY pU (a9 hW):=by walk_at "s"
theorem fU:aS xE pV (a9 nZ):=by walk_at "s"
theorem o4:aS uI o0 (a9 kW):=by walk_at "s"
theorem aJ8:aS aX6 a40 (a9 a39):=by walk_at "s"
theorem dP:aS zF rS (a9 qK):=by walk_at "s"
theorem eE:aS aX7 a42 (a9 a41):=by walk_at "s"
theorem bO:aS uJ o3 (a9 kX):=by walk_at "s"
theorem tT:aS aX8 PP_law (a9 uK):=by walk_at "s"
structure Zs (mg:Str->Option Value):Prop where
 z0:mg "all"=none
 z1:mg "tuple"=none
 z2:mg "int"=none
 z3:mg "any"=none
 z4:mg "len"=none
 z5:mg "range"=none
 z6:mg "isinstance"=none
 z7:mg "bool"=none
 z8:mg "max"=none
 z9:mg "abs"=none
 z10:mg "str"=none
 z11:mg "list"=none
 z12:mg "ValueError"=none
abbrev DT (P:Program)(w:World)(K:PySem.W.Frag)(mg:Str->Option Value)(base:Heap)(N:List Str)(q:Str)(t:Stmt)(k:Nat)(u:US):Prop:= ∀{f:Addr} {cdv:Value} {A:Around} {outer:List Env} {s:Shared} {H:Hp} {E:XK},cV k (A.deeper (envOfC q (a9 t) s.heap.objs.size f cdv))->mS (jO CX0 P w K mg base N q (a9 t) f cdv A outer s H E).nox (bY t) u
abbrev DW (P:Program)(w:World)(K:PySem.W.Frag)(mg:Str->Option Value)(base:Heap)(N:List Str)(q:Str)(t:Stmt)(k:Nat)(u:US):Prop:= ∀{f:Addr} {cdv:Value} {A:Around} {outer:List Env} {s:Shared} {H:Hp} {E:XK},cV k (A.deeper (envOfC q (a9 t) s.heap.objs.size f cdv))->WS (jO CX0 P w K mg base N q (a9 t) f cdv A outer s H E).nox (bY t) u
abbrev iZ (P:Program)(w:World)(K:PySem.W.Frag)(mg:Str->Option Value)(base:Heap):Prop:=Fn P w K mg base "is_number" iX 1 dU
abbrev a44 (P:Program)(w:World)(K:PySem.W.Frag)(mg:Str->Option Value)(base:Heap):Prop:=Fn P w K mg base "_law_cell" a37 1 iE
abbrev aA7 (P:Program)(w:World)(K:PySem.W.Frag)(mg:Str->Option Value)(base:Heap):Prop:=Fn P w K mg base "_law_mixed" xA 1 oZ
abbrev sU (P:Program)(w:World)(K:PySem.W.Frag)(mg:Str->Option Value)(base:Heap):Prop:=Fn P w K mg base "_law_draws" xB 2 jS
abbrev xG (P:Program)(w:World)(K:PySem.W.Frag)(mg:Str->Option Value)(base:Heap):Prop:=Fn P w K mg base "_law_whole" xC 1 p7
abbrev a45 (P:Program)(w:World)(K:PySem.W.Frag)(mg:Str->Option Value)(base:Heap):Prop:=Fn P w K mg base "_law_row" a38 2 sN
abbrev o7 (P:Program)(w:World)(K:PySem.W.Frag)(mg:Str->Option Value)(base:Heap):Prop:=Fn P w K mg base "_law_is_table" nR 3 gG
abbrev qL (P:Program)(w:World)(K:PySem.W.Frag)(mg:Str->Option Value)(base:Heap):Prop:=Fn P w K mg base "_law_places" tR 3 jG
abbrev j0 (P:Program)(w:World)(K:PySem.W.Frag)(mg:Str->Option Value)(base:Heap):Prop:=Fn P w K mg base "_law_square_table" iY 4 dS
abbrev sV (P:Program)(w:World)(K:PySem.W.Frag)(mg:Str->Option Value)(base:Heap):Prop:=Fn P w K mg base "_law_few_parts" nS 5 j8
abbrev pX (P:Program)(w:World)(K:PySem.W.Frag)(mg:Str->Option Value)(base:Heap):Prop:=Fn P w K mg base "_law_row_text" pT 1 iL
abbrev lM (P:Program)(w:World)(K:PySem.W.Frag)(mg:Str->Option Value)(base:Heap):Prop:=Fn P w K mg base "_law_table_text" lK 2 fF
abbrev rE (P:Program)(w:World)(K:PySem.W.Frag)(mg:Str->Option Value)(base:Heap):Prop:=Fn P w K mg base "_law_parts_text" lL 3 iF
abbrev sW (P:Program)(w:World)(K:PySem.W.Frag)(mg:Str->Option Value)(base:Heap):Prop:=Fn P w K mg base "_law_is_parts" nW 4 j9
abbrev o8 (P:Program)(w:World)(K:PySem.W.Frag)(mg:Str->Option Value)(base:Heap):Prop:=Fn P w K mg base "_law_number_of" nX 1 gE
abbrev tU (P:Program)(w:World)(K:PySem.W.Frag)(mg:Str->Option Value)(base:Heap):Prop:=Fn P w K mg base "_law_row_of" tS 2 mC
abbrev pY (P:Program)(w:World)(K:PySem.W.Frag)(mg:Str->Option Value)(base:Heap):Prop:=Fn P w K mg base "_law_table_of" pU 3 iM
abbrev uM (P:Program)(w:World)(K:PySem.W.Frag)(mg:Str->Option Value)(base:Heap):Prop:=Fn P w K mg base "_law_parts_of" pV 4 kR
abbrev sX (P:Program)(w:World)(K:PySem.W.Frag)(mg:Str->Option Value)(base:Heap):Prop:=Fn P w K mg base "_law_odd_lines" o0 1 jA
abbrev aJ9 (P:Program)(w:World)(K:PySem.W.Frag)(mg:Str->Option Value)(base:Heap):Prop:=Fn P w K mg base "_law_sign" a40 1 vP
abbrev xH (P:Program)(w:World)(K:PySem.W.Frag)(mg:Str->Option Value)(base:Heap):Prop:=Fn P w K mg base "_law_changed" rS 2 nK
abbrev aK0 (P:Program)(w:World)(K:PySem.W.Frag)(mg:Str->Option Value)(base:Heap):Prop:=Fn P w K mg base "_law_read" a42 6 vO
abbrev sY (P:Program)(w:World)(K:PySem.W.Frag)(mg:Str->Option Value)(base:Heap):Prop:=Fn P w K mg base "_law_well_read" o3 7 gH
section
variable {P:Program}{w:World}{K:PySem.W.Frag}{mg:Str->Option Value}{base:Heap}
theorem v9 (Z:Zs mg){aO:Addr}(cD:mg "NoText"=some (.ref aO))(cL:excIn K aO [.type "ValueError",.type "Exception",.type "BaseException",.type "object"] "ValueError.__new__"=true)(d8:iZ P w K mg base){f:Addr}{cdv:Value}{A:Around}{outer:List Env}{s:Shared}{H:Hp}{E:XK}(hr:cV 1 (A.deeper (envOfC "read_row" (a9 cT) s.heap.objs.size f cdv))) :
  m7 (jO (CXr P w base) P w K mg base jB "read_row" (a9 cT) f cdv A outer s H E) E (bY cT) jV:=
 (n6 (sG (w6 1 rC.nd rfl (Or.inl rfl) (eH PySem.F.slot_str_split PySem.F.type_str_split gA (eY 0 (pv 0)) (a7 aV a8)) (hl:=il (n:=2) rfl (by decide)))) (n6 (aH6 (iD (eX (bE (wB rfl) rfl Z.z0 wC (a7 (cS (js:=[]) (N:=["word",".acc"]) (cap:=[none,none]) (last:=1) (esc:=(a9 cT).names) (XN:=jB) rfl rfl (by decide +kernel) (by decide) (by decide) rfl (e9 (eY 1 (pv 1))) (λ_ _ _ _ _ _=>(bG 0 (bD (show Nodup (["word",".acc"]:List Str)by decide +kernel) rfl (Or.inl rfl)))) (λ_ _ _ _ _ _=>cR) (λ_ _ _ _ _ _=>(aR8 d8 hr (by decide) rfl (a7 (eY 0 (pv 0)) a8)))) a8)))) (oY (wK PySem.F.excBase_ValueError cL rfl cD rfl (a7 aV a8) aD7 rfl)) a06) (oY (sG (b9 (dZ lU rfl Z.z1 fB (a7 (cS (js:=[]) (N:=["word",".acc"]) (cap:=[none,none]) (last:=1) (esc:=(a9 cT).names) (XN:=jB) rfl rfl (by decide +kernel) (by decide) (by decide) rfl (e9 (eY 1 (pv 1))) (λ_ _ _ _ _ _=>(bG 0 (bD (show Nodup (["word",".acc"]:List Str)by decide +kernel) rfl (Or.inl rfl)))) (λ_ _ _ _ _ _=>cR) (λ_ _ _ _ _ _=>(dZ a01 rfl Z.z2 a17 (a7 (eY 0 (pv 0)) a8)))) a8)))))))
theorem sZ (Z:Zs mg){aO:Addr}(cD:mg "NoText"=some (.ref aO))(cL:excIn K aO [.type "ValueError",.type "Exception",.type "BaseException",.type "object"] "ValueError.__new__"=true)(e8:FnX P w K mg base "read_row" ["text"] 2 cJ){f:Addr}{cdv:Value}{A:Around}{outer:List Env}{s:Shared}{H:Hp}{E:XK}(hr:cV 2 (A.deeper (envOfC "read_table" (a9 bX) s.heap.objs.size f cdv))) :
  m7 (jO (CXr P w base) P w K mg base gI "read_table" (a9 bX) f cdv A outer s H E) E (bY bX) gY:=
 (n6 (b43 1 oM.nd rfl (Or.inr rfl) (aM5 lU rfl Z.z1 fB (aH8 (a83 (js:=[]) (N:=["part",".acc"]) (cap:=[none,none]) (last:=1) (esc:=(a9 bX).names) (XN:=gI) rfl rfl (by decide +kernel) (by decide) (by decide) rfl (e9 (eH PySem.F.slot_str_split PySem.F.type_str_split gA (eY 0 (pv 0)) (a7 aV a8))) (λ_ _ _ _ _ _=>(bG 0 (bD (show Nodup (["part",".acc"]:List Str)by decide +kernel) rfl (Or.inl rfl)))) (λ_ _ _ _ _ _=>cR) (λ_ _ _ _ _ _ _ hp=>(a10 e8 hr (by decide) hp rfl (a7 (eY 0 (pv 0)) a8))) a78 rfl rfl rfl (by decide +kernel)) a8)) (hl:=il (n:=2) rfl (by decide))) (n6 (aH6 (eX (bE (aC7 rfl) rfl Z.z3 aC8 (a7 (cS (js:=[]) (N:=["row","rows",".acc"]) (cap:=[none,some 1,none]) (last:=2) (esc:=(a9 bX).names) (XN:=gI) rfl rfl (by decide +kernel) (by decide) (by decide) rfl (e9 (eY 1 (pv 1))) (λ_ _ _ _ _ _=>(bG 0 (bD (show Nodup (["row","rows",".acc"]:List Str)by decide +kernel) rfl (Or.inl rfl)))) (λ_ _ _ _ _ _=>cR) (λ_ _ _ _ _ _=>(rH rX (dJ (oP 0 (pv 0)) rfl Z.z4) (dJ (oP 1 (pv 1)) rfl Z.z4) (aU _)))) a8))) (oY (wK PySem.F.excBase_ValueError cL rfl cD rfl (a7 aV a8) aD7 rfl)) a06) (oY (sG (mT 1 (pv 1))))))
theorem t4 (Z:Zs mg){rT:Tok}(fM:mg "NO_PARTS"=some (.str "one" rT))(k8:FnX P w K mg base "read_part" ["text"] 4 dW){f:Addr}{cdv:Value}{A:Around}{outer:List Env}{s:Shared}{H:Hp}{E:XK}(hr:cV 4 (A.deeper (envOfC "read_parts" (a9 cK) s.heap.objs.size f cdv))) :
  m7 (jO (CXr P w base) P w K mg base jX "read_parts" (a9 cK) f cdv A outer s H E) E (bY cK) gZ:=
 (n6 (aH6 (aP dD (eY 0 (pv 0)) (aH4 rfl fM) (aU _)) (oY (sG (b9 (fH a8)))) a06) (oY (aH9 (a83 (js:=[]) (N:=["part",".acc"]) (cap:=[none,none]) (last:=1) (esc:=(a9 cK).names) (XN:=jX) rfl rfl (by decide +kernel) (by decide) (by decide) rfl (e9 (eH PySem.F.slot_str_split PySem.F.type_str_split gA (eY 0 (pv 0)) (a7 aV a8))) (λ_ _ _ _ _ _=>(bG 0 (bD (show Nodup (["part",".acc"]:List Str)by decide +kernel) rfl (Or.inl rfl)))) (λ_ _ _ _ _ _=>cR) (λ_ _ _ _ _ _ _ hp=>(a10 k8 hr (by decide) hp rfl (a7 (eY 0 (pv 0)) a8))) a78 rfl rfl rfl (by decide +kernel)))))
theorem tV (Z:Zs mg){aO:Addr}(cD:mg "NoText"=some (.ref aO))(cL:excIn K aO [.type "ValueError",.type "Exception",.type "BaseException",.type "object"] "ValueError.__new__"=true)(d8:iZ P w K mg base)(bZ:FnX P w K mg base "read_table" ["text"] 3 bL){f:Addr}{cdv:Value}{A:Around}{outer:List Env}{s:Shared}{H:Hp}{E:XK}(hr:cV 3 (A.deeper (envOfC "read_part" (a9 e6) s.heap.objs.size f cdv))) :
  m7 (jO (CXr P w base) P w K mg base rB "read_part" (a9 e6) f cdv A outer s H E) E (bY e6) iT:=
 (n6 (sG (w6 1 pW.nd rfl (Or.inl rfl) (eH PySem.F.slot_str_split PySem.F.type_str_split gA (eY 0 (pv 0)) (a7 aV a8)) (hl:=il (n:=2) rfl (by decide)))) (n6 (aH6 (PUW.pt (fZ (aP rX (dJ (oP 1 (pv 1)) rfl Z.z4) aB (aU _)) (fZ (iD (eX (aR8 d8 hr (by decide) rfl (a7 (a61 (oP 1 (pv 1)) aB (λ_ _=>rfl)) a8)))) (j5 (aP aG9 (dZ a01 rfl Z.z2 a17 (a7 (a61 (oP 1 (pv 1)) aB (λ_ _=>rfl)) a8)) aB (aU _)))))) (oY (wK PySem.F.excBase_ValueError cL rfl cD rfl (a7 aV a8) aD7 rfl)) a06) (oY (aH9 (ue_tup (aH8 (a10 bZ hr (by decide) passX rfl (a7 (a61 (oP 1 (pv 1)) aB (λ_ _=>rfl)) a8)) (a7 (dZ a01 rfl Z.z2 a17 (a7 (a61 (oP 1 (pv 1)) aB (λ_ _=>rfl)) a8)) a8)))))))
theorem tW (Z:Zs mg){k9:Tok}(cM:mg "MOST_FIGURES"=some (.int 60 k9)){tY:Tok}(hX:mg "FIGURES"=some (.str "0123456789" tY)):DT P w K mg base jZ "is_number" eM 0 iS:=λhr=>
 (aD (bM (aP dD (aI 0) aV (aU _)) (aG (b9 rW)) b8) (aD (bR 1 oN.nd (aQ8 (eX (eH PySem.F.slot_str_startswith PySem.F.type_str_startswith aL7 (aI 0) (a7 aV a8))) (cO (aI 0) (bW aB) cZ) (aI 0))) (aD (bM (PUW.pt (fZ (aP dD (aI 1) aV (aU _)) (fZ (aP dD (a00 (aI 1) aB (λ_ _=>rfl)) aV (aU _)) (j5 (aP aH0 (bE vG rfl Z.z4 a16 (aR 1 a8)) (b27 rfl cM) (aU _)))))) (aG (b9 rW)) b8) (aG (b9 (bE (wB rfl) rfl Z.z0 wC (a7 (cS (js:=[]) (N:=["sign",".acc"]) (cap:=[none,none]) (last:=1) (esc:=(a9 eM).names) (XN:=jZ) rfl rfl (by decide +kernel) (by decide) (by decide) rfl (aT2 (aI 1)) (λ_ _ _ _ _ _=>(bG 0 (bD (show Nodup (["sign",".acc"]:List Str)by decide +kernel) rfl (Or.inl rfl)))) (λ_ _ _ _ _ _=>cR) (λ_ _ _ _ _ _=>(rH ou_inS (aI 0) (aH4 rfl hX) rfl))) a8)))))))
theorem aY0 (Z:Zs mg):DT P w K mg base aX5 "_law_cell" a36 0 a15:=λhr=>
 (aD (bM (aP dD (dJ (cB 0) rfl Z.z4) aB (aU _)) (aG (b9 (aM dI aB (aM bN (aI 1) aB)))) b8) (aD (bM (aP aG9 (aI 1) (dJ (cB 0) rfl Z.z4) (aU _)) (aG (b9 (eZ (cB 0) (aI 1)))) b8) (aG (b9 (aM bN (eZ (cB 0) (aM oU (aI 1) (dJ (cB 0) rfl Z.z4))) (aM dI aB (aI 1)))))))
theorem aO2 (Z:Zs mg):DT P w K mg base aJ5 "_law_mixed" vQ 0 wO:=λhr=>
 (aD (bR 3 xF.nd (aM oU (aM dI (aM bN (aM bN (aM bN (aI 0) (aM dI (aM dI aB (aI 1)) (aI 1))) (aM dI aB (aI 1))) aB) aB) aB)) (aD (bR 3 xF.nd (aM oU (aM dI (aI 3) (aI 3)) aB)) (aG (b9 (aM oU (aM dI (aI 3) aB) (aI 2))))))
theorem aO3 (Z:Zs mg)(a49:aA7 P w K mg base):DT P w K mg base aJ6 "_law_draws" vR 1 wP:=λhr=>
 (aD (bR 3 mG.nd aB) (aD (bM (aP ou_ge (aI 0) (aM t8 aB aB) (aU _)) (aG (bR 3 mG.nd (aM t7 (aI 0) (aM t8 aB aB)))) b8) (aD (bR 4 mG.nd (fH a8)) (aD (mU PassesOwn.never rfl (jC rfl Z.z5 (a7 (dJ (cB 1) rfl Z.z4) a8)) (bG 5 (bD mG.nd rfl (Or.inl rfl))) (aG (bM (aP aH0 (aI 3) aB (aU _)) (aD (lR 4 (pv 4) (aM oU (aI 3) (eZ (cB 1) (aI 5)))) (aG (bR 3 mG.nd (aM ou_div (aI 3) (eZ (cB 1) (aI 5)))))) (aG (lR 4 (pv 4) (aM oU (cY a49 hr (aR 0 (aR 5 (aR 2 a8)))) (eZ (cB 1) (aI 5)))))))) (aG (mT 4 (pv 4)))))))
theorem aO4 (Z:Zs mg):DT P w K mg base aJ7 "_law_whole" vS 0 wR:=λhr=>
 (aG (b9 (aB9 (bE rM rfl Z.z6 cW (aR 0 (a7 (u5 rfl Z.z2 a17) a8))) (zT (pu_not (bE rM rfl Z.z6 cW (aR 0 (a7 (u5 rfl Z.z7 b60) a8))))))))
theorem aY1 (Z:Zs mg)(qM:xG P w K mg base):DT P w K mg base aF1 "_law_row" xD 1 a29:=λhr=>
 (aD (bM (PUW.pt (fZ (iD (eX (bE rM rfl Z.z6 cW (aR 0 (a7 (u5 rfl Z.z1 fB) a8))))) (j5 (aP rX (dJ (cB 0) rfl Z.z4) (aI 1) (aU _))))) (aG (b9 rW)) b8) (aG (b9 (bE (wB rfl) rfl Z.z0 wC (a7 (cS (js:=[]) (N:=["_law_place",".acc"]) (cap:=[none,none]) (last:=1) (esc:=(a9 xD).names) (XN:=aF1) rfl rfl (by decide +kernel) (by decide) (by decide) rfl (e9 (aI 0)) (λ_ _ _ _ _ _=>(bG 0 (bD (show Nodup (["_law_place",".acc"]:List Str)by decide +kernel) rfl (Or.inl rfl)))) (λ_ _ _ _ _ _=>cR) (λ_ _ _ _ _ _=>(cY qM hr (aR 0 a8)))) a8)))))
theorem y1 (Z:Zs mg)(tZ:a45 P w K mg base):DT P w K mg base pS "_law_is_table" iN 2 nF:=λhr=>
 (aD (bM (PUW.pt (fZ (iD (eX (bE rM rfl Z.z6 cW (aR 0 (a7 (u5 rfl Z.z1 fB) a8))))) (j5 (aP rX (dJ (cB 0) rfl Z.z4) (aI 1) (aU _))))) (aG (b9 rW)) b8) (aG (b9 (bE (wB rfl) rfl Z.z0 wC (a7 (cS (js:=[1]) (N:=["_law_row_here","_law_many",".acc"]) (cap:=[none,some 1,none]) (last:=2) (esc:=(a9 iN).names) (XN:=pS) rfl rfl (by decide +kernel) (by decide) (by decide) rfl (e9 (aI 0)) (λ_ _ _ _ _ _=>(bG 0 (bD (show Nodup (["_law_row_here","_law_many",".acc"]:List Str)by decide +kernel) rfl (Or.inl rfl)))) (λ_ _ _ _ _ _=>cR) (λ_ _ _ _ _ _=>(cY tZ hr (aR 0 (aR 1 a8))))) a8)))))
theorem aF2 (Z:Zs mg)(iG:sU P w K mg base):DT P w K mg base aA5 "_law_places" sR 2 tK:=λhr=>
 (aD (bR 3 bT.nd (cY iG hr (aR 0 (a7 (aM dI (aM bN (fH (bK (bK (bK (bK a8))))) (aM dI (fH (a7 (aM t8 aB aB) a8)) aB)) (aI 1)) (aR 2 a8))))) (aD (bR 4 bT.nd (fH a8)) (aD (mU PassesOwn.never rfl (jC rfl Z.z5 (aR 1 a8)) (bG 5 (bD bT.nd rfl (Or.inl rfl))) (aD (bR 6 bT.nd (a62 (cB 3) (bW (aM dI aB (aI 5))) (bW (aM bN (aM dI aB (aI 5)) aB)))) (aD (bR 7 bT.nd aB) (aD (mU PassesOwn.never rfl (e9 (a62 (cB 6) (bW aB) cZ)) (bG 8 (bD bT.nd rfl (Or.inl rfl))) (aG (bR 7 bT.nd (aM bN (aM dI (aI 7) (aM t8 aB aB)) (aI 8))))) (aD (bR 9 bT.nd (aM t7 (aM oU (aI 7) (aM t7 (aM dI aB (aM t8 aB aB)) aB)) (aM t7 (aM t8 aB aB) aB))) (aD (bM (aP aG9 (eZ (cB 6) aB) aB (aU _)) (aG (bR 9 bT.nd (aM t7 (eZ (cB 6) aB) aB))) b8) (aD (bM (aP aH0 (eZ (cB 6) aB) aB (aU _)) (aD (bR 9 bT.nd aB) (aD (mU PassesOwn.never rfl (jC rfl Z.z5 (a7 (eZ (cB 6) aB) a8)) (bG 10 (bD bT.nd rfl (Or.inl rfl))) (aG (bR 9 bT.nd (aM dI (aI 9) aB)))) (aG (bR 9 bT.nd (aM t7 (aM bN (aI 9) (eZ (cB 6) aB)) aB))))) b8) (aD (bM (aP dD (eZ (cB 6) aB) aB (aU _)) (aG (bR 9 bT.nd (aC2 (aI 9)))) b8) (aG (lR 4 (pv 4) (aI 9))))))))))) (aG (b9 (dZ lU rfl Z.z1 fB (aR 4 a8)))))))
theorem tX (Z:Zs mg)(gN:qL P w K mg base):DT P w K mg base k6 "_law_square_table" eN 3 iR:=λhr=>
 (aD (bR 3 oO.nd (cY gN hr (aR 0 (a7 (aM dI (aI 1) (aI 1)) (aR 2 a8))))) (aG (b9 (dZ lU rfl Z.z1 fB (a7 (cS (js:=[3,1]) (N:=["_law_k","_law_found","_law_many",".acc"]) (cap:=[none,some 3,some 1,none]) (last:=3) (esc:=(a9 eN).names) (XN:=k6) rfl rfl (by decide +kernel) (by decide) (by decide) rfl (jC rfl Z.z5 (aR 1 a8)) (λ_ _ _ _ _ _=>(bG 0 (bD (show Nodup (["_law_k","_law_found","_law_many",".acc"]:List Str)by decide +kernel) rfl (Or.inl rfl)))) (λ_ _ _ _ _ _=>cR) (λ_ _ _ _ _ _=>(aL5 (aI 1) (bW (aM dI (aI 2) (aI 0))) (bW (aM bN (aM dI (aI 2) (aI 0)) (aI 2)))))) a8)))))
theorem y2 (Z:Zs mg)(iG:sU P w K mg base)(kA:a44 P w K mg base)(gN:qL P w K mg base)(d9:j0 P w K mg base):DT P w K mg base uF "_law_few_parts" kS 4 nB:=λhr=>
 (aD (bR 3 gL.nd (cY iG hr (a7 (cY kA hr (aR 0 (aR 1 a8))) (a7 (fH (bK (bK (bK (bK (bK a8)))))) (aR 2 a8))))) (aD (bR 4 gL.nd (fH a8)) (aD (mU PassesOwn.never rfl (jC rfl Z.z5 (a7 (eZ (cB 3) aB) a8)) (bG 5 (bD gL.nd rfl (Or.inl rfl))) (aD (bR 6 gL.nd (cY gN hr (a7 (cY kA hr (aR 0 (a7 (aM bN (aM bN (aI 1) aB) (aI 5)) a8))) (bK (bK a8))))) (aG (lR 4 (pv 4) (g8 (a7 (cY d9 hr (a7 (cY kA hr (aR 0 (a7 (aM bN (aM bN (aI 1) aB) (aI 5)) a8))) (a7 (aM bN (eZ (cB 3) (aM bN aB (aI 5))) aB) (aR 2 a8)))) (a7 (bE (aR7 rfl) rfl Z.z8 aV5 (bK (a7 (bE cu_abs rfl Z.z9 bt_abs (a7 (eZ (cB 6) aB) a8)) a8))) a8))))))) (aG (mT 4 (pv 4))))))
theorem a46 (Z:Zs mg):DT P w K mg base rR "_law_row_text" k7 0 pA:=λhr=>
 (aG (b9 (eH PySem.F.slot_str_join PySem.F.type_str_join vI aV (a7 (cS (js:=[]) (N:=["_law_place",".acc"]) (cap:=[none,none]) (last:=1) (esc:=(a9 k7).names) (XN:=rR) rfl rfl (by decide +kernel) (by decide) (by decide) rfl (e9 (aI 0)) (λ_ _ _ _ _ _=>(bG 0 (bD (show Nodup (["_law_place",".acc"]:List Str)by decide +kernel) rfl (Or.inl rfl)))) (λ_ _ _ _ _ _=>cR) (λ_ _ _ _ _ _=>(dZ aS8 rfl Z.z10 aX4 (aR 0 a8)))) a8))))
theorem xI (Z:Zs mg)(hZ:pX P w K mg base):DT P w K mg base nU "_law_table_text" gJ 1 l7:=λhr=>
 (aG (b9 (eH PySem.F.slot_str_join PySem.F.type_str_join vI aV (a7 (cS (js:=[]) (N:=["_law_row_here",".acc"]) (cap:=[none,none]) (last:=1) (esc:=(a9 gJ).names) (XN:=nU) rfl rfl (by decide +kernel) (by decide) (by decide) rfl (e9 (aI 0)) (λ_ _ _ _ _ _=>(bG 0 (bD (show Nodup (["_law_row_here",".acc"]:List Str)by decide +kernel) rfl (Or.inl rfl)))) (λ_ _ _ _ _ _=>cR) (λ_ _ _ _ _ _=>(cY hZ hr (aR 0 a8)))) a8))))
theorem xJ (Z:Zs mg)(eV:lM P w K mg base):DT P w K mg base nV "_law_parts_text" gK 2 l8:=λhr=>
 (aD (bM (aP dD (dJ (cB 0) rfl Z.z4) aB (aU _)) (aG (b9 aV)) b8) (aG (b9 (eH PySem.F.slot_str_join PySem.F.type_str_join vI aV (a7 (cS (js:=[]) (N:=["_law_pair",".acc"]) (cap:=[none,none]) (last:=1) (esc:=(a9 gK).names) (XN:=nV) rfl rfl (by decide +kernel) (by decide) (by decide) rfl (e9 (aI 0)) (λ_ _ _ _ _ _=>(bG 0 (bD (show Nodup (["_law_pair",".acc"]:List Str)by decide +kernel) rfl (Or.inl rfl)))) (λ_ _ _ _ _ _=>cR) (λ_ _ _ _ _ _=>(aM bV (aM bV (cY eV hr (a7 (eZ (cB 0) aB) a8)) aV) (dZ aS8 rfl Z.z10 aX4 (a7 (eZ (cB 0) aB) a8))))) a8)))))
theorem y3 (Z:Zs mg)(qM:xG P w K mg base)(fV:o7 P w K mg base):DT P w K mg base uG "_law_is_parts" kT 3 nG:=λhr=>
 (aD (bM (PUW.pt (fZ (iD (eX (bE rM rfl Z.z6 cW (aR 0 (a7 (u5 rfl Z.z11 b61) a8))))) (j5 (aP rX (dJ (cB 0) rfl Z.z4) (dJ (cB 1) rfl Z.z4) (aU _))))) (aG (b9 rW)) b8) (aD (mU PassesOwn.never rfl (e9 (aI 0)) (bG 2 (bD sT.nd rfl (Or.inl rfl))) (aD (bM (PUW.pt (fZ (iD (eX (bE rM rfl Z.z6 cW (aR 2 (a7 (u5 rfl Z.z1 fB) a8))))) (fZ (aP rX (dJ (cB 2) rfl Z.z4) aB (aU _)) (j5 (iD (eX (cY qM hr (a7 (eZ (cB 2) aB) a8)))))))) (aG (b9 rW)) b8) (aG (bM (PUW.pt (fZ (iD (eX (bE rM rfl Z.z6 cW (a7 (eZ (cB 2) aB) (a7 (u5 rfl Z.z1 fB) a8))))) (j5 (iD (eX (cY fV hr (a7 (eZ (cB 2) aB) (a7 (dJ (b84 (eZ (cB 2) aB)) rfl Z.z4) a8)))))))) (aG (b9 rW)) b8)))) (aG (b9 (rH (aS4 hr.units) (aI 0) (aI 1) (aU _))))))
theorem y4 (Z:Zs mg):DT P w K mg base uH "_law_number_of" kU 0 nE:=λhr=>
 (aD (bR 1 dO.nd (aI 0)) (aD (bM (aP dD (cO (aI 0) cZ (bW aB)) aV (aU _)) (aG (bR 1 dO.nd (cO (aI 0) (bW aB) cZ))) b8) (aD (bM (PUW.pt (fZ (aP dD (bE vG rfl Z.z4 a16 (aR 1 a8)) aB (aU _)) (fZ (aP aH0 (bE vG rfl Z.z4 a16 (aR 1 a8)) aB (aU _)) (j5 (PUW.pt (kL (aP dD (a00 (aI 1) aB (λ_ _=>rfl)) aV (aU _)) (oQ (aP rX (aI 0) aV (aU _))))))))) (aG (b9 iO)) b8) (aD (bR 2 dO.nd aB) (aD (mU PassesOwn.never rfl (aT2 (aI 1)) (bG 3 (bD dO.nd rfl (Or.inl rfl))) (aD (bM (aP aM7 (aI 3) aV rfl) (aG (b9 iO)) b8) (aG (bR 2 dO.nd (aM bN (aM dI (aI 2) aB) (eH PySem.F.slot_str_find PySem.F.type_str_find b57 aV (aR 3 a8))))))) (aD (bM (aP dD (cO (aI 0) cZ (bW aB)) aV (aU _)) (aG (bR 2 dO.nd (aC2 (aI 2)))) b8) (aG (mT 2 (pv 2)))))))))
theorem aF3 (Z:Zs mg)(fW:o8 P w K mg base):DT P w K mg base sS "_law_row_of" mF 1 tN:=λhr=>
 (aD (a65 (js:=[]) (N:=["_law_word",".acc"]) (cap:=[none,none]) (last:=1) (esc:=(a9 mF).names) (XN:=sS) 1 rfl rfl (by decide +kernel) (by decide) (by decide) rfl (e9 (eH PySem.F.slot_str_split PySem.F.type_str_split gA (aI 0) (a7 aV a8))) (λ_ _ _ _ _ _=>(bG 0 (bD (show Nodup (["_law_word",".acc"]:List Str)by decide +kernel) rfl (Or.inl rfl)))) (λ_ _ _ _ _ _=>cR) (λ_ _ _ _ _ _=>(cY fW hr (aR 0 a8))) (bD zG.nd rfl (Or.inl rfl)) (il (n:=2) rfl (by decide))) (aD (bM (eX (bE (aC7 rfl) rfl Z.z3 aC8 (a7 (cS (js:=[]) (N:=["_law_place",".acc"]) (cap:=[none,none]) (last:=1) (esc:=(a9 mF).names) (XN:=sS) rfl rfl (by decide +kernel) (by decide) (by decide) rfl (e9 (aI 1)) (λ_ _ _ _ _ _=>(bG 0 (bD (show Nodup (["_law_place",".acc"]:List Str)by decide +kernel) rfl (Or.inl rfl)))) (λ_ _ _ _ _ _=>cR) (λ_ _ _ _ _ _=>(aS5 (aI 0)))) a8))) (aG (b9 iO)) b8) (aG (b9 (dZ lU rfl Z.z1 fB (aR 1 a8))))))
theorem a47 (Z:Zs mg)(mH:tU P w K mg base):DT P w K mg base nY "_law_table_of" hW 2 pK:=λhr=>
 (aD (bR 1 uL.nd (cS (js:=[]) (N:=["_law_piece",".acc"]) (cap:=[none,none]) (last:=1) (esc:=(a9 hW).names) (XN:=nY) rfl rfl (by decide +kernel) (by decide) (by decide) rfl (e9 (eH PySem.F.slot_str_split PySem.F.type_str_split gA (aI 0) (a7 aV a8))) (λ_ _ _ _ _ _=>(bG 0 (bD (show Nodup (["_law_piece",".acc"]:List Str)by decide +kernel) rfl (Or.inl rfl)))) (λ_ _ _ _ _ _=>cR) (λ_ _ _ _ _ _=>(cY mH hr (aR 0 a8))))) (aD (bM (eX (bE (aC7 rfl) rfl Z.z3 aC8 (a7 (cS (js:=[]) (N:=["_law_row_here","_law_rows",".acc"]) (cap:=[none,some 1,none]) (last:=2) (esc:=(a9 hW).names) (XN:=nY) rfl rfl (by decide +kernel) (by decide) (by decide) rfl (e9 (aI 1)) (λ_ _ _ _ _ _=>(bG 0 (bD (show Nodup (["_law_row_here","_law_rows",".acc"]:List Str)by decide +kernel) rfl (Or.inl rfl)))) (λ_ _ _ _ _ _=>cR) (λ_ _ _ _ _ _=>(pu_or (aS5 (aI 0)) (zT (rH rX (dJ (cB 0) rfl Z.z4) (dJ (cB 1) rfl Z.z4) (aU _)))))) a8))) (aG (b9 iO)) b8) (aG (b9 (dZ lU rfl Z.z1 fB (aR 1 a8))))))
theorem a48 (Z:Zs mg)(fW:o8 P w K mg base)(i0:pY P w K mg base):DT P w K mg base xE "_law_parts_of" nZ 3 pL:=λhr=>
 (aD (bR 1 fU.nd (fH a8)) (aD (bM (aP dD (aI 0) aV (aU _)) (aG (mT 1 (pv 1))) b8) (aD (mU PassesOwn.never rfl (e9 (eH PySem.F.slot_str_split PySem.F.type_str_split gA (aI 0) (a7 aV a8))) (bG 2 (bD fU.nd rfl (Or.inl rfl))) (aD (bR 3 fU.nd (eH PySem.F.slot_str_split PySem.F.type_str_split gA (aI 2) (a7 aV a8))) (aD (bM (aP rX (dJ (cB 3) rfl Z.z4) aB (aU _)) (aG (b9 iO)) b8) (aD (bR 4 fU.nd (cY fW hr (a7 (eZ (cB 3) aB) a8))) (aD (bR 5 fU.nd (cY i0 hr (a7 (eZ (cB 3) aB) a8))) (aD (bM (PUW.pt (fZ (zZ (aI 4)) (fZ (aP aG9 (aI 4) aB (aU _)) (j5 (zZ (aI 5)))))) (aG (b9 iO)) b8) (aG (lR 1 (pv 1) (g8 (aR 5 (aR 4 a8))))))))))) (aG (mT 1 (pv 1))))))
theorem yA (Z:Zs mg):DW P w K mg base uI "_law_odd_lines" kW 0 nJ:=λhr=>
 ⟨(by refine WS.out ?_;exact ws_lw (j7 (j7 (j7 (j7 (j7 (j7 (j7 (j7 (j7 (j7 (j7 (j7 (j7 (j7 (j7 aS7))))))))))))))) (b88 (by refine WS.out ?_;exact ws_la (j7 (j7 (j7 (j7 (j7 (j7 (j7 (j7 (j7 aS7))))))))) (aI 0) (b88 (aG (b9 (aM bN (aI 0) (fH (a7 aV (a7 aV a8))))))) o4.nd)) o4.nd)⟩
theorem aY2 (Z:Zs mg):DT P w K mg base aX6 "_law_sign" a39 0 a34:=λhr=>
 (aD (bM (aP dD (eZ (cB 0) aB) aB (aU _)) (aG (b9 (a00 aV (eZ (cB 0) aB) (λ_ _=>rfl)))) b8) (aD (bR 1 aJ8.nd aV) (aG (b9 (a00 (aM bV (aI 1) aV) (eZ (cB 0) aB) (λ_ _=>rfl))))))
theorem aA8 (Z:Zs mg)(aF4:aJ9 P w K mg base):DT P w K mg base zF "_law_changed" qK 1 rQ:=λhr=>
 (aU8 (b56 2 dP.nd rfl (Or.inl rfl) (aU7 oU (eZ (cB 1) aB) (aU7 bN (bE vG rfl Z.z4 a16 (aR 0 a8)) b55)) (hl:=il (n:=6) rfl (by decide))) (gU (usp (bR 3 dP.nd (cY aF4 hr (aR 1 a8)))) (gU (usp (bR 4 dP.nd (fH (aR 0 (a7 (aM bV (aM bV (cO (aI 0) cZ (bW (aI 2))) (aI 3)) (cO (aI 0) (bW (aI 2)) cZ)) (a7 (aM bV (cO (aI 0) cZ (bW (aI 2))) (cO (aI 0) (bW (aM bN (aI 2) aB)) cZ)) (a7 (aM bV (aM bV (cO (aI 0) cZ (bW (aI 2))) (aI 3)) (cO (aI 0) (bW (aM bN (aI 2) aB)) cZ)) a8))))))) (gU (vL 4 dP.nd rfl (Or.inl rfl) (a13 bN (aI 4) (vK (bH (pup (aM bV (aI 0) aV)) (bH (pup (aM bV aV (aI 0))) (bH (iK (aI 0) (by decide) (by decide)) (bH (pup (aM bV aV (aI 0))) (bH (pup (aM bV aV (aI 0))) (bH (pup (aM bV aV (aI 0))) (b54 a8))))))))) (hl:=il (n:=6) rfl (by decide))) (gU (vL 4 dP.nd rfl (Or.inl rfl) (a13 bN (aI 4) (vK (bH (pup (aM bV (aI 0) (aM b58 aV aB))) (bH (iK (aI 0) (by decide) (by decide)) (bH (iK (aI 0) (by decide) (by decide)) (bH (pup (aM bV (aM bV (aI 0) aV) (aI 0))) (b54 a8))))))) (hl:=il (n:=6) rfl (by decide))) (gU (usp (bR 5 dP.nd (eH PySem.F.slot_str_join PySem.F.type_str_join vI aV (a7 (b31 (b84 (eH PySem.F.slot_str_split PySem.F.type_str_split gA (aI 0) (a7 aV a8))) (aC2 aB)) a8)))) (gU (vL 4 dP.nd rfl (Or.inl rfl) (a13 bN (aI 4) (vK (bH (pup (aM bV (aM bV (aI 0) aV) (aI 0))) (bH (pup (aI 5)) (bH (iK (aI 0) (by decide) (by decide)) (bH (pup (cO (aI 0) cZ (bW (bE (aR7 rfl) rfl Z.z8 aV5 (bK (a7 (eH PySem.F.slot_str_rfind PySem.F.type_str_rfind a82 (aI 0) (a7 aV a8)) a8)))))) (b54 a8))))))) (hl:=il (n:=6) rfl (by decide))) (gU (vL 4 dP.nd rfl (Or.inl rfl) (a13 bN (aI 4) (vK (bH (iK (aI 0) (by decide) (by decide)) (bH (pup (aM bV (cO (aI 0) cZ (bW (aM bN (eH PySem.F.slot_str_rfind PySem.F.type_str_rfind a82 (aI 0) (a7 aV a8)) aB))) aV)) (bH (pup (aM bV (aI 3) (aI 0))) (bH (pup (aM bV (aI 0) (aI 3))) (b54 a8))))))) (hl:=il (n:=6) rfl (by decide))) (ussp (aG (b9 (eZ (cB 4) (eZ (cB 1) aB)))))))))))))
theorem aY3 (Z:Zs mg){aO:Addr}(cD:mg "NoText"=some (.ref aO))(cL:excIn K aO [.type "ValueError",.type "Exception",.type "BaseException",.type "object"] "ValueError.__new__"=true){eO:Addr}(eQ:mg "RingError"=some (.ref eO))(kY:excIn K eO [.type "ValueError",.type "Exception",.type "BaseException",.type "object"] "ValueError.__new__"=true){mI:Addr}(kB:mg "Beyond"=some (.ref mI)){jH:Addr}(i3:mg "Endless"=some (.ref jH)){eW:Addr}(dQ:mg "FallsApart"=some (.ref eW)){jI:Addr}(i4:mg "NoBasic"=some (.ref jI)){jJ:Addr}(i5:mg "NoIdeal"=some (.ref jJ)){mJ:Addr}(kC:mg "NoLine"=some (.ref mJ)){mK:Addr}(kD:mg "NoName"=some (.ref mK)){i6:Addr}(fN:mg "NoPlaces"=some (.ref i6)){dA:Addr}(cN:mg "NoPolynomial"=some (.ref dA)){jK:Addr}(i7:mg "NoPrime"=some (.ref jK)){mL:Addr}(kE:mg "NoRing"=some (.ref mL)){i8:Addr}(fO:mg "NotApart"=some (.ref i8)){jL:Addr}(i9:mg "NotHeld"=some (.ref jL)){mM:Addr}(kF:mg "NotTwo"=some (.ref mM)){jM:Addr}(iA:mg "NotUnit"=some (.ref jM)){iB:Addr}(fP:mg "NotWhole"=some (.ref iB)){mO:Addr}(kG:mg "Nought"=some (.ref mO)){mP:Addr}(kH:mg "TooFar"=some (.ref mP)){iC:Addr}(fQ:mg "TooGreat"=some (.ref iC))(KX_NoText:aD9 K aO)(U1_NoText:tE K aO aO [.type "ValueError",.type "Exception",.type "BaseException",.type "object"] "ValueError.__new__")(ki_RingError:kitOne K (.ref aO) (.ref eO)=some true)(ki_ValueError:kitOne K (.ref aO) (.type "ValueError")=some true)(ki_Beyond_Endless_FallsApart_NoBasic_NoIdeal_NoLine_NoName_NoPlaces:kitAny K (.ref aO) [.ref mI,.ref jH,.ref eW,.ref jI,.ref jJ,.ref mJ,.ref mK,.ref i6]=some false)(ki_NoPolynomial_NoPrime_NoRing_NotApart_NotHeld_NotTwo_NotUnit:kitAny K (.ref aO) [.ref dA,.ref jK,.ref mL,.ref i8,.ref jL,.ref mM,.ref jM]=some false)(ki_NotWhole_Nought_TooFar_TooGreat:kitAny K (.ref aO) [.ref iB,.ref mO,.ref mP,.ref iC]=some false)(e8:FnX P w K mg base "read_row" ["text"] 2 cJ)(bZ:FnX P w K mg base "read_table" ["text"] 3 bL)(dY:FnX P w K mg base "read_parts" ["text"] 5 bS):DT P w K mg base aX7 "_law_read" a41 5 a28:=λhr=>
 (aD (bR 2 eE.nd (g8 (bK (a7 iO a8)))) (aD (b46 3 (.inl ⟨rfl,rfl⟩) PySem.F.excBase_ValueError rfl rfl rfl rfl (a14 (λ_=>(aP dD (aI 0) aB (aU _))) (a11 2 (λ_=>aB) e8 hr (by decide) rfl (λ_=>(aR 1 a8)) eE.nd rfl (Or.inl rfl) (il (n:=4) rfl (by decide))) (a14 (λ_=>(aP dD (aI 0) aB (aU _))) (a11 2 (λ_=>aB) bZ hr (by decide) rfl (λ_=>(aR 1 a8)) eE.nd rfl (Or.inl rfl) (il (n:=4) rfl (by decide))) (a14 (λ_=>(aP dD (aI 0) aB (aU _))) (a11 2 (λ_=>aB) dY hr (by decide) rfl (λ_=>(aR 1 a8)) eE.nd rfl (Or.inl rfl) (il (n:=4) rfl (by decide))) uy_nil (λ_=>b8)) (λ_=>(aG (bM (aP dD (aI 0) aB (aU _)) (aG (bR 2 eE.nd (g8 (bK (a7 (tG dY hr (by decide) rfl (aR 1 a8)) a8))))) b8)))) (λ_=>(aD (bM (aP dD (aI 0) aB (aU _)) (aG (bR 2 eE.nd (g8 (bK (a7 (tG bZ hr (by decide) rfl (aR 1 a8)) a8))))) b8) (aG (bM (aP dD (aI 0) aB (aU _)) (aG (bR 2 eE.nd (g8 (bK (a7 (tG dY hr (by decide) rfl (aR 1 a8)) a8))))) b8))))) (λa oe x ho hx=>(aD (bR 2 eE.nd (g8 (bK (a7 iO a8)))) (aD (bM (PUW.pt (kL (eX (aU1 3 KX_NoText (mem_cons_self ..) ho hx (pv 3) (d2 rfl eQ) rfl ki_RingError rfl Z.z6)) (oQ (eX (aU1 3 KX_NoText (mem_cons_self ..) ho hx (pv 3) (u5 rfl Z.z12 xO) rfl ki_ValueError rfl Z.z6))))) (aG (bR 2 eE.nd (g8 (bK (a7 iO a8))))) b8) (aD (bM (eX (a12 3 KX_NoText (mem_cons_self ..) ho hx (pv 3) (g8 (a7 (d2 rfl kB) (a7 (d2 rfl i3) (a7 (d2 rfl dQ) (a7 (d2 rfl i4) (a7 (d2 rfl i5) (a7 (d2 rfl kC) (a7 (d2 rfl kD) (a7 (d2 rfl fN) a8))))))))) (rs:=[mI,jH,eW,jI,jJ,mJ,mK,i6]) (λ_ _ q=>⟨Nat.le_of_ble_eq_true rfl,q⟩) ki_Beyond_Endless_FallsApart_NoBasic_NoIdeal_NoLine_NoName_NoPlaces rfl Z.z6)) (aG (bR 2 eE.nd (g8 (bK (a7 iO a8))))) b8) (aD (bM (eX (a12 3 KX_NoText (mem_cons_self ..) ho hx (pv 3) (g8 (a7 (d2 rfl cN) (a7 (d2 rfl i7) (a7 (d2 rfl kE) (a7 (d2 rfl fO) (a7 (d2 rfl i9) (a7 (d2 rfl kF) (a7 (d2 rfl iA) a8)))))))) (rs:=[dA,jK,mL,i8,jL,mM,jM]) (λ_ _ q=>⟨Nat.le_of_ble_eq_true rfl,q⟩) ki_NoPolynomial_NoPrime_NoRing_NotApart_NotHeld_NotTwo_NotUnit rfl Z.z6)) (aG (bR 2 eE.nd (g8 (bK (a7 iO a8))))) b8) (aG (bM (eX (a12 3 KX_NoText (mem_cons_self ..) ho hx (pv 3) (g8 (a7 (d2 rfl fP) (a7 (d2 rfl kG) (a7 (d2 rfl kH) (a7 (d2 rfl fQ) a8))))) (rs:=[iB,mO,mP,iC]) (λ_ _ q=>⟨Nat.le_of_ble_eq_true rfl,q⟩) ki_NotWhole_Nought_TooFar_TooGreat rfl Z.z6)) (aG (bR 2 eE.nd (g8 (bK (a7 iO a8))))) b8))))))) rfl cD (.inl cL) U1_NoText eE.nd rfl rfl (il (n:=4) rfl (by decide))) (aG (mT 2 (pv 2)))))
theorem yB (Z:Zs mg)(mH:tU P w K mg base)(i0:pY P w K mg base)(rV:uM P w K mg base)(aF5:aK0 P w K mg base)(tZ:a45 P w K mg base)(fV:o7 P w K mg base)(pZ:sW P w K mg base):DT P w K mg base uJ "_law_well_read" kX 6 nI:=λhr=>
 (aD (bR 1 bO.nd (fH (a7 (cY mH hr (aR 0 a8)) (a7 (cY i0 hr (aR 0 a8)) (a7 (cY rV hr (aR 0 a8)) a8))))) (aD (mU PassesOwn.never rfl (jC rfl Z.z5 (bK a8)) (bG 2 (bD bO.nd rfl (Or.inl rfl))) (aD (us_asg (cY aF5 hr (aR 2 (aR 0 a8))) (ug_tup rfl (a60 3 (bD bO.nd rfl (Or.inl rfl)) (a60 4 (bD bO.nd rfl (Or.inl rfl)) b14)) (yN (yN aS2)))) (aD (bR 5 bO.nd (eZ (cB 1) (aI 2))) (aD (bM (zZ (aI 5)) (aG (bR 6 bO.nd (rH dD (aI 3) aB (aU _)))) (aG (bR 6 bO.nd (aB9 (rH dD (aI 3) aB (aU _)) (zT (rH (aS4 hr.units) (aI 4) (aI 5) (aU _))))))) (aD (bM (PUW.pt (kL (eX (aI 6)) (kL (wE (aI 5)) (oQ (aP dD (aI 2) aB (aU _)))))) (aG (bR 6 bO.nd (cY tZ hr (aR 4 (a7 (dJ (cB 5) rfl Z.z4) a8))))) b8) (aD (bM (PUW.pt (kL (eX (aI 6)) (kL (wE (aI 5)) (oQ (aP dD (aI 2) aB (aU _)))))) (aG (bR 6 bO.nd (cY fV hr (aR 4 (a7 (dJ (cB 5) rfl Z.z4) a8))))) b8) (aD (bM (PUW.pt (kL (eX (aI 6)) (kL (wE (aI 5)) (oQ (aP dD (aI 2) aB (aU _)))))) (aG (bR 6 bO.nd (cY pZ hr (aR 4 (aR 5 a8))))) b8) (aG (bM (iD (eX (aI 6))) (aG (b9 rW)) b8))))))))) (aG (b9 rW))))
theorem b75 (Z:Zs mg)(iG:sU P w K mg base)(kA:a44 P w K mg base)(hZ:pX P w K mg base)(gN:qL P w K mg base)(eV:lM P w K mg base)(d9:j0 P w K mg base)(o9:rE P w K mg base)(qA:sV P w K mg base)(u0:xH P w K mg base)(kZ:sY P w K mg base)(qB:sX P w K mg base):DT P w K mg base aX8 "law" uK 7 a35:=λhr=>
 (aD (bR 1 tT.nd (cY iG hr (a7 (cY kA hr (aR 0 (bK a8))) (a7 (fH (bK (bK (bK a8)))) (bK a8))))) (aD (bR 2 tT.nd (cY hZ hr (a7 (cY gN hr (a7 (cY kA hr (aR 0 (bK a8))) (a7 (aM bN aB (eZ (cB 1) aB)) (bK a8)))) a8))) (aD (bM (aP dD (eZ (cB 1) aB) aB (aU _)) (aG (bR 2 tT.nd (cY eV hr (a7 (cY d9 hr (a7 (cY kA hr (aR 0 (bK a8))) (a7 (aM bN aB (eZ (cB 1) aB)) (bK a8)))) a8)))) b8) (aD (bM (aP dD (eZ (cB 1) aB) aB (aU _)) (aG (bR 2 tT.nd (cY o9 hr (a7 (cY qA hr (aR 0 (bK (bK a8)))) a8)))) b8) (aD (bR 2 tT.nd (cY u0 hr (aR 2 (a7 (cY iG hr (a7 (cY kA hr (aR 0 (bK a8))) (a7 (fH (bK (bK (bK (bK (bK a8)))))) (bK a8)))) a8)))) (aG (b9 (aB9 (cY kZ hr (aR 2 a8)) (zT (bE (wB rfl) rfl Z.z0 wC (a7 (cS (js:=[]) (N:=["_law_line",".acc"]) (cap:=[none,none]) (last:=1) (esc:=(a9 uK).names) (XN:=aX8) rfl rfl (by decide +kernel) (by decide) (by decide) rfl (e9 (pu_fn0 qB hr (by decide) rfl)) (λ_ _ _ _ _ _=>(bG 0 (bD (show Nodup (["_law_line",".acc"]:List Str)by decide +kernel) rfl (Or.inl rfl)))) (λ_ _ _ _ _ _=>cR) (λ_ _ _ _ _ _=>(cY kZ hr (aR 0 a8)))) a8)))))))))))
end
local macro_rules| `(tactic| walk_at "b0")=> `(tactic| exact λ_ _ _ _ _ _ us hl=>match us,hl with| [],_=>rfl)
local macro_rules| `(tactic| walk_at "b1")=> `(tactic| exact λ_ _ _ _ _ _ us hl=>match us,hl with| [_],_=>rfl)
local macro_rules| `(tactic| walk_at "b2")=> `(tactic| exact λ_ _ _ _ _ _ us hl=>match us,hl with| [_,_],_=>rfl)
local macro_rules| `(tactic| walk_at "b3")=> `(tactic| exact λ_ _ _ _ _ _ us hl=>match us,hl with| [_,_,_],_=>rfl)
structure FD where
 oc:Value
 od:Option Addr
 kV:Value
 dc:Value
 pm:Value
 an:Option Addr
 cd:Value
 ct:Value
 sl:Array (Option Value)
abbrev gM (K:PySem.W.Frag)(x y:Str)(s:Stmt)(f:Addr):Prop:= ∃d:FD,nsIn K mainGlobals y=some (some (.ref f))/\K.lookup f=some ⟨d.oc,d.od,.func (fnOf x x (mQ s) (bY s) (a9 s) .none d.kV d.dc d.pm d.an d.cd d.ct),d.sl⟩/\codeIn K d.cd x=true/\keepIn K (.ref f)=true
theorem fnAt {K:PySem.W.Frag}{x y:Str}{s:Stmt}{f:Addr}{oc:Value}{od:Option Addr}{kV dc pm:Value}{an:Option Addr}{cd ct:Value}{sl:Array (Option Value)}(a:nsIn K mainGlobals y=some (some (.ref f)))(b:K.lookup f=some ⟨oc,od,.func (fnOf x x (mQ s) (bY s) (a9 s) .none kV dc pm an cd ct),sl⟩)(c:codeIn K cd x=true)(k:keepIn K (.ref f)=true):gM K x y s f:=⟨⟨oc,od,kV,dc,pm,an,cd,ct,sl⟩,a,b,c,k⟩
theorem all_mk {l:PySem.W.OpenLaw}{w:World}{K:PySem.W.Frag}{h:Heap}{mg:Str->Option Value}{fa f1 f2 f3 f4 f5 f6 f7 f8 f9 f10 f11 f12 f13 f14 f15 f16 f17 f18 f19 f20 f21 f22 f23 f24 f25 f26 f27 f28 aO eO mI jH eW jI jJ mJ mK i6 dA jK mL i8 jL mM jM iB mO mP iC:Addr}(X:K.In h)(G:h.Ns mainGlobals mg)(hfa:mg "law"=some (.ref fa))
  {aA9:ClassData} {rT k9 tY:Tok}
  (P1:gM K "read_row" "read_row" cT f1)
  (P2:gM K "read_table" "read_table" bX f2)
  (P3:gM K "read_parts" "read_parts" cK f3)
  (P4:gM K "read_part" "read_part" e6 f4)
  (P5:gM K "is_number" "is_number" eM f5)
  (P6:gM K "_law_cell" "_law_cell" a36 f6)
  (P7:gM K "_law_mixed" "_law_mixed" vQ f7)
  (P8:gM K "_law_draws" "_law_draws" vR f8)
  (P9:gM K "_law_whole" "_law_whole" vS f9)
  (P10:gM K "_law_row" "_law_row" xD f10)
  (P11:gM K "_law_is_table" "_law_is_table" iN f11)
  (P12:gM K "_law_places" "_law_places" sR f12)
  (P13:gM K "_law_square_table" "_law_square_table" eN f13)
  (P14:gM K "_law_few_parts" "_law_few_parts" kS f14)
  (P15:gM K "_law_row_text" "_law_row_text" k7 f15)
  (P16:gM K "_law_table_text" "_law_table_text" gJ f16)
  (P17:gM K "_law_parts_text" "_law_parts_text" gK f17)
  (P18:gM K "_law_is_parts" "_law_is_parts" kT f18)
  (P19:gM K "_law_number_of" "_law_number_of" kU f19)
  (P20:gM K "_law_row_of" "_law_row_of" mF f20)
  (P21:gM K "_law_table_of" "_law_table_of" hW f21)
  (P22:gM K "_law_parts_of" "_law_parts_of" nZ f22)
  (P23:gM K "_law_odd_lines" "_law_odd_lines" kW f23)
  (P24:gM K "_law_sign" "_law_sign" a39 f24)
  (P25:gM K "_law_changed" "_law_changed" qK f25)
  (P26:gM K "_law_read" "_law_read" a41 f26)
  (P27:gM K "_law_well_read" "_law_well_read" kX f27)
  (P28:gM K "law" "law" uK f28)
  (cD:nsIn K mainGlobals "NoText"=some (some (.ref aO)))
  (eQ:nsIn K mainGlobals "RingError"=some (some (.ref eO)))
  (kB:nsIn K mainGlobals "Beyond"=some (some (.ref mI)))
  (i3:nsIn K mainGlobals "Endless"=some (some (.ref jH)))
  (dQ:nsIn K mainGlobals "FallsApart"=some (some (.ref eW)))
  (i4:nsIn K mainGlobals "NoBasic"=some (some (.ref jI)))
  (i5:nsIn K mainGlobals "NoIdeal"=some (some (.ref jJ)))
  (kC:nsIn K mainGlobals "NoLine"=some (some (.ref mJ)))
  (kD:nsIn K mainGlobals "NoName"=some (some (.ref mK)))
  (fN:nsIn K mainGlobals "NoPlaces"=some (some (.ref i6)))
  (cN:nsIn K mainGlobals "NoPolynomial"=some (some (.ref dA)))
  (i7:nsIn K mainGlobals "NoPrime"=some (some (.ref jK)))
  (kE:nsIn K mainGlobals "NoRing"=some (some (.ref mL)))
  (fO:nsIn K mainGlobals "NotApart"=some (some (.ref i8)))
  (i9:nsIn K mainGlobals "NotHeld"=some (some (.ref jL)))
  (kF:nsIn K mainGlobals "NotTwo"=some (some (.ref mM)))
  (iA:nsIn K mainGlobals "NotUnit"=some (some (.ref jM)))
  (fP:nsIn K mainGlobals "NotWhole"=some (some (.ref iB)))
  (kG:nsIn K mainGlobals "Nought"=some (some (.ref mO)))
  (kH:nsIn K mainGlobals "TooFar"=some (some (.ref mP)))
  (fQ:nsIn K mainGlobals "TooGreat"=some (some (.ref iC)))
  (cL:excIn K aO [.type "ValueError",.type "Exception",.type "BaseException",.type "object"] "ValueError.__new__"=true)
  (kY:excIn K eO [.type "ValueError",.type "Exception",.type "BaseException",.type "object"] "ValueError.__new__"=true)
  (qN:PySem.W.clsIn K aO=some aA9)
  (se_NoText:(aA9).mro.contains (.ref aO)=true)
  (kg_NoText:PySem.W.findIn K (.ref aO) "__getattribute__"=some (some (.builtin "BaseException.__getattribute__")))
  (kh_NoText:PySem.W.findIn K (.ref aO) "__getattr__"=some none)
  (ka_NoText:PySem.W.findIn K (.ref aO) "__class__"=some (some (.builtin "object.__class__")))
  (kn_NoText:PySem.W.specialIn K (.builtin "object.__class__") "__get__"=some (some (.builtin "getset_descriptor.__get__")))
  (kt_NoText:PySem.W.takesIn K (.builtin "object.__class__")=some true)
  (km_NoText:PySem.W.mroIn K aO (.type "object")=some true)
  (kb_NoText:PySem.W.mroIn K aO (.type "BaseException")=some true)
  (ki_RingError:kitOne K (.ref aO) (.ref eO)=some true)
  (ki_ValueError:kitOne K (.ref aO) (.type "ValueError")=some true)
  (ki_Beyond_Endless_FallsApart_NoBasic_NoIdeal_NoLine_NoName_NoPlaces:kitAny K (.ref aO) [.ref mI,.ref jH,.ref eW,.ref jI,.ref jJ,.ref mJ,.ref mK,.ref i6]=some false)
  (ki_NoPolynomial_NoPrime_NoRing_NotApart_NotHeld_NotTwo_NotUnit:kitAny K (.ref aO) [.ref dA,.ref jK,.ref mL,.ref i8,.ref jL,.ref mM,.ref jM]=some false)
  (ki_NotWhole_Nought_TooFar_TooGreat:kitAny K (.ref aO) [.ref iB,.ref mO,.ref mP,.ref iC]=some false)
  (aY4:nsIn K mainGlobals "all"=some none)
  (a50:nsIn K mainGlobals "tuple"=some none)
  (aY5:nsIn K mainGlobals "int"=some none)
  (aY6:nsIn K mainGlobals "any"=some none)
  (aY7:nsIn K mainGlobals "len"=some none)
  (a51:nsIn K mainGlobals "range"=some none)
  (oA:nsIn K mainGlobals "isinstance"=some none)
  (aF6:nsIn K mainGlobals "bool"=some none)
  (aY8:nsIn K mainGlobals "max"=some none)
  (aY9:nsIn K mainGlobals "abs"=some none)
  (aZ0:nsIn K mainGlobals "str"=some none)
  (aF7:nsIn K mainGlobals "list"=some none)
  (oB:nsIn K mainGlobals "ValueError"=some none)
  (fM:nsIn K mainGlobals "NO_PARTS"=some (some (.str "one" rT)))
  (cM:nsIn K mainGlobals "MOST_FIGURES"=some (some (.int 60 k9)))
  (hX:nsIn K mainGlobals "FIGURES"=some (some (.str "0123456789" tY))) :
  ∃fd:FuncData,(∀(s:Shared) (v:Value),BindsTo s fd ⟨[v],[]⟩ [("_law_script",v)])/\ ∀base:Heap,K.In base->base.Ns mainGlobals mg->kI l.prog w K mg base CX0 8 fa fd ["_law_script"] (spP K yK):=by
 have h1:=P1.choose_spec;have h2:=P2.choose_spec;have h3:=P3.choose_spec;have h4:=P4.choose_spec;have h5:=P5.choose_spec;have h6:=P6.choose_spec;have h7:=P7.choose_spec;have h8:=P8.choose_spec;have h9:=P9.choose_spec;have h10:=P10.choose_spec;have h11:=P11.choose_spec;have h12:=P12.choose_spec;have h13:=P13.choose_spec;have h14:=P14.choose_spec;have h15:=P15.choose_spec;have h16:=P16.choose_spec
 have h17:=P17.choose_spec;have h18:=P18.choose_spec;have h19:=P19.choose_spec;have h20:=P20.choose_spec;have h21:=P21.choose_spec;have h22:=P22.choose_spec;have h23:=P23.choose_spec;have h24:=P24.choose_spec;have h25:=P25.choose_spec;have h26:=P26.choose_spec;have h27:=P27.choose_spec;have h28:=P28.choose_spec;have e:=hfa.symm.trans (mg_of X G h28.1);cases e
 have Z:Zs mg:=⟨mg_none_of X G aY4,mg_none_of X G a50,mg_none_of X G aY5,mg_none_of X G aY6,mg_none_of X G aY7,mg_none_of X G a51,mg_none_of X G oA,mg_none_of X G aF6,mg_none_of X G aY8,mg_none_of X G aY9,mg_none_of X G aZ0,mg_none_of X G aF7,mg_none_of X G oB⟩;have fM:=mg_of X G fM;have cM:=mg_of X G cM;have hX:=mg_of X G hX;have cD:=mg_of X G cD;have eQ:=mg_of X G eQ;have kB:=mg_of X G kB
 have i3:=mg_of X G i3;have dQ:=mg_of X G dQ;have i4:=mg_of X G i4;have i5:=mg_of X G i5;have kC:=mg_of X G kC;have kD:=mg_of X G kD;have fN:=mg_of X G fN;have cN:=mg_of X G cN;have i7:=mg_of X G i7;have kE:=mg_of X G kE;have fO:=mg_of X G fO;have i9:=mg_of X G i9;have kF:=mg_of X G kF;have iA:=mg_of X G iA;have fP:=mg_of X G fP;have kG:=mg_of X G kG;have kH:=mg_of X G kH;have fQ:=mg_of X G fQ
 have KX_NoText:aD9 K aO:=⟨by rw[qN];rfl,kg_NoText,kh_NoText,ka_NoText,kn_NoText,kt_NoText,km_NoText,kb_NoText⟩
 have U1_NoText:tE K aO aO [.type "ValueError",.type "Exception",.type "BaseException",.type "object"] "ValueError.__new__":=aM2 (.inl cL) qN se_NoText;have U1:=bQ (st:=cT) h1.2.1 h1.2.2.1 h1.2.2.2;have U2:=bQ (st:=bX) h2.2.1 h2.2.2.1 h2.2.2.2;have U3:=bQ (st:=cK) h3.2.1 h3.2.2.1 h3.2.2.2;have U4:=bQ (st:=e6) h4.2.1 h4.2.2.1 h4.2.2.2;have U5:=bQ (st:=eM) h5.2.1 h5.2.2.1 h5.2.2.2
 have U6:=bQ (st:=a36) h6.2.1 h6.2.2.1 h6.2.2.2;have U7:=bQ (st:=vQ) h7.2.1 h7.2.2.1 h7.2.2.2;have U8:=bQ (st:=vR) h8.2.1 h8.2.2.1 h8.2.2.2;have U9:=bQ (st:=vS) h9.2.1 h9.2.2.1 h9.2.2.2;have U10:=bQ (st:=xD) h10.2.1 h10.2.2.1 h10.2.2.2;have U11:=bQ (st:=iN) h11.2.1 h11.2.2.1 h11.2.2.2;have U12:=bQ (st:=sR) h12.2.1 h12.2.2.1 h12.2.2.2;have U13:=bQ (st:=eN) h13.2.1 h13.2.2.1 h13.2.2.2
 have U14:=bQ (st:=kS) h14.2.1 h14.2.2.1 h14.2.2.2;have U15:=bQ (st:=k7) h15.2.1 h15.2.2.1 h15.2.2.2;have U16:=bQ (st:=gJ) h16.2.1 h16.2.2.1 h16.2.2.2;have U17:=bQ (st:=gK) h17.2.1 h17.2.2.1 h17.2.2.2;have U18:=bQ (st:=kT) h18.2.1 h18.2.2.1 h18.2.2.2;have U19:=bQ (st:=kU) h19.2.1 h19.2.2.1 h19.2.2.2;have U20:=bQ (st:=mF) h20.2.1 h20.2.2.1 h20.2.2.2
 have U21:=bQ (st:=hW) h21.2.1 h21.2.2.1 h21.2.2.2;have U22:=bQ (st:=nZ) h22.2.1 h22.2.2.1 h22.2.2.2;have U23:=bQ (st:=kW) h23.2.1 h23.2.2.1 h23.2.2.2;have U24:=bQ (st:=a39) h24.2.1 h24.2.2.1 h24.2.2.2;have U25:=bQ (st:=qK) h25.2.1 h25.2.2.1 h25.2.2.2;have U26:=bQ (st:=a41) h26.2.1 h26.2.2.1 h26.2.2.2;have U27:=bQ (st:=kX) h27.2.1 h27.2.2.1 h27.2.2.2
 have U28:=bQ (st:=uK) h28.2.1 h28.2.2.1 h28.2.2.2;refine⟨fnOf "law" "law" (mQ uK) (bY uK) (a9 uK) .none P28.choose.kV P28.choose.dc P28.choose.pm P28.choose.an P28.choose.cd P28.choose.ct,λs v=> .of_eq rfl,λbase _ _=> ?_⟩
 have d8:iZ l.prog w K mg base:=Fn.mkA U5 (mg_of X G h5.1) (U5.binds (ps:=iX) (by walk_at "b1")) oN tM (λcdv A outer s H E hr=>tW Z cM hX hr) uY
 have e8:FnX l.prog w K mg base "read_row" lJ 2 cJ:=FnX.mk' U1 (mg_of X G h1.1) (U1.binds (ps:=lJ) (by walk_at "b1")) rC uZ (λcdv A outer s H E hr=>v9 Z cD cL d8 hr) wW
 have bZ:FnX l.prog w K mg base "read_table" iV 3 bL:=FnX.mk' U2 (mg_of X G h2.1) (U2.binds (ps:=iV) (by walk_at "b1")) oM sL (λcdv A outer s H E hr=>sZ Z cD cL e8 hr) tO
 have k8:FnX l.prog w K mg base "read_part" jY 4 dW:=FnX.mk' U4 (mg_of X G h4.1) (U4.binds (ps:=jY) (by walk_at "b1")) pW tP (λcdv A outer s H E hr=>tV Z cD cL d8 bZ hr) v7
 have dY:FnX l.prog w K mg base "read_parts" iW 5 bS:=FnX.mk' U3 (mg_of X G h3.1) (U3.binds (ps:=iW) (by walk_at "b1")) v8 sM (λcdv A outer s H E hr=>t4 Z fM k8 hr) tQ
 have kA:a44 l.prog w K mg base:=Fn.mkA U6 (mg_of X G h6.1) (U6.binds (ps:=a37) (by walk_at "b2")) b73 aV6 (λcdv A outer s H E hr=>aY0 Z hr) b59
 have a49:aA7 l.prog w K mg base:=Fn.mkA U7 (mg_of X G h7.1) (U7.binds (ps:=xA) (by walk_at "b3")) xF aM8 (λcdv A outer s H E hr=>aO2 Z hr) aV0
 have iG:sU l.prog w K mg base:=Fn.mkA U8 (mg_of X G h8.1) (U8.binds (ps:=xB) (by walk_at "b3")) mG aM9 (λcdv A outer s H E hr=>aO3 Z a49 hr) aV1
 have qM:xG l.prog w K mg base:=Fn.mkA U9 (mg_of X G h9.1) (U9.binds (ps:=xC) (by walk_at "b1")) aX9 aN0 (λcdv A outer s H E hr=>aO4 Z hr) aV4
 have tZ:a45 l.prog w K mg base:=Fn.mkA U10 (mg_of X G h10.1) (U10.binds (ps:=a38) (by walk_at "b2")) b74 aW8 (λcdv A outer s H E hr=>aY1 Z qM hr) b68
 have fV:o7 l.prog w K mg base:=Fn.mkA U11 (mg_of X G h11.1) (U11.binds (ps:=nR) (by walk_at "b2")) a43 xV (λcdv A outer s H E hr=>y1 Z tZ hr) a30
 have gN:qL l.prog w K mg base:=Fn.mkA U12 (mg_of X G h12.1) (U12.binds (ps:=tR) (by walk_at "b3")) bT aE7 (λcdv A outer s H E hr=>aF2 Z iG hr) aN1
 have d9:j0 l.prog w K mg base:=Fn.mkA U13 (mg_of X G h13.1) (U13.binds (ps:=iY) (by walk_at "b3")) oO tL (λcdv A outer s H E hr=>tX Z gN hr) uW
 have qA:sV l.prog w K mg base:=Fn.mkA U14 (mg_of X G h14.1) (U14.binds (ps:=nS) (by walk_at "b3")) gL xR (λcdv A outer s H E hr=>y2 Z iG kA gN d9 hr) a23
 have hZ:pX l.prog w K mg base:=Fn.mkA U15 (mg_of X G h15.1) (U15.binds (ps:=pT) (by walk_at "b1")) aA6 a20 (λcdv A outer s H E hr=>a46 Z hr) a88
 have eV:lM l.prog w K mg base:=Fn.mkA U16 (mg_of X G h16.1) (U16.binds (ps:=lK) (by walk_at "b1")) xZ wS (λcdv A outer s H E hr=>xI Z hZ hr) xP
 have o9:rE l.prog w K mg base:=Fn.mkA U17 (mg_of X G h17.1) (U17.binds (ps:=lL) (by walk_at "b1")) y0 wT (λcdv A outer s H E hr=>xJ Z eV hr) xQ
 have pZ:sW l.prog w K mg base:=Fn.mkA U18 (mg_of X G h18.1) (U18.binds (ps:=nW) (by walk_at "b2")) sT xW (λcdv A outer s H E hr=>y3 Z qM fV hr) a31
 have fW:o8 l.prog w K mg base:=Fn.mkA U19 (mg_of X G h19.1) (U19.binds (ps:=nX) (by walk_at "b1")) dO xU (λcdv A outer s H E hr=>y4 Z hr) a25
 have mH:tU l.prog w K mg base:=Fn.mkA U20 (mg_of X G h20.1) (U20.binds (ps:=tS) (by walk_at "b1")) zG aE8 (λcdv A outer s H E hr=>aF3 Z fW hr) aN5
 have i0:pY l.prog w K mg base:=Fn.mkA U21 (mg_of X G h21.1) (U21.binds (ps:=pU) (by walk_at "b1")) uL a26 (λcdv A outer s H E hr=>a47 Z mH hr) a96
 have rV:uM l.prog w K mg base:=Fn.mkA U22 (mg_of X G h22.1) (U22.binds (ps:=pV) (by walk_at "b1")) fU a27 (λcdv A outer s H E hr=>a48 Z fW i0 hr) a97
 have qB:sX l.prog w K mg base:=Fn.mkW U23 (mg_of X G h23.1) (U23.binds (ps:=o0) (by walk_at "b0")) o4 xY (λcdv A outer s H E hr=>yA Z hr) a33
 have aF4:aJ9 l.prog w K mg base:=Fn.mkA U24 (mg_of X G h24.1) (U24.binds (ps:=a40) (by walk_at "b1")) aJ8 aX2 (λcdv A outer s H E hr=>aY2 Z hr) b69
 have u0:xH l.prog w K mg base:=Fn.mkA U25 (mg_of X G h25.1) (U25.binds (ps:=rS) (by walk_at "b2")) dP aA1 (λcdv A outer s H E hr=>aA8 Z aF4 hr) aF0
 have aF5:aK0 l.prog w K mg base:=Fn.mkA U26 (mg_of X G h26.1) (U26.binds (ps:=a42) (by walk_at "b2")) eE aW7 (λcdv A outer s H E hr=>aY3 Z cD cL eQ kY kB i3 dQ i4 i5 kC kD fN cN i7 kE fO i9 kF iA fP kG kH fQ KX_NoText U1_NoText ki_RingError ki_ValueError ki_Beyond_Endless_FallsApart_NoBasic_NoIdeal_NoLine_NoName_NoPlaces ki_NoPolynomial_NoPrime_NoRing_NotApart_NotHeld_NotTwo_NotUnit ki_NotWhole_Nought_TooFar_TooGreat e8 bZ dY hr) b67
 have kZ:sY l.prog w K mg base:=Fn.mkA U27 (mg_of X G h27.1) (U27.binds (ps:=o3) (by walk_at "b1")) bO xX (λcdv A outer s H E hr=>yB Z mH i0 rV aF5 tZ fV pZ hr) a32
 exact zW U28 tT b62 (λcdv A outer s H E hr=>⟨a35,b75 Z iG kA hZ gN eV d9 o9 qA u0 kZ qB hr,rd_law⟩)
end M
open PySem PySem.W PyProof.Rows
local macro_rules| `(tactic| walk_at "f")=> `(tactic| (refine' M.fnAt ?x1 ?x2 ?x3 ?x4;(case x1=>k_is);(case x2=>k_is);(case x3=>k_is);(case x4=>k_is)))
namespace PySem.W.Fast
def tw15623064018084860440:=()
def tw16241912621896083956:=()
def tw10196750002927165258:=()
def tw7122923108969547138:=()
def tw14583351656791825886:=()
def tw8239415162838705295:=()
def tw17359842721524165789:=()
def tw182907814954993622:=()
def tw7319525512254503957:=()
def tw8758307544297080374:=()
def tw4705950341215417162:=()
def tw15892451249988966619:=()
def tw7591202805859565160:=()
def tw13378604105648123206:=()
def tw16551832682197157085:=()
def tw1660050903306951140:=()
def tw13462153980025538250:=()
def tw3957648374682095090:=()
def tw8775687817484033300:=()
def tw6432051651083502366:=()
def tw643233644009807583:=()
def tw3923457841195616901:=()
def tw7539374610591641384:=()
def tw5528137268679031786:=()
def tw13867766984878059623:=()
def tw12145817229387978684:=()
def tw5605615153101951786:=()
def tw15534022378640830349:=()
def tw16135067521392454245:=()
def tw658034219646164140:=()
def tw686543570369599713:=()
def tw5234937454623012331:=()
def tw2744960486992583209:=()
def tw6925482711023102061:=()
def tw8064897914612520112:=()
def tw13128507684348096256:=()
def tw5924007654694853038:=()
def tw9690663993224715576:=()
def tw1835869886609426567:=()
def tw111849418815716374:=()
def tw9613904337561119852:=()
def tw3183046869909275326:=()
def tw12054209447995295187:=()
def tw2871874528000033918:=()
def tw2914300350324314324:=()
def tw17491614078066158234:=()
def tw18328988951780947059:=()
def tw16731193579224833653:=()
def tw13068616060239530398:=()
def tw11798227482286165999:=()
def tw468312013422840490:=()
def tw14775142905611688550:=()
def tw17323229682971520756:=()
def tw1182065618269505247:=()
def tw16635272041990095581:=()
def tw15800928321697749193:=()
def tw10408867736066349847:=()
def tw13324290970274757821:=()
def tw7563583468406162436:=()
def tw917157927300321261:=()
def tw2826773116467752382:=()
def tw6235025833774325385:=()
def tw1496904207275078664:=()
def tw15993815040540520635:=()
def tw13045888513449991144:=()
def tw17984608523563453953:=()
def tw7498202932411565044:=()
def tw857242116885970702:=()
def tw4785700842330166899:=()
def tw3276199629502853791:=()
def tw435107833791408395:=()
def tw10137774411631331299:=()
def tw9920902789075066845:=()
def tw2050045097758952894:=()
def tw3967376262501261611:=()
def tw17067566796198482159:=()
def tw4988255387889757162:=()
def tw9267691933007013695:=()
def tw16475381394064377102:=()
def tw4763342235122916679:=()
def tw6595522523074180968:=()
def tw4898884221447552330:=()
def tw6885843212735362497:=()
def tw9772657757357460442:=()
def tw13303112378336771342:=()
def tw15488941275887727610:=()
def tw998268625649920932:=()
def tw13213705103273602552:=()
end PySem.W.Fast
set_option maxRecDepth 100000 in
set_option maxHeartbeats 0 in
theorem PySem.Challenge.cw_ringhouse_k87_read_or_refused_holds : PySem.Challenge.rw_ringhouse_k87_read_or_refused.Holds := by
 w_on;o_law;k_head;(case hw=>w_witness2)
 k_fill
 refine M.walkM (l:=PySem.Challenge.rw_ringhouse_k87_read_or_refused) (k:=8) (x:="_law_script") rfl rfl ⟨rfl,by decide,by decide⟩ (λw h Y=>PySem.W.kIn_of Y) ?F
 case F=>
  intro w mg fa h KX G hmg
  refine' M.all_mk KX G hmg ?P1 ?P2 ?P3 ?P4 ?P5 ?P6 ?P7 ?P8 ?P9 ?P10 ?P11 ?P12 ?P13 ?P14 ?P15 ?P16 ?P17 ?P18 ?P19 ?P20 ?P21 ?P22 ?P23 ?P24 ?P25 ?P26 ?P27 ?P28 ?cD ?eQ ?kB ?i3 ?dQ ?i4 ?i5 ?kC ?kD ?fN ?cN ?i7 ?kE ?fO ?i9 ?kF ?iA ?fP ?kG ?kH ?fQ ?cL ?kY ?qN ?se_NoText ?kg_NoText ?kh_NoText ?ka_NoText ?kn_NoText ?kt_NoText ?km_NoText ?kb_NoText ?ki_RingError ?ki_ValueError ?ki_Beyond_Endless_FallsApart_NoBasic_NoIdeal_NoLine_NoName_NoPlaces ?ki_NoPolynomial_NoPrime_NoRing_NotApart_NotHeld_NotTwo_NotUnit ?ki_NotWhole_Nought_TooFar_TooGreat ?aY4 ?a50 ?aY5 ?aY6 ?aY7 ?a51 ?oA ?aF6 ?aY8 ?aY9 ?aZ0 ?aF7 ?oB ?fM ?cM ?hX
  (case P1|P2|P3|P4|P5|P6|P7|P8|P9|P10|P11|P12|P13|P14|P15|P16|P17|P18|P19|P20|P21|P22|P23|P24|P25|P26|P27|P28=>walk_at "f");(case cD|eQ|kB|i3|dQ|i4|i5|kC|kD|fN|cN|i7|kE|fO|i9|kF|iA|fP|kG|kH|fQ|qN|kg_NoText|kh_NoText|ka_NoText|kn_NoText|kt_NoText|km_NoText|kb_NoText|aY4|a50|aY5|aY6|aY7|a51|oA|aF6|aY8|aY9|aZ0|aF7|oB|fM|cM|hX=>k_is);(case cL|kY=>k_exc);(case se_NoText=>first|kernel_rfl|rfl|decide);(case ki_RingError|ki_ValueError|ki_Beyond_Endless_FallsApart_NoBasic_NoIdeal_NoLine_NoName_NoPlaces|ki_NoPolynomial_NoPrime_NoRing_NotApart_NotHeld_NotTwo_NotUnit|ki_NotWhole_Nought_TooFar_TooGreat=>first|k_is|kernel_rfl|rfl)
