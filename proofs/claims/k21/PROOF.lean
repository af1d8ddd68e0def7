import PyProof.Rows.All
import Wide.All
import OpenK.AllK
import Wide.FinOn
import Lean
import PyProof.EqAt
import PyProof.EqKinds
import PyProof.TupleCall
import PySem.Challenge.RW_ringhouse_k21_norms
set_option Elab.async false
set_option linter.all false
set_option maxRecDepth 100000
namespace L2
open PySem PySem.Spec PyProof.Rows
abbrev Key:=Sum Int Str
def cE5:Key→Value→Bool
 | .inl k,v=>Value.isInt k v
 | .inr x,v=>Value.isStrOf x v
def keyH (w:World):Key→Int
 | .inl k=>hashInt k
 | .inr x=>hashStr w x
theorem fQ: ∀{k:Key} {v:Value},cE5 k v=true→(∃i t,k=Sum.inl i∧v=Value.int i t)∨(∃x t,k=Sum.inr x∧v=Value.str x t)
 | .inl i,v,h=>by
  obtain⟨t,e⟩:=Value.isInt_shape (k:=i) (v:=v) h
  exact .inl ⟨i,t,rfl,e⟩
 | .inr x,v,h=>by
  obtain⟨t,e⟩:=Value.isStrOf_shape (x:=x) (v:=v) h
  exact .inr ⟨x,t,rfl,e⟩
theorem key_ll (a b:Int):decide ((Sum.inl a:Key)=Sum.inl b)=(a==b):=by
 by_cases e:a=b
 ·subst e;simp
 ·have h: ¬(Sum.inl a:Key)=Sum.inl b:=fun q=>e (Sum.inl.inj q)
  rw[decide_eq_false h]
  exact(beq_eq_false_iff_ne.mpr e).symm
theorem key_rr (a b:Str):decide ((Sum.inr a:Key)=Sum.inr b)=decide (a=b):=by
 by_cases e:a=b
 ·subst e;simp
 ·have h: ¬(Sum.inr a:Key)=Sum.inr b:=fun q=>e (Sum.inr.inj q)
  rw[decide_eq_false h,decide_eq_false e]
theorem key_lr (a:Int)(b:Str):decide ((Sum.inl a:Key)=Sum.inr b)=false:=decide_eq_false (fun q=>nomatch q)
theorem key_rl (a:Str)(b:Int):decide ((Sum.inr a:Key)=Sum.inl b)=false:=decide_eq_false (fun q=>nomatch q)
def bA6 (prog:Program)(w:World):PySem.KeyKind prog w Key where
 is:=cE5
 hash:=keyH w
 inj:=fun v a b ha hb=>by
  rcases fQ ha with⟨i,t,rfl,rfl⟩| ⟨x,t,rfl,rfl⟩
  ·rcases fQ hb with⟨j,u,rfl,e⟩| ⟨y,u,rfl,e⟩
   ·injection e with e1 _;rw[e1]
   ·exact nomatch e
  ·rcases fQ hb with⟨j,u,rfl,e⟩| ⟨y,u,rfl,e⟩
   ·exact nomatch e
   ·injection e with e1 _;rw[e1]
 byValue:=fun k v h=>by
  rcases fQ h with⟨i,t,rfl,rfl⟩| ⟨x,t,rfl,rfl⟩<;>rfl
 pyHash:=fun hv h=>by
  rcases fQ hv with⟨i,t,rfl,rfl⟩| ⟨x,t,rfl,rfl⟩
  ·exact wpAny_pyHash_int h
  ·exact wpAny_pyHash_str h
 eqBool:=fun hu hv h=>by
  rcases fQ hu with⟨i,t,rfl,rfl⟩| ⟨x,t,rfl,rfl⟩
  ·rcases fQ hv with⟨j,u,rfl,rfl⟩| ⟨y,u,rfl,rfl⟩
   ·rw[key_ll]at h;exact wpAny_eqBool_int h
   ·rw[key_lr]at h;exact SeqAt.EqAt.int_str i t y u _ _ _ _ h
  ·rcases fQ hv with⟨j,u,rfl,rfl⟩| ⟨y,u,rfl,rfl⟩
   ·rw[key_rl]at h;exact SeqAt.EqAt.str_int x t j u _ _ _ _ h
   ·rw[key_rr]at h;exact wpAny_eqBool_str h
 «strs» :=fun k x t v h=>by
  rcases fQ h with⟨i,u,rfl,e⟩| ⟨y,u,rfl,e⟩
  ·exact nomatch e
  ·injection e with e1 _
   subst e1
   cases v<;>rfl
end L2
namespace L2
open PySem PySem.Spec PyProof.Rows
inductive V where
 | non|bl (b:Bool)|int (i:Int)|str (x:Str)|byt (b:Array UInt8)|flt (b:UInt64)|ref (a:Addr)|ty (n:String)
 deriving DecidableEq
def RelV:V→Value→Prop
 | .non,u=>u=Value.none
 | .bl b,u=>u=Value.bool b
 | .int i,u=> ∃t,u=Value.int i t
 | .str x,u=> ∃t,u=Value.str x t
 | .byt b,u=> ∃t,u=Value.bytes b t
 | .flt b,u=> ∃t,u=Value.float b t
 | .ref a,u=>u=Value.ref a
 | .ty n,u=>u=Value.type n
abbrev Vals:List V→List Value→Prop:=Paired RelV
theorem Vals.length {xs:List V}{us:List Value}(r:Vals xs us):xs.length=us.length:=Paired.length r
theorem Vals.get: ∀{xs:List V} {us:List Value} {i:Nat} {x:V},Vals xs us→xs[i]? =some x→ ∃u,us[i]? =some u∧RelV x u
 | _,_,_,_,.nil,e=>by simp at e
 | _,_,0,_,.cons r _,e=>by simp at e;subst e;exact⟨_,rfl,r⟩
 | _,_,i+1,x,.cons _ t,e=>by
  obtain⟨u,h1,h2⟩:=Vals.get (i:=i) (x:=x) t (by simpa using e)
  exact⟨u,by simpa using h1,h2⟩
theorem Vals.set {x:V}{u:Value}(r:RelV x u): ∀{xs:List V} {us:List Value} (i:Nat),Vals xs us→Vals (xs.set i x) (us.set i u)
 | _,_,_,.nil=> .nil
 | _,_,0,.cons _ t=> .cons r t
 | _,_,i+1,.cons q t=> .cons q (Vals.set r i t)
theorem Vals.append: ∀{xs ys:List V} {us ws:List Value},Vals xs us→Vals ys ws→Vals (xs++ys) (us++ws)
 | _,_,_,_,.nil,s=>s
 | _,_,_,_,.cons r t,s=> .cons r (Vals.append t s)
theorem Vals.take: ∀{xs:List V} {us:List Value} (n:Nat),Vals xs us→Vals (xs.take n) (us.take n)
 | _,_,0,_=> .nil
 | _,_,_+1,.nil=> .nil
 | _,_,n+1,.cons r t=> .cons r (Vals.take n t)
theorem Vals.drop: ∀{xs:List V} {us:List Value} (n:Nat),Vals xs us→Vals (xs.drop n) (us.drop n)
 | _,_,0,r=>r
 | _,_,_+1,.nil=> .nil
 | _,_,n+1,.cons _ t=>Vals.drop n t
theorem Vals.none_of: ∀{xs:List V} {us:List Value} {i:Nat},Vals xs us→xs[i]? =none→us[i]? =none:=fun {xs us i} r e=>by
 have h1:=r.length
 have h2:xs.length≤i:=List.getElem?_eq_none_iff.mp e
 exact List.getElem?_eq_none_iff.mpr (by omega)
def aO3:Option V→Option Value→Prop
 | some v,some u=>RelV v u
 | none,none=>True
 | _,_=>False
def KV {κ:Type}:List (κ×V)→List (κ×Value)→Prop:=Paired fun(p:κ×V) (q:κ×Value)=>p.1=q.1∧RelV p.2 q.2
def kV:Key→V
 | .inl i=> .int i
 | .inr x=> .str x
inductive HO where
 | lst (xs:List V)
 | tup (xs:List V)
 | dK (kvs:List (Key×V))|dT (kvs:List (List Key×V))
 | set (S:Int→Bool) (n:Nat)
 | ins (C dx:Addr) (fs:List (Str×V))
 | own (x:Addr)
 | xd (fs:List (Str×V))
 | met (f x:Addr)
 | rng (lo hi:Int)
 | frz (o:Obj) (u:HO)
 | tbl (ps:Array Value)
 | ext (φ:Heap→Prop)
abbrev Hp:=Addr→Option HO
def upd (H:Hp)(a:Addr)(o:HO):Hp:=fun b=>if b=a then some o else H b
theorem hJ {H:Hp}{a:Addr}{o:HO}:upd H a o a=some o:=by unfold upd;rw[if_pos rfl]
theorem cB {H:Hp}{a b:Addr}{o:HO}(h:b≠a):upd H a o b=H b:=by unfold upd;rw[if_neg h]
theorem dF {H:Hp}{a b:Addr}{o:HO}(h:H a=some o)(h':H b=none):a≠b:=by
 intro e;subst e;rw[h]at h';cases h'
section
variable (P:Program)(w:World)
def mI (H:Hp)(h:Heap)(a:Addr):HO→Prop
 | .lst xs=>xs.length≤sizeLine∧ ∃(its:List Value) (n:Nat),Vals xs its∧h.get? a=some {cls:= .type "list",data:= .seq its.toArray n}
 | .tup xs=>xs.length≤sizeLine∧ ∃its:List Value,Vals xs its∧IsTup h a its.toArray
 | .dK kvs=>kvs.length≤sizeLine∧(a==sysModules)=false∧ ∃vs,KV kvs vs∧h.DictOf (bA6 P w) a vs
 | .dT kvs=>kvs.length≤sizeLine∧(a==sysModules)=false∧ ∃xs:List (List Key×Addr×Value),
   Paired (fun(p:List Key×V) (q:List Key×Addr×Value)=>p.1=q.1∧H q.2.1=some (.tup (p.1.map kV))∧RelV p.2 q.2.2) kvs xs∧
   ∃o es ep,h.get? a=some o∧o.ExactDict∧o.data= .dict es ep∧es.toList=xs.map (entryOfKey (tupleKind (bA6 P w)))∧(xs.map (·.1)).Nodup
 | .set S n=>h.SetOf (intKind P w) a S n
 | .ins C dx fs=>H dx=some (.own a)∧fs.length≤1000∧dx≠a∧h.get? a=some (PySem.W.instObj C dx)∧
   ∃mA,h.Ns1 dx mA∧(∀f,aO3 (fs.lookup f) (mA f))∧PySem.Within mA (fs.map (·.1))
 | .own _=> ∃o,h.get? a=some o
 | .xd fs=> ∃mA,h.Ns1 a mA∧ ∀f,aO3 (fs.lookup f) (mA f)
 | .rng lo hi=> ∃t u v,h.get? a=some {cls:= .type "range",data:= .fields #[.int lo t,.int hi u,.int 1 v]}
 | .frz o u=>h.get? a=some o∧mI H h a u
 | .tbl ps=>h.get? a=some {cls:= .none,data:= .fields ps}
 | .met f x=>h.get? a=some (PySem.W.methodObj (.ref f) (.ref x))
 | .ext φ=>φ h∧(∃o,h.get? a=some o)∧ ∀h1 h2:Heap,φ h1→(∀o,h1.get? a=some o→h2.get? a=some o)→φ h2
def HOk (H:Hp)(h:Heap):Prop:= ∀a o,H a=some o→mI P w H h a o
end
section
variable {P:Program}{w:World}{H H':Hp}{h h':Heap}{a:Addr}{o:HO}
theorem mI.lt (x:mI P w H h a o):a<h.objs.size:=by
 cases o with
 | lst xs=>obtain⟨_,_,_,_,e⟩:=x;exact Heap.lt_size e
 | tup xs=>obtain⟨_,_,_,p⟩:=x;exact p.lt
 | dK kvs=>obtain⟨_,_,_,_,o,_,_,e,_⟩:=x;exact Heap.lt_size e
 | dT kvs=>obtain⟨_,_,_,_,o,_,_,e,_⟩:=x;exact Heap.lt_size e
 | set S n=>obtain⟨o,_,_,_,e,_⟩:=x;exact Heap.lt_size e
 | ins C dx fs=>obtain⟨_,_,_,e,_⟩:=x;exact Heap.lt_size e
 | own y=>obtain⟨_,e⟩:=x;exact Heap.lt_size e
 | xd fs=>obtain⟨_,⟨_,_,_,e,_⟩,_⟩:=x;exact Heap.lt_size e
 | rng lo hi=>obtain⟨_,_,_,e⟩:=x;exact Heap.lt_size e
 | frz ob u=>obtain⟨e,_⟩:=x;exact Heap.lt_size e
 | tbl ps=>exact Heap.lt_size (show h.get? a=some _ from x)
 | met f y=>exact Heap.lt_size (show h.get? a=some _ from x)
 | ext φ=>obtain⟨_,⟨_,e⟩,_⟩:=x;exact Heap.lt_size e
theorem Paired.mapP {α β:Type}{F G:α→β→Prop}: ∀{l₁:List α} {l₂:List β},Paired F l₁ l₂→(∀a b,F a b→G a b)→Paired G l₁ l₂
 | _,_,.nil,_=> .nil
 | _,_,.cons r t,f=> .cons (f _ _ r) (Paired.mapP t f)
theorem mI.stay (x:mI P w H h a o)(k: ∀b u,(b=a∨H b=some (.own a))→h.get? b=some u→h'.get? b=some u)
  (ho: ∀b,H b=some (.own a)→H' b=some (.own a)) (ht: ∀b xs,H b=some (.tup xs)→H' b=some (.tup xs)):mI P w H' h' a o:=by
 induction o with
 | lst xs=>obtain⟨z,its,n,r,e⟩:=x;exact⟨z,its,n,r,k _ _ (.inl rfl) e⟩
 | tup xs=>obtain⟨z,its,r,ob,e,c⟩:=x;exact⟨z,its,r,ob,k _ _ (.inl rfl) e,c⟩
 | dK kvs=>obtain⟨z,y,vs,r,ob,es,ep,e,c⟩:=x;exact⟨z,y,vs,r,ob,es,ep,k _ _ (.inl rfl) e,c⟩
 | dT kvs=>
  obtain⟨z,y,xs,r,ob,es,ep,e,c⟩:=x
  exact⟨z,y,xs,Paired.mapP r fun p q z=>⟨z.1,ht _ _ z.2.1,z.2.2⟩,ob,es,ep,k _ _ (.inl rfl) e,c⟩
 | set S n=>obtain⟨ob,es,ep,t,e,c⟩:=x;exact⟨ob,es,ep,t,k _ _ (.inl rfl) e,c⟩
 | ins C dx fs=>
  obtain⟨d,z,ne,e,mA,⟨od,es,ep,e2,c⟩,r⟩:=x
  exact⟨ho _ d,z,ne,k _ _ (.inl rfl) e,mA,⟨od,es,ep,k _ _ (.inr d) e2,c⟩,r⟩
 | own y=>obtain⟨ob,e⟩:=x;exact⟨ob,k _ _ (.inl rfl) e⟩
 | xd fs=>obtain⟨mA,⟨od,es,ep,e,c⟩,r⟩:=x;exact⟨mA,⟨od,es,ep,k _ _ (.inl rfl) e,c⟩,r⟩
 | rng lo hi=>obtain⟨t,u,v,e⟩:=x;exact⟨t,u,v,k _ _ (.inl rfl) e⟩
 | frz ob u ih=>obtain⟨e,q⟩:=x;exact⟨k _ _ (.inl rfl) e,ih q⟩
 | tbl ps=>
  have e:h.get? a=some {cls:= .none,data:= .fields ps}:=x
  show h'.get? a=some {cls:= .none,data:= .fields ps}
  exact k a _ (.inl rfl) e
 | met f y=>
  have e:h.get? a=some (PySem.W.methodObj (.ref f) (.ref y)):=x
  show h'.get? a=some (PySem.W.methodObj (.ref f) (.ref y))
  exact k a _ (.inl rfl) e
 | ext φ=>obtain⟨p,⟨o,e⟩,st⟩:=x;exact⟨st _ _ p fun o q=>k _ _ (.inl rfl) q,⟨o,k _ _ (.inl rfl) e⟩,st⟩
theorem HOk.lt (x:HOk P w H h)(e:H a=some o):a<h.objs.size:=(x a o e).lt
theorem HOk.fresh (x:HOk P w H h)(e:h.objs.size≤a):H a=none:=by
 cases q:H a with
 | none=>rfl
 | some u=>exact absurd (Nat.lt_of_lt_of_le (x.lt q) e) (Nat.lt_irrefl _)
theorem HOk.kept (x:HOk P w H h)(k: ∀b u,h.get? b=some u→h'.get? b=some u):HOk P w H h':=fun a o e=>
 (x a o e).stay (fun b u _ q=>k b u q) (fun _ q=>q) fun _ _ q=>q
theorem HOk.laid (x:HOk P w H h)(k: ∀b u,h.get? b=some u→h'.get? b=some u)(hp:h.objs.size≤a)(new:mI P w (upd H a o) h' a o):HOk P w (upd H a o) h':=fun b u e=>by
 have hn:=x.fresh hp
 by_cases hb:b=a
 ·subst hb;rw[hJ]at e;cases e;exact new
 ·rw[cB hb]at e
  exact(x b u e).stay (fun c v _ q=>k c v q) (fun c q=>by rw[cB (dF q hn)];exact q) fun c xs q=>by rw[cB (dF q hn)];exact q
end
def Rd (H:Hp)(a:Addr)(u:HO):Prop:=H a=some u∨ ∃o,H a=some (.frz o u)
theorem Rd.of {H:Hp}{a:Addr}{u:HO}(h:H a=some u):Rd H a u:= .inl h
theorem Rd.ok {P:Program}{w:World}{H:Hp}{h:Heap}{a:Addr}{u:HO}(r:Rd H a u)(x:HOk P w H h):mI P w H h a u:=by
 rcases r with r| ⟨o,r⟩
 ·exact x a u r
 ·obtain⟨_,q⟩:=x a _ r
  exact q
def Mut:Option HO→Prop
 | some (.lst _)=>True
 | some (.dK _)=>True
 | some (.dT _)=>True
 | some (.set _ _)=>True
 | some (.ins _ _ _)=>True
 | some (.ext _)=>True
 | _=>False
section
variable {P:Program}{w:World}{H:Hp}{h h':Heap}{x e:Addr}{o':HO}
theorem HOk.write (ok:HOk P w H h)(mu:Mut (H x))(he:e=x∨H e=some (.own x))(k: ∀b u,b≠e→h.get? b=some u→h'.get? b=some u)(heo: ∃u,h'.get? e=some u)
  (new:mI P w (upd H x o') h' x o'):HOk P w (upd H x o') h':=fun b u q=>by
 have nown: ∀c y,H c=some (.own y)→c≠x:=fun c y r z=>by subst z;rw[r]at mu;exact mu
 have ntup: ∀c xs,H c=some (.tup xs)→c≠x:=fun c xs r z=>by subst z;rw[r]at mu;exact mu
 by_cases hb:b=x
 ·subst hb;rw[hJ]at q;cases q;exact new
 ·rw[cB hb]at q
  by_cases hbe:b=e
  ·have q':H b=some (.own x):=by
    rcases he with z|z
    ·exact absurd (hbe.trans z) hb
    ·rw[hbe];exact z
   rw[q]at q';cases q'
   obtain⟨v,hv⟩:=heo
   exact⟨v,by rw[hbe];exact hv⟩
  ·refine(ok b u q).stay (fun c v hc r=>k c v ?_ r) (fun c r=>by rw[cB (nown c b r)];exact r) fun c xs r=>by rw[cB (ntup c xs r)];exact r
   rcases hc with rfl|hc
   ·exact hbe
   ·rintro rfl
    rcases he with z|z
    ·exact nown c b hc z
    ·rw[hc]at z;cases z;exact hb rfl
end
structure Un (fs ex:List Addr)(H H':Hp)(h h':Heap):Prop where
 keep: ∀b o,h.get? b=some o→H b=none→b ∉ fs→b ∉ ex→h'.get? b=some o
 slot: ∀b o,h.get? b=some o→H b=none→b∈fs→b ∉ ex→ ∃sl,h'.get? b=some {o with slots:=sl}
 free: ∀b o,h.get? b=some o→H b=none→b ∉ ex→H' b=none
 there: ∀b o,h.get? b=some o→b ∉ ex→ ∃o',h'.get? b=some o'
 tups: ∀b xs,H b=some (.tup xs)→H' b=some (.tup xs)
 frzs: ∀b o u,H b=some (.frz o u)→H' b=some (.frz o u)
 tbls: ∀b ps,H b=some (.tbl ps)→ ∃more,H' b=some (.tbl (ps++more))
section
variable {fs fs' ex ex':List Addr}{H H1 H2:Hp}{h h1 h2 h':Heap}{a x e:Addr}{o:HO}
theorem Un.any (u:Un fs ex H H1 h h1){b:Addr}{ob:Obj}(q:h.get? b=some ob)(n:H b=none)(hx:b ∉ ex): ∃sl,h1.get? b=some {ob with slots:=sl}:=by
 by_cases hb:b∈fs
 ·exact u.slot b ob q n hb hx
 ·exact⟨ob.slots,u.keep b ob q n hb hx⟩
theorem Un.trans (a:Un fs ex H H1 h h1)(b:Un fs ex H1 H2 h1 h2):Un fs ex H H2 h h2 where
 keep:=fun c ob q n hc hx=>b.keep c ob (a.keep c ob q n hc hx) (a.free c ob q n hx) hc hx
 slot:=fun c ob q n hc hx=>by
  obtain⟨sl,e1⟩:=a.slot c ob q n hc hx
  obtain⟨sl',e2⟩:=b.slot c _ e1 (a.free c ob q n hx) hc hx
  exact⟨sl',e2⟩
 free:=fun c ob q n hx=>by
  obtain⟨o',e1⟩:=a.there c ob q hx
  exact b.free c o' e1 (a.free c ob q n hx) hx
 there:=fun c ob q hx=>by
  obtain⟨o',e1⟩:=a.there c ob q hx
  exact b.there c o' e1 hx
 tups:=fun c xs q=>b.tups c xs (a.tups c xs q)
 frzs:=fun c ob xs q=>b.frzs c ob xs (a.frzs c ob xs q)
 tbls:=fun c ps q=>by
  obtain⟨m1,e1⟩:=a.tbls c ps q
  obtain⟨m2,e2⟩:=b.tbls c _ e1
  exact⟨m1++m2,by rw[e2,Array.append_assoc]⟩
theorem Un.kept (k: ∀b u,h.get? b=some u→h'.get? b=some u):Un fs ex H H h h':=
 ⟨fun b ob q _ _ _=>k b ob q,fun b ob q _ _ _=>⟨ob.slots,k b ob q⟩,fun _ _ _ n _=>n,fun b ob q _=>⟨ob,k b ob q⟩,fun _ _ q=>q,fun _ _ _ q=>q,fun _ ps q=>⟨#[],by rw[q];simp⟩⟩
theorem Un.refl:Un fs ex H H h h:=Un.kept fun _ _ q=>q
theorem Un.laid (k: ∀b u,h.get? b=some u→h'.get? b=some u)(hp:h.objs.size≤a)(hn:H a=none):Un fs ex H (upd H a o) h h' where
 keep:=fun b u q _ _ _=>k b u q
 slot:=fun b u q _ _ _=>⟨u.slots,k b u q⟩
 free:=fun b u q n _=>by rw[cB (Nat.ne_of_lt (Nat.lt_of_lt_of_le (Heap.lt_size q) hp))];exact n
 there:=fun b u q _=>⟨u,k b u q⟩
 tups:=fun b xs q=>by rw[cB (dF q hn)];exact q
 frzs:=fun b u xs q=>by rw[cB (dF q hn)];exact q
 tbls:=fun b ps q=>⟨#[],by rw[cB (dF q hn),q];simp⟩
theorem Un.write (mu:Mut (H x))(he:e=x∨H e=some (.own x))(k: ∀b u,b≠e→h.get? b=some u→h'.get? b=some u)(heo: ∃u,h'.get? e=some u):Un fs ex H (upd H x o) h h':=by
 have hx: ∀b,H b=none→b≠x:=fun b n z=>by subst z;rw[n]at mu;exact mu
 have hb: ∀b,H b=none→b≠e:=fun b n z=>by
  subst z
  rcases he with r|r
  ·exact hx b n r
  ·rw[n]at r;cases r
 have hm: ∀b u,H b=some u→ ¬Mut (some u)→b≠x:=fun b u q nm z=>by subst z;rw[q]at mu;exact nm mu
 refine⟨fun b u q n _ _=>k b u (hb b n) q,fun b u q n _ _=>⟨u.slots,k b u (hb b n) q⟩,fun b u q n _=>by rw[cB (hx b n)];exact n,fun b u q _=> ?_,
  fun b xs q=>by rw[cB (hm b _ q fun z=>z)];exact q,fun b u xs q=>by rw[cB (hm b _ q fun z=>z)];exact q,fun b ps q=>⟨#[],by rw[cB (hm b _ q fun z=>z),q];simp⟩⟩
 by_cases hbe:b=e
 ·subst hbe;exact heo
 ·exact⟨u,k b u hbe q⟩
theorem Un.mono (u:Un fs ex H H1 h h1)(hs: ∀b∈fs,b∈fs')(hx: ∀b∈ex,b∈ex'):Un fs' ex' H H1 h h1:=
 ⟨fun b ob q n hb he=>u.keep b ob q n (fun z=>hb (hs b z)) fun z=>he (hx b z),fun _ _ q n _ he=>u.any q n fun z=>he (hx _ z),fun b ob q n he=>u.free b ob q n fun z=>he (hx b z),fun b ob q he=>u.there b ob q fun z=>he (hx b z),u.tups,u.frzs,u.tbls⟩
end
def trk (h:Heap)(H:Hp):List Addr:=(List.range h.objs.size).filter fun a=>(H a).isSome
def aO4 (h:Heap)(H:Hp):Heap:=PySem.W.hideAll h (trk h H)
theorem bF7 (h:Heap)(H:Hp):(aO4 h H).objs.size=h.objs.size:=PySem.W.hideAll_size _ _
theorem bM9 {h:Heap}{H:Hp}{b:Addr}{o:Obj}(e:h.get? b=some o)(n:H b=none):(aO4 h H).get? b=some o:=
 PySem.W.hideAll_get _ e fun hm=>by
  have q:(H b).isSome=true:=(List.mem_filter.mp hm).2
  rw[n]at q;simp at q
theorem c01 {h:Heap}{H:Hp}{b:Addr}{o:Obj}(e:(aO4 h H).get? b=some o):h.get? b=some o∧H b=none:=by
 have e':h.get? b=some o:=PySem.W.of_hideAll (trk h H) e
 refine⟨e',?_⟩
 cases q:H b with
 | none=>rfl
 | some x=>
  have hm:b∈trk h H:=List.mem_filter.mpr ⟨List.mem_range.mpr (Heap.lt_size e'),by simp[q]⟩
  have z:(aO4 h H).get? b=none:=PySem.W.hideAll_none (trk h H) hm
  rw[z]at e;cases e
def c02 (g h:Heap)(L:Addr):List (Addr×Obj):=(List.range h.objs.size).filterMap fun a=>if a=L∨(g.get? a).isSome=true then none else(h.get? a).map fun o=>(a,o)
def oU (g h:Heap)(L d:Addr):List (Addr×Obj):=(c02 g h L).filter fun p=>decide (p.1≠d)
end L2
namespace L2
open PySem PySem.Spec PyProof.Rows
structure Mod (K:PySem.W.Frag)(mg:Str→Option Value)(base:Heap):Prop where
 kin:K.In base
 glob:base.Ns mainGlobals mg
 blt: ∃mb,base.Ns builtinsNs mb∧ ∀x:Str,x≠"__name__"→mb x=bootBuiltins x
 nolimit:base.NoLimit
structure Cx where
 prog:Program
 w:World
 K:PySem.W.Frag
 mg:Str→Option Value
 base:Heap
 A:Around
 N:List Str
 s₀:Shared
 H₀:Hp
 env:Env
 outer:List Env
 stack:List Env
 ex:List Addr
 fn:Str→Bool
 calm:Bool
 pn:List (Addr×Obj)
 xe:Value→Shared→Prop
def frs (l:List Env):List Addr:=l.filterMap (·.frame)
abbrev Cx.fs (X:Cx):List Addr:=frs X.outer
def Vis (sc:Scope)(x:Str):Prop:=sc.names.lookup x=some .local∨sc.names.lookup x=some .cell∨sc.names.lookup x=some .free
def Loc (sc:Scope)(x:Str):Prop:=sc.names.lookup x=some .local∨sc.names.lookup x=some .cell
def Look (env:Env)(h:Heap)(m:Str→Option Value)(x:Str)(u:Value):Prop:=
 (env.kindOf x=some .local∧m x=some u)∨((env.kindOf x=some .cell∨env.kindOf x=some .free)∧ ∃c,env.cells.lookup x=some c∧h.IsCell c (some u))
structure Cx.Ok (X:Cx):Prop where
 mod:Mod X.K X.mg X.base
 kind:X.env.scope.kind= .function
 glob:X.env.globals=mainGlobals
 blt:X.env.builtins=builtinsNs
 above:X.s₀.heap.objs.size≤X.env.locals
 inj: ∀x y c,X.env.cells.lookup x=some c→X.env.cells.lookup y=some c→x=y
 has: ∀x,(X.env.kindOf x=some .cell∨X.env.kindOf x=some .free)→ ∃c,X.env.cells.lookup x=some c
 cab: ∀x c,X.fn x=true→X.env.cells.lookup x=some c→X.s₀.heap.objs.size≤c
 hd:X.calm=true→X.A.handled=none
 frames:X.A.frames=some X.stack
 stk:X.stack=X.outer∨(X.stack=X.env::X.outer∧X.env.frame=some X.env.locals)
 exf: ∀b∈X.ex,b≠X.env.locals∧ ∀x c,X.env.cells.lookup x=some c→c≠b
 bs: ∀b o,X.base.get? b=some o→X.s₀.heap.get? b=some o∧X.H₀ b=none
 bsz:X.base.objs.size≤X.s₀.heap.objs.size
 noex: ∀b o,X.base.get? b=some o→b ∉ X.ex
 exfs: ∀b∈X.ex,b ∉ X.fs
 funs:X.s₀.heap.FunFrames X.base X.outer
 frf: ∀b∈X.fs,X.H₀ b=none
structure Inv (X:Cx)(pins:List (Addr×Obj))(σ:List (Option V))(H:Hp)(s:Shared):Prop where
 ok:X.Ok
 os:s.os=X.s₀.os
 bare:AllBare s.gens
 base:Un X.fs X.ex X.H₀ H X.s₀.heap s.heap
 loc: ∃m,s.heap.Ns X.env.locals m∧ ∀(i:Nat) (x:Str) (v:V),X.N[i]? =some x→σ[i]? =some (some v)→Vis X.env.scope x→ ∃u,RelV v u∧Look X.env s.heap m x u
 cell: ∀x c,X.env.cells.lookup x=some c→ ∃v,s.heap.IsCell c v
 free:H X.env.locals=none
 freeC: ∀x c,X.env.cells.lookup x=some c→H c=none
 pin: ∀p∈X.pn++pins,s.heap.get? p.1=some p.2∧H p.1=none∧p.1≠X.env.locals∧p.1 ∉ X.fs∧ ∀v,p.2.data≠ .cell v
 hok:HOk X.prog X.w H s.heap
 len:σ.length=X.N.length
section
variable {X:Cx}{pins:List (Addr×Obj)}{σ:List (Option V)}{H H':Hp}{s:Shared}{h':Heap}
theorem Cx.Ok.nofr (ok:X.Ok){b:Addr}{o:Obj}(e:X.base.get? b=some o):b ∉ X.fs:=fun hb=>by
 have:=(ok.funs.mem hb).1
 rw[e]at this;cases this
theorem Inv.bs (I:Inv X pins σ H s): ∀b o,X.base.get? b=some o→s.heap.get? b=some o∧H b=none:=fun b o e=>
 ⟨I.base.keep b o (I.ok.bs b o e).1 (I.ok.bs b o e).2 (I.ok.nofr e) (I.ok.noex b o e),I.base.free b o (I.ok.bs b o e).1 (I.ok.bs b o e).2 (I.ok.noex b o e)⟩
theorem Inv.bk (I:Inv X pins σ H s): ∀b o,X.base.get? b=some o→s.heap.get? b=some o:=fun b o e=>(I.bs b o e).1
theorem Inv.mod (I:Inv X pins σ H s):Mod X.K X.mg X.base:=I.ok.mod
theorem Inv.kIn (I:Inv X pins σ H s):X.K.In s.heap:=I.ok.mod.kin.keeps I.bk
theorem Inv.nolimit (I:Inv X pins σ H s):s.heap.NoLimit:=I.ok.mod.nolimit.keeps I.bk
theorem Inv.fr (I:Inv X pins σ H s): ∃m,Fr X.base X.env.locals s.heap m:=
 let ⟨m,hn,_⟩:=I.loc
 ⟨m,hn,I.bk,Nat.le_trans I.ok.bsz I.ok.above⟩
theorem Inv.lt (I:Inv X pins σ H s):X.env.locals<s.heap.objs.size:=let ⟨_,hn,_⟩:=I.loc;hn.lt
theorem Inv.sz (I:Inv X pins σ H s):X.s₀.heap.objs.size≤s.heap.objs.size:=Nat.le_trans I.ok.above (Nat.le_of_lt I.lt)
theorem Inv.nofs (I:Inv X pins σ H s){a:Addr}(h:s.heap.objs.size≤a):a ∉ X.fs:=fun hb=>by
 obtain⟨_,o,ho,_⟩:=I.ok.funs.mem hb
 exact absurd (Nat.lt_of_lt_of_le (Heap.lt_size ho) (Nat.le_trans I.sz h)) (Nat.lt_irrefl _)
theorem Inv.cne (I:Inv X pins σ H s): ∀x c,X.env.cells.lookup x=some c→c≠X.env.locals:=fun x c e z=>by
 obtain⟨v,o,ho,hd⟩:=I.cell x c e
 obtain⟨m,⟨o',es,ep,ho',hd',_⟩,_⟩:=I.loc
 rw[z,ho']at ho;cases ho;rw[hd']at hd;cases hd
theorem Inv.funs (I:Inv X pins σ H s):s.heap.FunFrames X.base X.outer:=by
 have all: ∀(l:List Env),(∀b∈frs l,b∈X.fs)→X.s₀.heap.FunFrames X.base l→s.heap.FunFrames X.base l:=by
  intro l
  induction l with
  | nil=>intro _ _;trivial
  | cons env r ih=>
   intro hs hl
   obtain⟨hk,⟨L,o,hf,hn,ho,hd⟩,hr⟩:=hl
   have hL:L∈X.fs:=hs L (by unfold frs;rw[List.filterMap_cons,hf];exact List.mem_cons_self)
   obtain⟨sl,e⟩:=I.base.slot L o ho (I.ok.frf L hL) hL fun z=>I.ok.exfs L z hL
   exact⟨hk,⟨L,_,hf,hn,e,hd⟩,ih (fun b hb=>hs b (by unfold frs;rw[List.filterMap_cons,hf];exact List.mem_cons_of_mem _ hb)) hr⟩
 exact all X.outer (fun _ hb=>hb) I.ok.funs
theorem Inv.stack (I:Inv X pins σ H s):s.heap.FunFrames X.base X.stack:=by
 rcases I.ok.stk with e| ⟨e,hf⟩
 ·rw[e];exact I.funs
 ·rw[e]
  obtain⟨m,hn,_⟩:=I.loc
  refine .cons (by rw[I.ok.kind];decide) hf hn ?_ I.funs
  exact Heap.get?_none_of_le (Nat.le_trans I.ok.bsz I.ok.above)
theorem Inv.stkSub (I:Inv X pins σ H s): ∀b∈frs X.stack,b∈X.env.locals::X.fs:=fun b hb=>by
 rcases I.ok.stk with e| ⟨e,hf⟩
 ·rw[e]at hb;exact List.mem_cons_of_mem _ hb
 ·rw[e]at hb
  unfold frs at hb
  rw[List.filterMap_cons,hf]at hb
  exact hb
theorem Inv.stkFree (I:Inv X pins σ H s): ∀b∈frs X.stack,H b=none:=fun b hb=>by
 rcases List.mem_cons.mp (I.stkSub b hb)with e|hb
 ·rw[e];exact I.free
 ·obtain⟨_,o,ho,_⟩:=I.ok.funs.mem hb
  exact I.base.free b o ho (I.ok.frf b hb) fun z=>I.ok.exfs b z hb
theorem Inv.step {g':Array GenState}{t':Nat}{d':Drawn}{ch:List Addr}(I:Inv X pins σ H s)
  (hch: ∀b∈ch,(b∈X.ex∨X.s₀.heap.objs.size≤b)∧b≠X.env.locals∧(∀x c,X.env.cells.lookup x=some c→c≠b)∧ ∀p∈X.pn++pins,p.1≠b)
  (keep: ∀b o,b≠X.env.locals→b ∉ X.fs→b ∉ ch→s.heap.get? b=some o→H b=none→h'.get? b=some o)
  (slot: ∀b o,b≠X.env.locals→b∈X.fs→b ∉ ch→s.heap.get? b=some o→H b=none→ ∃sl,h'.get? b=some {o with slots:=sl}) (free: ∀b o,b ∉ ch→s.heap.get? b=some o→H b=none→H' b=none)
  (there: ∀b o,b ∉ ch→s.heap.get? b=some o→ ∃o',h'.get? b=some o')
  (tups: ∀b xs,H b=some (.tup xs)→H' b=some (.tup xs)) (frzs: ∀b o u,H b=some (.frz o u)→H' b=some (.frz o u)) (tbls: ∀b ps,H b=some (.tbl ps)→ ∃more,H' b=some (.tbl (ps++more)))
  (ns: ∀m,s.heap.Ns X.env.locals m→h'.Ns X.env.locals m) (hok:HOk X.prog X.w H' h') (hg:AllBare g') :
  Inv X pins σ H' {s with heap:=h',gens:=g',drawn:=d',toks:=t'}:=by
 have neL: ∀b o,X.s₀.heap.get? b=some o→b≠X.env.locals:=fun b o e=>Nat.ne_of_lt (Nat.lt_of_lt_of_le (Heap.lt_size e) I.ok.above)
 have neC: ∀b o,X.s₀.heap.get? b=some o→b ∉ X.ex→b ∉ ch:=fun b o e hx hb=>by
  rcases(hch b hb).1 with z|z
  ·exact hx z
  ·exact absurd (Nat.lt_of_lt_of_le (Heap.lt_size e) z) (Nat.lt_irrefl _)
 have cellK: ∀x c,X.env.cells.lookup x=some c→ ∀v,s.heap.IsCell c v→h'.IsCell c v:=fun x c e v ⟨o,ho,hd⟩=>by
  have nch:c ∉ ch:=fun z=>(hch c z).2.2.1 x c e rfl
  by_cases hc:c∈X.fs
  ·obtain⟨sl,q⟩:=slot c o (I.cne x c e) hc nch ho (I.freeC x c e)
   exact⟨_,q,hd⟩
  ·exact⟨o,keep c o (I.cne x c e) hc nch ho (I.freeC x c e),hd⟩
 refine⟨I.ok,I.os,hg,⟨fun b o e n hb hx=> ?_,fun b o e n hb hx=> ?_,fun b o e n hx=> ?_,fun b o e hx=> ?_,fun b xs e=>tups b xs (I.base.tups b xs e),fun b o xs e=>frzs b o xs (I.base.frzs b o xs e),fun b ps e=> ?_⟩,?_,fun x c e=> ?_,?_,fun x c e=> ?_,fun p hp=> ?_,hok,I.len⟩
 ·exact keep b o (neL b o e) hb (neC b o e hx) (I.base.keep b o e n hb hx) (I.base.free b o e n hx)
 ·obtain⟨sl,e1⟩:=I.base.slot b o e n hb hx
  obtain⟨sl',e2⟩:=slot b _ (neL b o e) hb (neC b o e hx) e1 (I.base.free b o e n hx)
  exact⟨sl',e2⟩
 ·obtain⟨o',e1⟩:=I.base.there b o e hx
  exact free b o' (neC b o e hx) e1 (I.base.free b o e n hx)
 ·obtain⟨o',e1⟩:=I.base.there b o e hx
  exact there b o' (neC b o e hx) e1
 ·obtain⟨m1,e1⟩:=I.base.tbls b ps e
  obtain⟨m2,e2⟩:=tbls b _ e1
  exact⟨m1++m2,by rw[e2,Array.append_assoc]⟩
 ·obtain⟨m,hn,hl⟩:=I.loc
  refine⟨m,ns m hn,fun i x v e1 e2 e3=> ?_⟩
  obtain⟨u,r,l⟩:=hl i x v e1 e2 e3
  refine⟨u,r,?_⟩
  rcases l with l| ⟨k,c,e,z⟩
  ·exact .inl l
  ·exact .inr ⟨k,c,e,cellK x c e _ z⟩
 ·obtain⟨v,z⟩:=I.cell x c e
  exact⟨v,cellK x c e v z⟩
 ·obtain⟨m,⟨o,_,_,ho,_⟩,_⟩:=I.loc
  exact free _ o (fun z=>(hch _ z).2.1 rfl) ho I.free
 ·obtain⟨v,o,ho,hd⟩:=I.cell x c e
  exact free c o (fun z=>(hch c z).2.2.1 x c e rfl) ho (I.freeC x c e)
 ·obtain⟨e,n,ne,nf,d⟩:=I.pin p hp
  have nch:p.1 ∉ ch:=fun z=>(hch p.1 z).2.2.2 p hp rfl
  exact⟨keep p.1 p.2 ne nf nch e n,free p.1 p.2 nch e n,ne,nf,d⟩
theorem Inv.un {t':Nat}(I:Inv X pins σ H s)(u:Un X.fs [] H H' s.heap h')(hok:HOk X.prog X.w H' h'):Inv X pins σ H' {s with heap:=h',toks:=t'}:=by
 obtain⟨m,⟨o,es,ep,ho,r⟩,_⟩:=id I.loc
 obtain⟨sl,hL⟩:=u.any ho I.free (by simp)
 exact I.step (g':=s.gens) (d':=s.drawn) (ch:=[]) (fun _ z=>nomatch z) (fun b o _ hb _ e n=>u.keep b o e n hb (by simp)) (fun b o _ hb _ e n=>u.slot b o e n hb (by simp)) (fun b o _ e n=>u.free b o e n (by simp)) (fun b o _ e=>u.there b o e (by simp)) u.tups u.frzs u.tbls (fun m' hm=>by
  obtain⟨o',es',ep',ho',r'⟩:=hm
  rw[ho]at ho';cases ho'
  exact⟨_,es',ep',hL,r'⟩) hok I.bare
theorem Inv.call {g':Array GenState}{t':Nat}{d':Drawn}{ch:List Addr}(I:Inv X pins σ H s)(u:Un (frs X.stack) ch H H' s.heap h')(hok:HOk X.prog X.w H' h')(hg:AllBare g')
  (hch: ∀b∈ch,(b∈X.ex∨X.s₀.heap.objs.size≤b)∧b≠X.env.locals∧(∀x c,X.env.cells.lookup x=some c→c≠b)∧ ∀p∈X.pn++pins,p.1≠b) :
  Inv X pins σ H' {s with heap:=h',gens:=g',drawn:=d',toks:=t'}:=by
 obtain⟨m,⟨o,es,ep,ho,r⟩,_⟩:=id I.loc
 obtain⟨sl,hL⟩:=u.any ho I.free fun z=>(hch _ z).2.1 rfl
 exact I.step (ch:=ch) hch (fun b o hL hb hc e n=>u.keep b o e n (fun z=>(List.mem_cons.mp (I.stkSub b z)).elim hL hb) hc) (fun b o _ _ hc e n=>u.any e n hc) (fun b o hc e n=>u.free b o e n hc) (fun b o hc e=>u.there b o e hc) u.tups u.frzs u.tbls (fun m' hm=>by
  obtain⟨o',es',ep',ho',r'⟩:=hm
  rw[ho]at ho';cases ho'
  exact⟨_,es',ep',hL,r'⟩) hok hg
theorem Inv.turned {t':Nat}{it:Addr}(I:Inv X pins σ H s)(k: ∀b o,b≠it→s.heap.get? b=some o→h'.get? b=some o)(hn:H it=none)(hL:it≠X.env.locals)
  (h1:it∈X.ex∨X.s₀.heap.objs.size≤it) (h2: ∀x c,X.env.cells.lookup x=some c→c≠it) (h3: ∀p∈X.pn++pins,p.1≠it):Inv X pins σ H {s with heap:=h',toks:=t'}:=by
 have nit: ∀b u,H b=some u→b≠it:=fun b u e z=>by rw[z,hn]at e;cases e
 refine I.step (g':=s.gens) (d':=s.drawn) (ch:=[it]) (fun b hb=> ?_) (fun b o _ _ hc e _=>k b o (fun z=>hc (by simp[z])) e) (fun b o _ _ hc e _=>⟨o.slots,k b o (fun z=>hc (by simp[z])) e⟩) (fun _ _ _ _ n=>n)
  (fun b o hc e=>⟨o,k b o (fun z=>hc (by simp[z])) e⟩) (fun _ _ e=>e) (fun _ _ _ e=>e) (fun b ps e=>⟨#[],by rw[e];simp⟩) (fun m hm=> ?_) (fun b u e=> ?_) I.bare
 ·have e:b=it:=by simpa using hb
  subst e
  exact⟨h1,hL,h2,h3⟩
 ·obtain⟨o,es,ep,ho,r⟩:=hm
  exact⟨o,es,ep,k _ o (Ne.symm hL) ho,r⟩
 ·refine(I.hok b u e).stay (fun c v hc q=>k c v ?_ q) (fun _ q=>q) fun _ _ q=>q
  rcases hc with z|z
  ·rw[z];exact nit b u e
  ·exact nit c _ z
theorem Inv.tok (I:Inv X pins σ H s)(t:Nat):Inv X pins σ H {s with toks:=t}:=I.un (h':=s.heap) (t':=t) Un.refl I.hok
theorem Inv.kept {t':Nat}(I:Inv X pins σ H s)(k: ∀b u,s.heap.get? b=some u→h'.get? b=some u):Inv X pins σ H {s with heap:=h',toks:=t'}:=I.un (Un.kept k) (I.hok.kept k)
theorem Inv.laid {a:Addr}{o:HO}{t':Nat}(I:Inv X pins σ H s)(k: ∀b u,s.heap.get? b=some u→h'.get? b=some u)(hp:s.heap.objs.size≤a)(new:mI X.prog X.w (upd H a o) h' a o) :
  Inv X pins σ (upd H a o) {s with heap:=h',toks:=t'}:=I.un (Un.laid k hp (I.hok.fresh hp)) (I.hok.laid k hp new)
theorem Inv.write {x e:Addr}{o:HO}{t':Nat}(I:Inv X pins σ H s)(mu:Mut (H x))(he:e=x∨H e=some (.own x))(k: ∀b u,b≠e→s.heap.get? b=some u→h'.get? b=some u)(heo: ∃u,h'.get? e=some u)
  (new:mI X.prog X.w (upd H x o) h' x o):Inv X pins σ (upd H x o) {s with heap:=h',toks:=t'}:=I.un (Un.write mu he k heo) (I.hok.write mu he k heo new)
theorem Inv.pins_of {pins':List (Addr×Obj)}(I:Inv X pins σ H s)(h: ∀p∈pins',s.heap.get? p.1=some p.2∧H p.1=none∧p.1≠X.env.locals∧p.1 ∉ X.fs∧ ∀v,p.2.data≠ .cell v):Inv X pins' σ H s:=
 ⟨I.ok,I.os,I.bare,I.base,I.loc,I.cell,I.free,I.freeC,fun p hp=>(List.mem_append.mp hp).elim (fun z=>I.pin p (List.mem_append_left _ z)) (h p),I.hok,I.len⟩
theorem aV9 {N:List Str}(hN:N.Nodup){i j:Nat}{x:Str}(a:N[i]? =some x)(b:N[j]? =some x):i=j:=by
 obtain⟨h1,e1⟩:=List.getElem?_eq_some_iff.mp a
 obtain⟨h2,e2⟩:=List.getElem?_eq_some_iff.mp b
 exact(List.getElem_inj hN).mp (e1.trans e2.symm)
theorem bF8 {M:Model}{A:Around}{E:Value→Shared→Prop}{i:Nat}{x:Str}{v:V}{u:Value}{Q:Unit→Shared→Prop}(I:Inv X pins σ H s)(hN:X.N.Nodup)(hi:X.N[i]? =some x)(hx:Loc X.env.scope x)(r:RelV v u)
  (h: ∀s',Inv X pins (σ.set i (some v)) H s'→(∃a,Heap.SameBut a s.heap s'.heap∧(a=X.env.locals∨X.env.cells.lookup x=some a))→Q () s') (hf:X.fn x=true∨X.env.scope.names.lookup x=some .local:=by first|exact .inl rfl|exact .inr rfl|assumption):wpAny M A (storeName X.env x u) Q E s:=by
 obtain⟨m,hn,hl⟩:=id I.loc
 have hcls:(X.env.scope.kind== .class||(X.env.scope.kind== .module&&X.env.locals != X.env.globals))=false:=by rw[I.ok.kind];rfl
 have hiσ:i<σ.length:=by rw[I.len];exact(List.getElem?_eq_some_iff.mp hi).1
 have cne:=I.cne
 have tracked: ∀{a:Addr} {h':Heap},(∃o,s.heap.get? a=some o∧H a=none)→Heap.SameBut a s.heap h'→HOk X.prog X.w H h':=fun {a h'} ha hs b ob e=>by
  obtain⟨_,_,hfree⟩:=ha
  refine(I.hok b ob e).stay (fun c w' hc q=>(hs.2 c ?_).trans q) (fun _ q=>q) fun _ _ q=>q
  rintro rfl
  rcases hc with rfl|hc
  ·rw[hfree]at e;cases e
  ·rw[hfree]at hc;cases hc
 rcases hx with hk|hk
 ·refine wpAny_storeName_local hk hn (fun h' hn' hs=> ?_) hcls
  obtain⟨oL,_,_,hoL,_⟩:=id hn
  refine h _ ⟨I.ok,I.os,I.bare,⟨fun b o e n hb hx=> ?_,fun b o e n hb hx=> ?_,I.base.free,fun b o e hx=> ?_,I.base.tups,I.base.frzs,I.base.tbls⟩,⟨_,hn',fun j y v' e1 e2 e3=> ?_⟩,fun y c e=> ?_,I.free,I.freeC,fun p hp=> ?_,tracked ⟨oL,hoL,I.free⟩ hs,by simpa using I.len⟩ ⟨_,hs,.inl rfl⟩
  ·exact(hs.2 b (Nat.ne_of_lt (Nat.lt_of_lt_of_le (Heap.lt_size e) I.ok.above))).trans (I.base.keep b o e n hb hx)
  ·obtain⟨sl,e1⟩:=I.base.slot b o e n hb hx
   exact⟨sl,(hs.2 b (Nat.ne_of_lt (Nat.lt_of_lt_of_le (Heap.lt_size e) I.ok.above))).trans e1⟩
  ·obtain⟨o',e1⟩:=I.base.there b o e hx
   exact⟨o',(hs.2 b (Nat.ne_of_lt (Nat.lt_of_lt_of_le (Heap.lt_size e) I.ok.above))).trans e1⟩
  ·by_cases hj:j=i
   ·subst hj
    rw[hi]at e1;cases e1
    rw[List.getElem?_set_self hiσ]at e2
    cases e2
    exact⟨u,r,.inl ⟨hk,by simp⟩⟩
   ·rw[List.getElem?_set_ne (Ne.symm hj)]at e2
    obtain⟨u',r',q⟩:=hl j y v' e1 e2 e3
    refine⟨u',r',?_⟩
    rcases q with⟨k,e⟩| ⟨k,c,e,z⟩
    ·refine .inl ⟨k,?_⟩
     have:y≠x:=fun e=>hj (aV9 hN e1 (e▸hi))
     simp[this,e]
    ·exact .inr ⟨k,c,e,z.sameBut hs (cne y c e)⟩
  ·obtain⟨w',z⟩:=I.cell y c e
   exact⟨w',z.sameBut hs (cne y c e)⟩
  ·obtain⟨e,n,ne,nf,d⟩:=I.pin p hp
   exact⟨(hs.2 p.1 ne).trans e,n,ne,nf,d⟩
 ·have hfn:X.fn x=true:=by
   rcases hf with z|z
   ·exact z
   ·rw[z]at hk;cases hk
  obtain⟨c,hc⟩:=I.ok.has x (.inl hk)
  obtain⟨w',z⟩:=I.cell x c hc
  refine wpAny_storeName_cell I.ok.kind hk hc z (fun h' hc' hs=> ?_)
  obtain⟨oc,hoc,hocd⟩:=id z
  refine h {s with heap:=h'} ⟨I.ok,I.os,I.bare,⟨fun b o e n hb hx=> ?_,fun b o e n hb hx=> ?_,I.base.free,fun b o e hx=> ?_,I.base.tups,I.base.frzs,I.base.tbls⟩,⟨m,hn.sameBut hs (Ne.symm (cne x c hc)),fun j y v' e1 e2 e3=> ?_⟩,fun y c' e=> ?_,I.free,I.freeC,fun p hp=> ?_,tracked ⟨oc,hoc,I.freeC x c hc⟩ hs,by simpa using I.len⟩ ⟨c,hs,.inr hc⟩
  ·exact(hs.2 b (Nat.ne_of_lt (Nat.lt_of_lt_of_le (Heap.lt_size e) (I.ok.cab x c hfn hc)))).trans (I.base.keep b o e n hb hx)
  ·obtain⟨sl,e1⟩:=I.base.slot b o e n hb hx
   exact⟨sl,(hs.2 b (Nat.ne_of_lt (Nat.lt_of_lt_of_le (Heap.lt_size e) (I.ok.cab x c hfn hc)))).trans e1⟩
  ·obtain⟨o',e1⟩:=I.base.there b o e hx
   exact⟨o',(hs.2 b (Nat.ne_of_lt (Nat.lt_of_lt_of_le (Heap.lt_size e) (I.ok.cab x c hfn hc)))).trans e1⟩
  ·by_cases hj:j=i
   ·subst hj
    rw[hi]at e1;cases e1
    rw[List.getElem?_set_self hiσ]at e2
    cases e2
    exact⟨u,r,.inr ⟨.inl hk,c,hc,hc'⟩⟩
   ·rw[List.getElem?_set_ne (Ne.symm hj)]at e2
    obtain⟨u',r',q⟩:=hl j y v' e1 e2 e3
    refine⟨u',r',?_⟩
    rcases q with q| ⟨k,c',e,z'⟩
    ·exact .inl q
    ·refine .inr ⟨k,c',e,z'.sameBut hs ?_⟩
     rintro rfl
     exact hj (aV9 hN e1 (I.ok.inj _ _ _ e hc▸hi))
  ·by_cases hcc:c'=c
   ·subst hcc;exact⟨_,hc'⟩
   ·obtain⟨w2,z2⟩:=I.cell y c' e
    exact⟨w2,z2.sameBut hs hcc⟩
  ·obtain⟨e,n,ne,nf,d⟩:=I.pin p hp
   refine⟨(hs.2 p.1 ?_).trans e,n,ne,nf,d⟩
   intro q
   rw[q,hoc]at e
   have q':oc=p.2:=Option.some.inj e
   exact d w' (by rw[←q'];exact hocd)
theorem wP {M:Model}{A:Around}{E:Value→Shared→Prop}{i:Nat}{x:Str}{v:V}{u:Value}{Q:Unit→Shared→Prop}(I:Inv X pins σ H s)(hN:X.N.Nodup)(hi:X.N[i]? =some x)(hx:Loc X.env.scope x)(r:RelV v u)
  (h: ∀s',Inv X pins (σ.set i (some v)) H s'→Q () s') (hf:X.fn x=true∨X.env.scope.names.lookup x=some .local:=by first|exact .inl rfl|exact .inr rfl|assumption):wpAny M A (storeName X.env x u) Q E s:=
 bF8 I hN hi hx r (fun s' I' _=>h s' I') hf
theorem Inv.call' {s':Shared}{ch:List Addr}(I:Inv X pins σ H s)(ho:s'.os=s.os)(u:Un (frs X.stack) ch H H' s.heap s'.heap)(hok:HOk X.prog X.w H' s'.heap)(hg:AllBare s'.gens)
  (hch: ∀b∈ch,(b∈X.ex∨X.s₀.heap.objs.size≤b)∧b≠X.env.locals∧(∀x c,X.env.cells.lookup x=some c→c≠b)∧ ∀p∈X.pn++pins,p.1≠b):Inv X pins σ H' s':=by
 obtain⟨h',g',d',t',o'⟩:=s'
 have e:o'=s.os:=ho
 subst e
 exact I.call (g':=g') (t':=t') (d':=d') u hok hg hch
end
abbrev XK:=Value→Option Addr→Hp→Prop
abbrev St:=List (Option V)
abbrev VK:=V→Hp→Prop
abbrev TE:=St→Hp→VK→Prop
abbrev TT:=St→Hp→(Bool→Hp→Prop)→Prop
abbrev TA:=St→Hp→(List V→Hp→Prop)→Prop
structure aF6 where
 nx:St→Hp→Prop
 rt:VK
 bk:St→Hp→Prop:=fun _ _=>False
 ct:St→Hp→Prop:=fun _ _=>False
abbrev TS:=aF6→St→Hp→Prop
def EP (X:Cx)(pins:List (Addr×Obj))(σ:St)(Q:VK)(u:Value)(s':Shared):Prop:= ∃v H',Inv X pins σ H' s'∧RelV v u∧Q v H'
def TP (X:Cx)(pins:List (Addr×Obj))(σ:St)(Q:Bool→Hp→Prop)(b:Bool)(s':Shared):Prop:= ∃H',Inv X pins σ H' s'∧Q b H'
def AP (X:Cx)(pins:List (Addr×Obj))(σ:St)(Q:List V→Hp→Prop)(us:List Value)(s':Shared):Prop:= ∃vs H',Inv X pins σ H' s'∧Vals vs us∧Q vs H'
def SP (X:Cx)(pins:List (Addr×Obj))(D:aF6)(f:Flow)(s':Shared):Prop:=
 match f with
 | .next=> ∃σ' H',Inv X pins σ' H' s'∧D.nx σ' H'
 | .brk=> ∃σ' H',Inv X pins σ' H' s'∧D.bk σ' H'
 | .cont=> ∃σ' H',Inv X pins σ' H' s'∧D.ct σ' H'
 | .ret u=> ∃v σ' H',Inv X pins σ' H' s'∧RelV v u∧D.rt v H'
def PE (X:Cx)(e:Expr)(t:TE):Prop:=
 ∀(pins:List (Addr×Obj)) (s:Shared) (σ:St) (H:Hp) (Q:VK),Inv X pins σ H s→t σ H Q→wpAny (model X.prog X.w) X.A (eval e X.env) (EP X pins σ Q) X.xe s
def PT (X:Cx)(e:Expr)(t:TT):Prop:=
 ∀(pins:List (Addr×Obj)) (s:Shared) (σ:St) (H:Hp) (Q:Bool→Hp→Prop),Inv X pins σ H s→t σ H Q→wpAny (model X.prog X.w) X.A (isTrue e X.env (eval e X.env)) (TP X pins σ Q) X.xe s
def PW (X:Cx)(e:Expr)(t:TT):Prop:=
 ∀(whole:Sem Value) (pins:List (Addr×Obj)) (s:Shared) (σ:St) (H:Hp) (Q:Bool→Hp→Prop),Inv X pins σ H s→t σ H Q→wpAny (model X.prog X.w) X.A (isTrue e X.env whole) (TP X pins σ Q) X.xe s
theorem PW.pt {X:Cx}{e:Expr}{t:TT}(h:PW X e t):PT X e t:=h _
def PA (X:Cx)(es:List Expr)(t:TA):Prop:=
 ∀(pos:Pos) (pins:List (Addr×Obj)) (s:Shared) (σ:St) (H:Hp) (Q:List V→Hp→Prop),Inv X pins σ H s→t σ H Q→wpAny (model X.prog X.w) X.A (spliced (backTo pos (starEach es X.env))) (AP X pins σ Q) X.xe s
def PS (X:Cx)(st:Stmt)(t:TS):Prop:=
 ∀(pins:List (Addr×Obj)) (s:Shared) (σ:St) (H:Hp) (D:aF6),Inv X pins σ H s→t D σ H→wpAny (model X.prog X.w) X.A (exec st X.env) (SP X pins D) X.xe s
def PSs (X:Cx)(st:List Stmt)(t:TS):Prop:=
 ∀(pins:List (Addr×Obj)) (s:Shared) (σ:St) (H:Hp) (D:aF6),Inv X pins σ H s→t D σ H→wpAny (model X.prog X.w) X.A (execs st X.env) (SP X pins D) X.xe s
theorem thn {α:Type}{t:Sem α}{Q Q':α→Shared→Prop}{M:Model}{A:Around}{E:Value→Shared→Prop}{s:Shared}(h:wpAny M A t Q E s)(hQ: ∀a s,Q a s→Q' a s):wpAny M A t Q' E s:=wpAny_mono h hQ fun _ _ x=>x
end L2
namespace L2
open PySem PySem.Spec PyProof.Rows
section
variable {X:Cx}
def a01 (i:Nat):TE:=fun σ H Q=> ∃v,σ[i]? =some (some v)∧Q v H
def tC (v:V):TE:=fun _ H Q=>Q v H
theorem pe_var {i:Nat}{x:Str}{pos:Pos}(hN:X.N[i]? =some x)(hv:Vis X.env.scope x)(hd:(x==("__debug__":Str))=false:=by decide)(hcd:(x==("__classdict__":Str))=false:=by decide):PE X (.Name x pos) (a01 i):=by
 intro pins s σ H Q I h
 obtain⟨v,e,h⟩:=h
 obtain⟨m,hn,hl⟩:=I.loc
 obtain⟨u,r,l⟩:=hl i x v hN e hv
 have fin:EP X pins σ Q u s:=⟨v,H,I,r,h⟩
 rcases l with⟨hk,hm⟩| ⟨hk,c,hc,hcell⟩
 ·exact wpAny_Name (wpAny_loadName_local I.ok.kind hk hn hm fin) hd
 ·rcases hk with hk|hk
  ·exact wpAny_Name (wpAny_loadName_cell I.ok.kind hk hc hcell fin) hd
  ·exact wpAny_Name (wpAny_loadName_free I.ok.kind hk hc hcell fin hcd) hd
theorem pe_int {i j pos}:PE X (.Constant (.int i) j pos) (tC (.int i)):=fun _ _ _ H _ I h=>wpAny_Constant_int ⟨.int i,H,I.tok _,⟨_,rfl⟩,h⟩
theorem pe_bl {b j pos}:PE X (.Constant (.bool b) j pos) (tC (.bl b)):=fun _ _ _ H _ I h=>Constant_bool ⟨.bl b,H,I,rfl,h⟩
theorem pe_non {j pos}:PE X (.Constant .none j pos) (tC .non):=fun _ _ _ H _ I h=>Constant_none ⟨.non,H,I,rfl,h⟩
theorem pe_str {x j pos}:PE X (.Constant (.str x) j pos) (tC (.str x)):=fun _ _ _ H _ I h=>Calls.Constant_str ⟨.str x,H,I.tok _,⟨_,rfl⟩,h⟩
def Gl (X:Cx)(x:Str):Prop:=X.env.kindOf x=some .globalImplicit
theorem o9 {E:Value→Shared→Prop}{pins:List (Addr×Obj)}{s:Shared}{σ:St}{H:Hp}{x:Str}{u:Value}{pos:Pos}{Q:Value→Shared→Prop}(I:Inv X pins σ H s)(hg:Gl X x)(hm:X.mg x=some u)(h:Q u s)
  (hd:(x==("__debug__":Str))=false:=by decide):wpAny (model X.prog X.w) X.A (eval (.Name x pos) X.env) Q E s:=
 Calls.Name_function_global I.ok.kind hg (Calls.loadGlobal_global (by rw[I.ok.glob];exact I.mod.glob.keeps I.bk) hm h) hd
theorem oV {E:Value→Shared→Prop}{pins:List (Addr×Obj)}{s:Shared}{σ:St}{H:Hp}{x:Str}{u:Value}{pos:Pos}{Q:Value→Shared→Prop}(I:Inv X pins σ H s)(hg:Gl X x)(hm:X.mg x=none)(hv:bootBuiltins x=some u)(h:Q u s)
  (hn:x≠"__name__":=by decide) (hd:(x==("__debug__":Str))=false:=by decide):wpAny (model X.prog X.w) X.A (eval (.Name x pos) X.env) Q E s:=by
 obtain⟨mb,h1,h2⟩:=I.mod.blt
 exact Calls.Name_function_global I.ok.kind hg (Calls.loadGlobal_builtin (by rw[I.ok.glob];exact I.mod.glob.keeps I.bk) hm (by rw[I.ok.blt];exact h1.keeps I.bk) ((h2 x hn).trans hv) h) hd
theorem bA7 {x:Str}{v:V}{u:Value}{pos:Pos}(hg:Gl X x)(hm:X.mg x=some u)(r:RelV v u)(hd:(x==("__debug__":Str))=false:=by decide):PE X (.Name x pos) (tC v):=
 fun _ _ _ H _ I h=>o9 I hg hm ⟨v,H,I,r,h⟩ hd
theorem c03 {x:Str}{v:V}{u:Value}{pos:Pos}(hg:Gl X x)(hm:X.mg x=none)(hv:bootBuiltins x=some u)(r:RelV v u)(hn:x≠"__name__":=by decide)(hd:(x==("__debug__":Str))=false:=by decide):PE X (.Name x pos) (tC v):=
 fun _ _ _ H _ I h=>oV I hg hm hv ⟨v,H,I,r,h⟩ hn hd
variable {a b:Expr}{ta tb:TE}{pos:Pos}
def PC (X:Cx)(op:CmpOp)(a b:Expr)(t:TE):Prop:=
 ∀(pins:List (Addr×Obj)) (s:Shared) (σ:St) (H:Hp) (Q:VK),Inv X pins σ H s→t σ H Q→
  wpAny (model X.prog X.w) X.A (eval a X.env) (fun v s₁=>wpAny (model X.prog X.w) X.A (eval b X.env) (fun u s₂=>wpAny (model X.prog X.w) X.A (compareOp op v u) (EP X pins σ Q) X.xe s₂) X.xe s₁) X.xe s
theorem bN0 (b:Expr){op:CmpOp}(h:op≠ .In)(h2:op≠ .NotIn):behindInMarks op b=false:=by
 have e1:(op==CmpOp.In)=false:=by cases op<;>first|rfl|exact absurd rfl h
 have e2:(op==CmpOp.NotIn)=false:=by cases op<;>first|rfl|exact absurd rfl h2
 cases b<;>simp[behindInMarks,e1,e2]
def tIsN (ta:TE):TE:=fun σ H Q=>ta σ H fun x H1=>Q (.bl (decide (x= .non))) H1
def cE6 (ta:TE):TE:=fun σ H Q=>ta σ H fun x H1=>Q (.bl (!decide (x= .non))) H1
theorem RelV.none_iff {x:V}{v:Value}(r:RelV x v):(v==Value.none)=decide (x= .non):=by
 cases x with
 | non=>cases r;rfl
 | bl _=>cases r;rfl
 | int _=>obtain⟨t,rfl⟩:=r;rfl
 | str _=>obtain⟨t,rfl⟩:=r;rfl
 | byt _=>obtain⟨t,rfl⟩:=r;rfl
 | flt _=>obtain⟨t,rfl⟩:=r;rfl
 | ref _=>cases r;rfl
 | ty _=>cases r;rfl
theorem pc_isN {j pos'}(ha:PE X a ta):PC X .Is a (.Constant .none j pos') (tIsN ta):=by
 intro pins s σ H Q I h
 refine thn (ha pins s σ H _ I h) fun v s1 ⟨x,H1,I1,r1,q1⟩=> ?_
 exact Constant_none (is_none_gen ⟨.bl _,H1,I1,by rw[r1.none_iff];rfl,q1⟩)
theorem c04 {j pos'}(ha:PE X a ta):PC X .IsNot a (.Constant .none j pos') (cE6 ta):=by
 intro pins s σ H Q I h
 refine thn (ha pins s σ H _ I h) fun v s1 ⟨x,H1,I1,r1,q1⟩=> ?_
 exact Constant_none (isnot_none_gen ⟨.bl _,H1,I1,by rw[r1.none_iff];rfl,q1⟩)
def tB (t:TE):TT:=fun σ H Q=>t σ H fun x H1=> ∃c,x= .bl c∧Q c H1
theorem bN1 {op:CmpOp}{t:TE}(h:PC X op a b t)(h1:behindInMarks op b=false:=by first|exact bN0 _ (by decide) (by decide)|rfl):PT X (.Compare a [op] [b] pos) (tB t):=by
 intro pins s σ H Q I hw
 refine wpAny_isTrue_Compare1 (thn (h pins s σ H _ I hw) fun v s1 h1=>thn h1 fun u s2 h2=>thn h2 fun c s3 ⟨x,H1,I1,r1,q1⟩=> ?_) h1
 obtain⟨d,rfl,q⟩:=q1
 cases r1
 exact wpAny_truthy_bool ⟨H1,I1,q⟩
theorem pt_val {e:Expr}{t:TE}(h:PE X e t)(he: ∀whole,isTrue e X.env whole=(do let v←whole;standAt e.pos;holding [v] (truthy v)):=by intro _;rfl):PT X e (tB t):=by
 intro pins s σ H Q I hw
 refine isTrue_plain (thn (h pins s σ H _ I hw) fun v s1 ⟨x,H1,I1,r1,q1⟩=> ?_) (he _)
 obtain⟨d,rfl,q⟩:=q1
 cases r1
 exact wpAny_truthy_bool ⟨H1,I1,q⟩
variable {tA tB':TT}{oU:List Expr}
def tAnd (t u:TT):TT:=fun σ H Q=>t σ H fun c H1=>if c=true then u σ H1 Q else Q false H1
def tOr (t u:TT):TT:=fun σ H Q=>t σ H fun c H1=>if c=true then Q true H1 else u σ H1 Q
def tNot (t:TT):TT:=fun σ H Q=>t σ H fun c H1=>Q (!c) H1
theorem c05 (ha:PT X a tA):PW X (.BoolOp .And [a] pos) tA:=by
 intro wh pins s σ H Q I h
 refine isTrue_and (thn (ha pins s σ H Q I h) fun c s1 e=> ?_)
 cases c with
 | true=>exact isTrue_and_nil e
 | false=>exact e
theorem pw_or1 (ha:PT X a tA):PW X (.BoolOp .Or [a] pos) tA:=by
 intro wh pins s σ H Q I h
 refine isTrue_or (thn (ha pins s σ H Q I h) fun c s1 e=> ?_)
 cases c with
 | false=>exact isTrue_or_nil e
 | true=>exact e
theorem pw_and (ha:PT X a tA)(hb:PW X (.BoolOp .And (b::oU) pos) tB'):PW X (.BoolOp .And (a::b::oU) pos) (tAnd tA tB'):=by
 intro wh pins s σ H Q I h
 refine isTrue_and (thn (ha pins s σ H _ I h) fun c s1 ⟨H1,I1,q1⟩=> ?_)
 cases c with
 | true=>exact hb wh pins s1 σ H1 Q I1 q1
 | false=>exact⟨H1,I1,q1⟩
theorem pw_or (ha:PT X a tA)(hb:PW X (.BoolOp .Or (b::oU) pos) tB'):PW X (.BoolOp .Or (a::b::oU) pos) (tOr tA tB'):=by
 intro wh pins s σ H Q I h
 refine isTrue_or (thn (ha pins s σ H _ I h) fun c s1 ⟨H1,I1,q1⟩=> ?_)
 cases c with
 | true=>exact⟨H1,I1,q1⟩
 | false=>exact hb wh pins s1 σ H1 Q I1 q1
theorem pt_not (ha:PT X a tA):PT X (.UnaryOp .Not a pos) (tNot tA):=by
 intro pins s σ H Q I h
 exact isTrue_not (ha pins s σ H (fun c H1=>Q (!c) H1) I h)
def tAndV (ta tb:TE):TE:=fun σ H Q=>ta σ H fun x H1=> ∃c,x= .bl c∧if c=true then tb σ H1 Q else Q (.bl false) H1
def tNotV (ta:TE):TE:=fun σ H Q=>ta σ H fun x H1=> ∃c,x= .bl c∧Q (.bl (!c)) H1
theorem pe_one {op}{t:TE}(h:PE X a t):PE X (.BoolOp op [a] pos) t:=fun pins s σ H Q I hw=>BoolOp_one (h pins s σ H Q I hw)
theorem pe_and (ha:PE X a ta)(hb:PE X (.BoolOp .And (b::oU) pos) tb):PE X (.BoolOp .And (a::b::oU) pos) (tAndV ta tb):=by
 intro pins s σ H Q I h
 refine BoolOp_and (thn (ha pins s σ H _ I h) fun v s1 ⟨x,H1,I1,r1,q1⟩=> ?_)
 obtain⟨c,rfl,q1⟩:=q1
 cases r1
 refine wpAny_truthy_bool ?_
 cases c with
 | true=>exact hb pins s1 σ H1 Q I1 q1
 | false=>exact⟨.bl false,H1,I1,rfl,q1⟩
theorem pe_not (ha:PE X a ta):PE X (.UnaryOp .Not a pos) (tNotV ta):=by
 intro pins s σ H Q I h
 refine UnaryOp_ (thn (ha pins s σ H _ I h) fun v s1 ⟨x,H1,I1,r1,q1⟩=> ?_)
 obtain⟨c,rfl,q1⟩:=q1
 cases r1
 exact not_of (wpAny_truthy_bool ⟨.bl (!c),H1,I1,rfl,q1⟩)
def tIf (t:TT)(ta tb:TE):TE:=fun σ H Q=>t σ H fun c H1=>if c=true then ta σ H1 Q else tb σ H1 Q
theorem bN2 {c:Expr}(hc:PT X c tA)(ha:PE X a ta)(hb:PE X b tb):PE X (.IfExp c a b pos) (tIf tA ta tb):=by
 intro pins s σ H Q I h
 refine wpAny_IfExp (thn (hc pins s σ H _ I h) fun d s1 ⟨H1,I1,q1⟩=> ?_)
 cases d with
 | true=>exact ha pins s1 σ H1 Q I1 q1
 | false=>exact hb pins s1 σ H1 Q I1 q1
end
end L2
namespace L2
open PySem PySem.Spec PyProof.Rows
def SqL (K:PySem.W.Frag)(H:Hp)(a:Addr)(xs:List V):Prop:=
 Rd H a (.lst xs)∨
  ∃(o:Obj) (its:Array Value) (n:Nat),K.lookup a=some o∧o.cls= .type "list"∧o.dict=none∧o.data= .seq its n∧its.size≤sizeLine∧Vals xs its.toList
def SqT (K:PySem.W.Frag)(H:Hp)(a:Addr)(xs:List V):Prop:=
 Rd H a (.tup xs)∨
  ∃(o:Obj) (its:Array Value) (n:Nat),K.lookup a=some o∧o.cls= .type "tuple"∧o.data= .seq its n∧its.size≤sizeLine∧Vals xs its.toList
def absV:Value→Option V
 | .none=>some .non
 | .bool b=>some (.bl b)
 | .int i _=>some (.int i)
 | .str x _=>some (.str x)
 | .bytes b _=>some (.byt b)
 | .float b _=>some (.flt b)
 | .ref a=>some (.ref a)
 | .type n=>some (.ty n)
 | _=>none
theorem RelV.abs {x:V}{u:Value}(r:RelV x u):absV u=some x:=by
 cases x with
 | non=>cases r;rfl
 | bl _=>cases r;rfl
 | int _=>obtain⟨t,rfl⟩:=r;rfl
 | str _=>obtain⟨t,rfl⟩:=r;rfl
 | byt _=>obtain⟨t,rfl⟩:=r;rfl
 | flt _=>obtain⟨t,rfl⟩:=r;rfl
 | ref _=>cases r;rfl
 | ty _=>cases r;rfl
theorem RelV.inj {x y:V}{u:Value}(r:RelV x u)(q:RelV y u):x=y:=Option.some.inj (r.abs.symm.trans q.abs)
theorem Vals.inj: ∀{xs ys:List V} {us:List Value},Vals xs us→Vals ys us→xs=ys
 | _,_,_,.nil,.nil=>rfl
 | _,_,_,.cons r t,.cons r' t'=>by rw[r.inj r',Vals.inj t t']
section
variable {X:Cx}{pins:List (Addr×Obj)}{σ:St}{H:Hp}{s:Shared}{a:Addr}{xs ys:List V}
theorem SqL.of {K:PySem.W.Frag}(h:H a=some (.lst xs)):SqL K H a xs:= .inl (.inl h)
theorem SqT.of {K:PySem.W.Frag}(h:H a=some (.tup xs)):SqT K H a xs:= .inl (.inl h)
theorem Inv.list (I:Inv X pins σ H s)(h:SqL X.K H a xs): ∃its:List Value,Vals xs its∧PlainL s.heap a its.toArray∧xs.length≤sizeLine:=by
 rcases h with h| ⟨o,its,n,hk,hc,hd,hs,hz,r⟩
 ·obtain⟨z,its,n,r,e⟩:=h.ok I.hok
  exact⟨its,r,⟨_,n,e,rfl,rfl,rfl⟩,z⟩
 ·refine⟨its.toList,r,⟨o,n,I.kIn a o hk,hc,hd,by simpa using hs⟩,?_⟩
  have e:=r.length
  simp only[Array.length_toList]at e
  omega
theorem Inv.tuple (I:Inv X pins σ H s)(h:SqT X.K H a xs): ∃its:List Value,Vals xs its∧IsTup s.heap a its.toArray∧xs.length≤sizeLine:=by
 rcases h with h| ⟨o,its,n,hk,hc,hs,hz,r⟩
 ·obtain⟨z,its,r,p⟩:=h.ok I.hok
  exact⟨its,r,p,z⟩
 ·refine⟨its.toList,r,⟨o,I.kIn a o hk,hc,n,by simpa using hs⟩,?_⟩
  have e:=r.length
  simp only[Array.length_toList]at e
  omega
theorem Inv.list_inj (I:Inv X pins σ H s)(h:SqL X.K H a xs)(h':SqL X.K H a ys):xs=ys:=by
 obtain⟨its,r,⟨o,n,e,_,_,d⟩,_⟩:=I.list h
 obtain⟨its',r',⟨o',n',e',_,_,d'⟩,_⟩:=I.list h'
 rw[e]at e';cases e'
 rw[d]at d'
 injection d' with d1 _
 have:its=its':=by simpa using congrArg Array.toList d1
 subst this
 exact r.inj r'
theorem Inv.tuple_inj (I:Inv X pins σ H s)(h:SqT X.K H a xs)(h':SqT X.K H a ys):xs=ys:=by
 obtain⟨its,r,⟨o,e,_,n,d⟩,_⟩:=I.tuple h
 obtain⟨its',r',⟨o',e',_,n',d'⟩,_⟩:=I.tuple h'
 rw[e]at e';cases e'
 rw[d]at d'
 injection d' with d1 _
 have:its=its':=by simpa using congrArg Array.toList d1
 subst this
 exact r.inj r'
end
abbrev Cx.wish (X:Cx)(E:Value→Shared→Prop):Cx:={X with xe:=E}
abbrev Cx.nox (X:Cx):Cx:=X.wish fun _ _=>False
theorem Cx.Ok.wish {X:Cx}(ok:X.Ok)(E:Value→Shared→Prop):(X.wish E).Ok:=
 ⟨ok.mod,ok.kind,ok.glob,ok.blt,ok.above,ok.inj,ok.has,ok.cab,ok.hd,ok.frames,ok.stk,ok.exf,ok.bs,ok.bsz,ok.noex,ok.exfs,ok.funs,ok.frf⟩
theorem Cx.Ok.unwish {X:Cx}{E:Value→Shared→Prop}(ok:(X.wish E).Ok):X.Ok:=
 ⟨ok.mod,ok.kind,ok.glob,ok.blt,ok.above,ok.inj,ok.has,ok.cab,ok.hd,ok.frames,ok.stk,ok.exf,ok.bs,ok.bsz,ok.noex,ok.exfs,ok.funs,ok.frf⟩
section
variable {X:Cx}{pins:List (Addr×Obj)}{σ:St}{H:Hp}{s:Shared}{E:Value→Shared→Prop}
theorem Inv.wish (I:Inv X pins σ H s)(E:Value→Shared→Prop):Inv (X.wish E) pins σ H s:=⟨I.ok.wish E,I.os,I.bare,I.base,I.loc,I.cell,I.free,I.freeC,I.pin,I.hok,I.len⟩
theorem Inv.unwish (I:Inv (X.wish E) pins σ H s):Inv X pins σ H s:=⟨I.ok.unwish,I.os,I.bare,I.base,I.loc,I.cell,I.free,I.freeC,I.pin,I.hok,I.len⟩
theorem SP.unwish {D:aF6}{f:Flow}{s':Shared}(h:SP (X.wish E) pins D f s'):SP X pins D f s':=by
 cases f with
 | next=>obtain⟨σ',H',I,q⟩:=h;exact⟨σ',H',I.unwish,q⟩
 | brk=>obtain⟨σ',H',I,q⟩:=h;exact⟨σ',H',I.unwish,q⟩
 | cont=>obtain⟨σ',H',I,q⟩:=h;exact⟨σ',H',I.unwish,q⟩
 | ret u=>obtain⟨v,σ',H',I,r,q⟩:=h;exact⟨v,σ',H',I.unwish,r,q⟩
theorem PE.nox {e:Expr}{t:TE}(h:PE X.nox e t):PE X e t:=fun pins s σ H Q I hw=>
 wpAny_mono (h pins s σ H Q (I.wish _) hw) (fun _ _ ⟨v,H',I',r,q⟩=>⟨v,H',I'.unwish,r,q⟩) fun _ _ z=>False.elim z
theorem PT.nox {e:Expr}{t:TT}(h:PT X.nox e t):PT X e t:=fun pins s σ H Q I hw=>
 wpAny_mono (h pins s σ H Q (I.wish _) hw) (fun _ _ ⟨H',I',q⟩=>⟨H',I'.unwish,q⟩) fun _ _ z=>False.elim z
theorem PSs.nox {st:List Stmt}{t:TS}(h:PSs X.nox st t):PSs X st t:=fun pins s σ H D I hw=>
 wpAny_mono (h pins s σ H D (I.wish _) hw) (fun _ _ q=>q.unwish) fun _ _ z=>False.elim z
end
section
variable {X:Cx}{st:Stmt}{oU:List Stmt}{t u:TS}{e:Expr}{te:TE}{pos:Pos}
def tNext:TS:=fun D σ H=>D.nx σ H
def tSeq (t u:TS):TS:=fun D σ H=>t {D with nx:=u D} σ H
theorem c06:PSs X [] tNext:=fun _ _ σ H _ I h=>wpAny_execs_nil ⟨σ,H,I,h⟩
theorem qF (h1:PS X st t)(h2:PSs X oU u):PSs X (st::oU) (tSeq t u):=by
 intro pins s σ H D I h
 refine wpAny_execs_cons (thn (h1 pins s σ H {D with nx:=u D} I h) fun f s1 q=> ?_)
 cases f with
 | next=>
  obtain⟨σ',H',I',q⟩:=q
  exact h2 pins s1 σ' H' D I' q
 | ret v=>exact q
 | brk=>exact q
 | cont=>exact q
theorem aO5 (h1:PS X st t):PSs X [st] t:=by
 intro pins s σ H D I h
 refine wpAny_execs_cons (thn (h1 pins s σ H D I h) fun f s1 q=> ?_)
 cases f with
 | next=>exact wpAny_execs_nil q
 | ret v=>exact q
 | brk=>exact q
 | cont=>exact q
theorem Inv.quiet {pins:List (Addr×Obj)}{σ:St}{H:Hp}{s:Shared}(I:Inv X pins σ H s):interactive X.env=false:=by simp[interactive,I.ok.kind]
def tDrop (te:TE):TS:=fun D σ H=>te σ H fun _ H1=>D.nx σ H1
theorem aO6 (he:PE X e te)(hs:swapsWith e none pos.line X.env=pure false:=by rfl):PS X (.Expr e pos) (tDrop te):=by
 intro pins s σ H D I h
 exact wpAny_Expr_any (thn (he pins s σ H _ I h) fun v s1 ⟨x,H1,I1,r1,q1⟩=>⟨σ,H1,I1,q1⟩) I.quiet hs
def tRet (te:TE):TS:=fun D σ H=>te σ H D.rt
theorem bN3 (he:PE X e te):PS X (.Return (some e) pos) (tRet te):=by
 intro pins s σ H D I h
 exact wpAny_Return_some (thn (he pins s σ H _ I h) fun v s1 ⟨x,H1,I1,r1,q1⟩=>⟨x,σ,H1,I1,r1,q1⟩)
def tIfS (c:TT)(t u:TS):TS:=fun D σ H=>c σ H fun b H1=>if b=true then t D σ H1 else u D σ H1
theorem cE7 {c:Expr}{a b:List Stmt}{tc:TT}(hc:PT X c tc)(ha:PSs X a t)(hb:PSs X b u):PS X (.If c a b pos) (tIfS tc t u):=by
 intro pins s σ H D I h
 refine wpAny_If (thn (hc pins s σ H _ I h) fun d s1 ⟨H1,I1,q1⟩=> ?_)
 cases d with
 | true=>exact ha pins s1 σ H1 D I1 q1
 | false=>exact hb pins s1 σ H1 D I1 q1
def tNever:TS:=fun _ _ _=>False
theorem bN4:PS X st tNever:=fun _ _ _ _ _ _ h=>h.elim
end
abbrev TG:=V→St→Hp→(St→Hp→Prop)→Prop
abbrev TGs:=List V→St→Hp→(St→Hp→Prop)→Prop
def PG (X:Cx)(target:Expr)(t:TG):Prop:=
 ∀(pins:List (Addr×Obj)) (s:Shared) (σ:St) (H:Hp) (v:V) (u:Value) (Q:St→Hp→Prop),Inv X pins σ H s→RelV v u→t v σ H Q→
  wpAny (model X.prog X.w) X.A (assign target X.env u) (fun _ s'=> ∃σ' H',Inv X pins σ' H' s'∧Q σ' H') X.xe s
def PGs (X:Cx)(ts:List Expr)(t:TGs):Prop:=
 ∀(pins:List (Addr×Obj)) (s:Shared) (σ:St) (H:Hp) (vs:List V) (us:List Value) (Q:St→Hp→Prop),Inv X pins σ H s→Vals vs us→t vs σ H Q→
  wpAny (model X.prog X.w) X.A (assignInOrder ((assignEach ts X.env).map (·.2)) us) (fun _ s'=> ∃σ' H',Inv X pins σ' H' s'∧Q σ' H') X.xe s
abbrev bN5:=V→V→V→Hp→(Hp→Prop)→Prop
def PSet (X:Cx)(t:bN5):Prop:=
 ∀(pins:List (Addr×Obj)) (s:Shared) (σ:St) (H:Hp) (o i v:V) (ov iv u:Value) (Q:Hp→Prop),Inv X pins σ H s→RelV o ov→RelV i iv→RelV v u→t o i v H Q→
  wpAny (model X.prog X.w) X.A (setItem ov iv u) (fun _ s'=> ∃H',Inv X pins σ H' s'∧Q H') X.xe s
abbrev TIp:=V→V→Hp→VK→Prop
def PIp (X:Cx)(op:Operator)(t:TIp):Prop:=
 ∀(pins:List (Addr×Obj)) (s:Shared) (σ:St) (H:Hp) (x y:V) (v u:Value) (Q:VK),Inv X pins σ H s→RelV x v→RelV y u→t x y H Q→
  wpAny (model X.prog X.w) X.A (inplaceOp op v u) (EP X pins σ Q) X.xe s
section
variable {X:Cx}{pos:Pos}
def wQ (i:Nat):TG:=fun v σ H Q=>Q (σ.set i (some v)) H
theorem aW {i:Nat}{x:Str}(hN:X.N.Nodup)(hi:X.N[i]? =some x)(hx:Loc X.env.scope x)(hf:X.fn x=true∨X.env.scope.names.lookup x=some .local:=by first|exact .inl rfl|exact .inr rfl|assumption):PG X (.Name x pos) (wQ i):=by
 intro pins s σ H v u Q I r h
 exact wpAny_assign_Name (wP I hN hi hx r (fun s' I'=>⟨_,H,I',h⟩) hf)
def gNil:TGs:=fun vs σ H Q=>vs=[]∧Q σ H
def gCons (t:TG)(u:TGs):TGs:=fun vs σ H Q=> ∃v r,vs=v::r∧t v σ H fun σ' H'=>u r σ' H' Q
theorem c07:PGs X [] gNil:=by
 intro pins s σ H vs us Q I r h
 obtain⟨e,h⟩:=h
 subst e
 cases r
 exact assignInOrder_nil ⟨σ,H,I,h⟩
theorem bN6 {e:Expr}{es:List Expr}{t:TG}{u:TGs}(h1:PG X e t)(h2:PGs X es u)
  (hs:(assignEach (e::es) X.env).map (·.2)=assign e X.env::(assignEach es X.env).map (·.2):=by rfl):PGs X (e::es) (gCons t u):=by
 intro pins s σ H vs us Q I r h
 obtain⟨v,vr,e1,h⟩:=h
 subst e1
 cases r with
 | cons r rr=>
  rw[hs]
  refine assignInOrder_cons (thn (h1 pins s σ H _ _ _ I r h) fun _ s1 ⟨σ1,H1,I1,q1⟩=> ?_)
  exact h2 pins s1 σ1 H1 _ _ Q I1 rr q1
def gTup (K:PySem.W.Frag)(n:Nat)(t:TGs):TG:=fun v σ H Q=> ∃a xs,v= .ref a∧SqT K H a xs∧xs.length=n∧t xs σ H Q
theorem pg_tup {es:List Expr}{k:Nat}{t:TGs}{n:Nat}(hc:X.calm=true)(h:PGs X es t)
  (hn:(assignEach es X.env).length=n:=by rfl) (hst:(assignEach es X.env).findIdx? (·.1)=none:=by rfl):PG X (.Tuple es k pos) (gTup X.K n t):=by
 intro pins s σ H v u Q I r hw
 obtain⟨a,xs,e1,hq,hl,hw⟩:=hw
 subst e1
 cases r
 obtain⟨its,rv,ht,hz⟩:=I.tuple hq
 refine assign_Tuple_tuple (I.ok.hd hc) ht (by simp[hn,←hl,rv.length]) hst fun h' hx=> ?_
 have I1:Inv X pins σ H {s with heap:=h'}:=I.kept (t':=s.toks) fun b o e=>hx b o (Nat.ne_of_lt (Heap.lt_size e)) e
 exact h pins _ σ H xs _ Q I1 (by simpa using rv) hw
def gSub (to ti:TE)(t:bN5):TG:=fun v σ H Q=>to σ H fun o H1=>ti σ H1 fun i H2=>t o i v H2 fun H3=>Q σ H3
theorem pg_sub {o i:Expr}{to ti:TE}{t:bN5}(ho:PE X o to)(hi:PE X i ti)(hs:PSet X t)
  (ha: ∀v,assign (.Subscript o i pos) X.env v=(do
   let ov←holding [v] (eval o X.env)
   let iv←holding [v,ov] (eval i X.env)
   standAt pos
   holding [v,ov,iv] (setItem ov iv v)
   release [v,ov,iv] []):=by intro _;rfl):PG X (.Subscript o i pos) (gSub to ti t):=by
 intro pins s σ H v u Q I r h
 rw[ha]
 refine wpAny_bind (wpAny_holding (thn (ho pins s σ H _ I h) fun ov s1 ⟨x,H1,I1,r1,q1⟩=> ?_))
 refine wpAny_bind (wpAny_holding (thn (hi pins s1 σ H1 _ I1 q1) fun iv s2 ⟨y,H2,I2,r2,q2⟩=> ?_))
 refine wpAny_bind (wpAny_standAt (wpAny_bind (wpAny_holding (thn (hs pins s2 σ H2 x y v ov iv u _ I2 r1 r2 r q2) fun _ s3 ⟨H3,I3,q3⟩=> ?_))))
 exact wpAny_release ⟨σ,H3,I3,q3⟩
def c08 (te:TE)(g:TG):TS:=fun D σ H=>te σ H fun x H1=>g x σ H1 D.nx
theorem bN7 {tg e:Expr}{te:TE}{g:TG}(he:PE X e te)(hg:PG X tg g)(hs:swapsWithSole [tg] e pos.line X.env=pure false:=by rfl)(hw:swappedStores [tg] e X.env=pure none:=by rfl)
  (h1:(assignEach [tg] X.env).map (·.2)=[assign tg X.env]:=by rfl):PS X (.Assign [tg] e pos) (c08 te g):=by
 intro pins s σ H D I h
 refine wpAny_Assign_stores (thn (he pins s σ H _ I h) fun v s1 ⟨x,H1,I1,r1,q1⟩=> ?_) hs hw
 rw[h1]
 exact thn (hg pins s1 σ H1 x v _ I1 r1 q1) fun _ s2 q=>q
theorem ps_set {i:Nat}{x:Str}{e:Expr}{te:TE}{pos':Pos}(hN:X.N.Nodup)(hi:X.N[i]? =some x)(hx:Loc X.env.scope x)(he:PE X e te)(hs:swapsWith e (some (.Name x pos')) pos.line X.env=pure false:=by rfl)(hf:X.fn x=true∨X.env.scope.names.lookup x=some .local:=by first|exact .inl rfl|exact .inr rfl|assumption) :
  PS X (.Assign [.Name x pos'] e pos) (c08 te (wQ i)):=by
 intro pins s σ H D I h
 refine wpAny_Assign_Name (thn (he pins s σ H _ I h) fun v s1 ⟨y,H1,I1,r1,q1⟩=> ?_) hs
 exact wP I1 hN hi hx r1 (fun s2 I2=>⟨_,H1,I2,q1⟩) hf
def tAug (i:Nat)(te:TE)(ti:TIp):TS:=fun D σ H=> ∃x,σ[i]? =some (some x)∧te σ H fun y H1=>ti x y H1 fun z H2=>D.nx (σ.set i (some z)) H2
theorem ps_aug {i:Nat}{x:Str}{e:Expr}{te:TE}{op:Operator}{ti:TIp}{pos':Pos}(hN:X.N.Nodup)(hi:X.N[i]? =some x)(hx:Loc X.env.scope x)(he:PE X e te)(ho:PIp X op ti)(hf:X.fn x=true∨X.env.scope.names.lookup x=some .local:=by first|exact .inl rfl|exact .inr rfl|assumption) :
  PS X (.AugAssign (.Name x pos') op e pos) (tAug i te ti):=by
 intro pins s σ H D I h
 obtain⟨v,e1,h⟩:=h
 obtain⟨m,hn,hl⟩:=I.loc
 have vis:Vis X.env.scope x:=by rcases hx with k|k;exact .inl k;exact .inr (.inl k)
 obtain⟨u,r,l⟩:=hl i x v hi e1 vis
 refine wpAny_AugAssign_Name ?_
 have go:wpAny (model X.prog X.w) X.A (eval e X.env) (fun w s₂=>wpAny (model X.prog X.w) X.A (inplaceOp op u w) (fun r s₃=>wpAny (model X.prog X.w) X.A (storeName X.env x r) (fun _=>SP X pins D .next) X.xe s₃) X.xe s₂) X.xe s:=by
  refine thn (he pins s σ H _ I h) fun w s1 ⟨y,H1,I1,r1,q1⟩=> ?_
  refine thn (ho pins s1 σ H1 v y u w _ I1 r r1 q1) fun z s2 ⟨zv,H2,I2,r2,q2⟩=> ?_
  exact wP I2 hN hi hx r2 (fun s3 I3=>⟨_,H2,I3,q2⟩) hf
 rcases l with⟨hk,hm⟩| ⟨hk,c,hc,hcell⟩
 ·exact wpAny_loadName_local I.ok.kind hk hn hm go
 ·rcases hk with hk|hk
  ·exact wpAny_loadName_cell I.ok.kind hk hc hcell go
  ·rcases hx with k|k
   ·have:X.env.scope.names.lookup x=some .free:=hk
    rw[k]at this;cases this
   ·have:X.env.scope.names.lookup x=some .free:=hk
    rw[k]at this;cases this
def tAugS (to ti te:TE)(tget:V→V→Hp→VK→Prop)(tip:TIp)(tset:bN5):TS:=fun D σ H=>to σ H fun o H1=>ti σ H1 fun i H2=>tget o i H2 fun x H3=>te σ H3 fun y H4=>tip x y H4 fun z H5=>tset o i z H5 fun H6=>D.nx σ H6
def PGet (X:Cx)(t:V→V→Hp→VK→Prop):Prop:=
 ∀(pins:List (Addr×Obj)) (s:Shared) (σ:St) (H:Hp) (o i:V) (ov iv:Value) (Q:VK),Inv X pins σ H s→RelV o ov→RelV i iv→t o i H Q→
  wpAny (model X.prog X.w) X.A (getItem ov iv) (EP X pins σ Q) X.xe s
theorem c09 {o i e:Expr}{to ti te:TE}{tget:V→V→Hp→VK→Prop}{tip:TIp}{tset:bN5}{op:Operator}{tpos:Pos}(ho:PE X o to)(hi:PE X i ti)(hg:PGet X tget)(he:PE X e te)(hp:PIp X op tip)(hs:PSet X tset)
  (ha: ∀ov iv new,augStore i ov iv new=(do holding [new,ov,iv] (setItem ov iv new);release [new,ov,iv] [];pure .next):=by intros;rfl):PS X (.AugAssign (.Subscript o i tpos) op e pos) (tAugS to ti te tget tip tset):=by
 intro pins s σ H D I h
 refine wpAny_AugAssign_SubscriptAny (thn (ho pins s σ H _ I h) fun ov s1 ⟨x1,H1,I1,r1,q1⟩=> ?_) ha
 refine thn (hi pins s1 σ H1 _ I1 q1) fun iv s2 ⟨x2,H2,I2,r2,q2⟩=> ?_
 refine thn (hg pins s2 σ H2 x1 x2 ov iv _ I2 r1 r2 q2) fun old s3 ⟨x3,H3,I3,r3,q3⟩=> ?_
 refine thn (he pins s3 σ H3 _ I3 q3) fun v s4 ⟨x4,H4,I4,r4,q4⟩=> ?_
 refine thn (hp pins s4 σ H4 x3 x4 old v _ I4 r3 r4 q4) fun new s5 ⟨x5,H5,I5,r5,q5⟩=> ?_
 exact thn (hs pins s5 σ H5 x1 x2 x5 ov iv new _ I5 r1 r2 r5 q5) fun _ s6 ⟨H6,I6,q6⟩=>⟨σ,H6,I6,q6⟩
def ipI (f:Int→Int→Int):TIp:=fun x y H Q=> ∃i j,x= .int i∧y= .int j∧Q (.int (f i j)) H
theorem ip_add:PIp X .Add (ipI fun i j=>i+j):=by
 intro pins s σ H x y v u Q I r1 r2 h
 obtain⟨i,j,e1,e2,q⟩:=h
 subst e1;subst e2
 obtain⟨t,rfl⟩:=r1
 obtain⟨t',rfl⟩:=r2
 exact iadd_int ⟨.int _,H,I.tok _,⟨_,rfl⟩,q⟩
theorem bN8:PIp X .Sub (ipI fun i j=>i-j):=by
 intro pins s σ H x y v u Q I r1 r2 h
 obtain⟨i,j,e1,e2,q⟩:=h
 subst e1;subst e2
 obtain⟨t,rfl⟩:=r1
 obtain⟨t',rfl⟩:=r2
 exact isub_int ⟨.int _,H,I.tok _,⟨_,rfl⟩,q⟩
end
section
variable {X:Cx}{pos:Pos}
def tWhile (c:TT)(tb:TS):TS:=fun D σ H=> ∃W:Nat→St→Hp→Prop,(∃m,W m σ H)∧ ∀m σ H,W m σ H→
 c σ H fun b H1=>if b=true then ∃N:St→Hp→Prop,(∀σ' H',N σ' H'→ ∃m',m'<m∧W m' σ' H')∧tb {D with nx:=N,ct:=N,bk:=D.nx} σ H1 else D.nx σ H1
theorem bN9 {c:Expr}{body:List Stmt}{tc:TT}{tb:TS}(hp:PassesOwn (model X.prog X.w) X.A X.env X.xe)(hc:PT X c tc)(hb:PSs X body tb):PS X (.While c body [] pos) (tWhile tc tb):=by
 intro pins s σ H D I h
 obtain⟨W,⟨m0,w0⟩,turn⟩:=h
 refine wpAny_While (codeAny_whileLoop (fun n s'=> ∃σ' H',Inv X pins σ' H' s'∧W n σ' H') ?_ m0 ⟨σ,H,I,w0⟩)
 rintro n s1 ⟨σ1,H1,I1,w1⟩
 refine wpAny_passesOwn hp (thn (hc pins s1 σ1 H1 _ I1 (turn n σ1 H1 w1)) fun b s2 ⟨H2,I2,q2⟩=> ?_)
 cases b with
 | true=>
  obtain⟨N,hN,q2⟩:=q2
  rw[if_pos rfl]
  refine wpAny_passesOwn hp (thn (hb pins s2 σ1 H2 _ I2 q2) fun f s3 q3=> ?_)
  cases f with
  | next=>
   obtain⟨σ3,H3,I3,n3⟩:=q3
   obtain⟨m',hm,w3⟩:=hN σ3 H3 n3
   exact⟨m',hm,σ3,H3,I3,w3⟩
  | cont=>
   obtain⟨σ3,H3,I3,n3⟩:=q3
   obtain⟨m',hm,w3⟩:=hN σ3 H3 n3
   exact⟨m',hm,σ3,H3,I3,w3⟩
  | brk=>exact q3
  | ret v=>exact q3
 | false=>
  rw[if_neg Bool.false_ne_true]
  exact wpAny_execs_nil ⟨σ1,H2,I2,q2⟩
end
structure It where
 go:Nat→Hp→Prop
 yld:Nat→Hp→V→Hp→Prop
 stop:Nat→Hp→Prop
def xZ (X:Cx)(pins:List (Addr×Obj))(H:Hp)(b:Addr):Prop:=
 H b=none∧b≠X.env.locals∧b ∉ X.fs∧(b∈X.ex∨X.s₀.heap.objs.size≤b)∧(∀x c,X.env.cells.lookup x=some c→c≠b)∧ ∀p∈X.pn++pins,p.1≠b
theorem Inv.fpOk {X:Cx}{pins:List (Addr×Obj)}{σ:St}{H H':Hp}{s:Shared}{b:Addr}(I:Inv X pins σ H s)(hb:s.heap.objs.size≤b)(hn:H' b=none):xZ X pins H' b:=by
 refine⟨hn,Nat.ne_of_gt (Nat.lt_of_lt_of_le I.lt hb),I.nofs hb,.inr (Nat.le_trans I.sz hb),fun x c e z=> ?_,fun p hp z=> ?_⟩
 ·obtain⟨v,q⟩:=I.cell x c e
  exact absurd (Nat.lt_of_lt_of_le q.lt (by rw[z];exact hb)) (Nat.lt_irrefl _)
 ·exact absurd (Nat.lt_of_lt_of_le (Heap.lt_size (I.pin p hp).1) (by rw[z];exact hb)) (Nat.lt_irrefl _)
structure b37 (P:Program)(w:World)(K:PySem.W.Frag)(tg:Expr)(J:It)(fp:List Addr)(it:Addr)(tn:Nat→Heap→Prop):Prop where
 mem:it∈fp
 obj: ∀i h,tn i h→ ∀b∈fp,∃o,h.get? b=some o∧ ∀v,o.data≠ .cell v
 keep: ∀i h h',tn i h→(∀b∈fp,∀o,h.get? b=some o→h'.get? b=some o)→tn i h'
 item: ∀(X:Cx),X.prog=P→X.w=w→X.K=K→X.calm=true→ ∀(i:Nat) (pins:List (Addr×Obj)) (s:Shared) (σ:St) (H:Hp) (E:Value→Shared→Prop),Inv X pins σ H s→(∀b∈fp,xZ X pins H b)→tn i s.heap→J.go i H→
  wpAny (model P w) X.A (pyNext (.ref it)) (fun r s1=> ∃u,r=some u∧
   wpAny (model P w) X.A (letOwnedTupleGo tg (.ref it) u) (fun _ s2=> ∃x H',Inv X pins σ H' s2∧RelV x u∧J.yld i H x H'∧tn (i+1) s2.heap∧ ∀b∈fp,H' b=none) E s1) E s
 done: ∀(X:Cx),X.prog=P→X.w=w→X.K=K→X.calm=true→ ∀(i:Nat) (pins:List (Addr×Obj)) (s:Shared) (σ:St) (H:Hp) (E:Value→Shared→Prop),Inv X pins σ H s→(∀b∈fp,xZ X pins H b)→tn i s.heap→J.stop i H→
  wpAny (model P w) X.A (pyNext (.ref it)) (fun r s1=>r=none∧Inv X pins σ H s1) E s
 self: ∀(A:Around) (i:Nat) (s:Shared) (Q:Value→Shared→Prop) (E:Value→Shared→Prop),tn i s.heap→Q (.ref it) s→wpAny (model P w) A (pyIter (.ref it)) Q E s
abbrev TI:=St→Hp→(It→Hp→Prop)→Prop
def PIE (X:Cx)(pins:List (Addr×Obj))(σ:St)(tg:Expr)(R:It→Hp→Prop)(itv:Value)(s2:Shared):Prop:=
 ∃(it:Addr) (fp:List Addr) (tn:Nat→Heap→Prop) (J:It) (H':Hp),itv= .ref it∧Inv X pins σ H' s2∧b37 X.prog X.w X.K tg J fp it tn∧tn 0 s2.heap∧(∀b∈fp,xZ X pins H' b)∧R J H'
def PI (X:Cx)(tg iter:Expr)(wi:TI):Prop:=
 ∀(pins:List (Addr×Obj)) (s:Shared) (σ:St) (H:Hp) (R:It→Hp→Prop),Inv X pins σ H s→wi σ H R→
  wpAny (model X.prog X.w) X.A (eval iter X.env) (fun v s1=>wpAny (model X.prog X.w) X.A (pyIter v) (PIE X pins σ tg R) X.xe s1) X.xe s
theorem aW0 {M:Model}{A:Around}{E:Value→Shared→Prop}{s:Shared}{tg:Expr}{it:Addr}{u:Value}{o:Obj}{n:String}{vs:Array Value}{Q:Unit→Shared→Prop}(ho:s.heap.get? it=some o)(hc:o.cls= .type n)(hd:o.data= .fields vs)
  (hn:["enumerate","zip","dict_itemiterator","dict_reverseitemiterator","odict_iterator","itertools.zip_longest","itertools.pairwise"].contains n=false) (hQ:Q () s):wpAny M A (letOwnedTupleGo tg (.ref it) u) Q E s:=by
 unfold letOwnedTupleGo
 cases tg<;>first
  | exact wpAny_pure hQ
  | (cases u<;>first
    | exact wpAny_pure hQ
    | (refine wpAny_bind (wpAny_load ho ?_)
       rw[hc,hd]
       show wpAny M A (if(["enumerate","zip","dict_itemiterator","dict_reverseitemiterator","odict_iterator","itertools.zip_longest","itertools.pairwise"].contains n&&vs[0]? ==some (rawInt _))=true then _ else _) Q E s
       rw[if_neg (by intro h;rw[hn,Bool.false_and]at h;cases h)]
       exact wpAny_pure hQ))
def Itl (K:PySem.W.Frag)(a:Addr):It:=
 ⟨fun i H=> ∃xs x,SqL K H a xs∧xs[i]? =some x,fun i H x H'=>H'=H∧ ∀xs,SqL K H a xs→xs[i]? =some x,fun i H=> ∃xs,SqL K H a xs∧xs.length≤i⟩
def Itt (K:PySem.W.Frag)(a:Addr):It:=
 ⟨fun i H=> ∃xs x,SqT K H a xs∧xs[i]? =some x,fun i H x H'=>H'=H∧ ∀xs,SqT K H a xs→xs[i]? =some x,fun i H=> ∃xs,SqT K H a xs∧xs.length≤i⟩
def Itr (lo:Int)(n:Nat):It:=⟨fun i _=>i<n,fun i H x H'=>H'=H∧x= .int (lo+i),fun i _=>n≤i⟩
theorem bF9 {P:Program}{w:World}{K:PySem.W.Frag}{tg:Expr}(a it:Addr):b37 P w K tg (Itl K a) [it] it (fun i h=>h.IsListIter it a i) where
 mem:=by simp
 obj:=fun i h st b hb=>by
  have e:b=it:=by simpa using hb
  subst e
  obtain⟨o,e,c,d⟩:=st
  exact⟨o,e,fun v z=>by rw[d]at z;cases z⟩
 keep:=fun i h h' st k=>st.at fun o e=>k it (by simp) o e
 item:=by
  intro X hP hw hK hc i pins s σ H E I hf st hg
  subst hP hw hK
  obtain⟨xs,x,hq,hx⟩:=hg
  obtain⟨its,rv,p,hz⟩:=I.list hq
  obtain⟨u,hu,ru⟩:=rv.get hx
  obtain⟨f0,f1,f2,f3,f4,f5⟩:=hf it (by simp)
  refine wpAny_pyNext_list_item st p.isList (x:=u) (by simpa using hu) fun h' st' sb=> ?_
  have I1:Inv X pins σ H {s with heap:=h'}:=I.turned (t':=s.toks) (fun b o hb e=>(sb.2 b hb).trans e) f0 f1 f3 f4 f5
  obtain⟨o,e,c,d⟩:=id st'
  exact⟨u,rfl,aW0 (s:={s with heap:=h'}) e c d (by decide) ⟨x,H,I1,ru,⟨rfl,fun ys hy=>by rw[I.list_inj hy hq];exact hx⟩,st',fun b hb=>(hf b hb).1⟩⟩
 done:=by
  intro X hP hw hK hc i pins s σ H E I hf st hg
  subst hP hw hK
  obtain⟨xs,hq,hx⟩:=hg
  obtain⟨its,rv,p,hz⟩:=I.list hq
  obtain⟨f0,f1,f2,f3,f4,f5⟩:=hf it (by simp)
  have hl:=rv.length
  exact wpAny_pyNext_list_end (I.ok.hd hc) st p.isList (by simp;omega) fun h' eb=>⟨rfl,I.turned (t':=s.toks) (fun b o hb e=>eb b o hb e) f0 f1 f3 f4 f5⟩
 self:=fun _ _ _ _ _ st h=>wpAny_pyIter_listiter st h
theorem b38 {P:Program}{w:World}{K:PySem.W.Frag}{tg:Expr}(a it:Addr):b37 P w K tg (Itt K a) [it] it (fun i h=>h.IsTupleIter it a i) where
 mem:=by simp
 obj:=fun i h st b hb=>by
  have e:b=it:=by simpa using hb
  subst e
  obtain⟨o,e,c,d⟩:=st
  exact⟨o,e,fun v z=>by rw[d]at z;cases z⟩
 keep:=fun i h h' st k=>st.at fun o e=>k it (by simp) o e
 item:=by
  intro X hP hw hK hc i pins s σ H E I hf st hg
  subst hP hw hK
  obtain⟨xs,x,hq,hx⟩:=hg
  obtain⟨its,rv,p,hz⟩:=I.tuple hq
  obtain⟨u,hu,ru⟩:=rv.get hx
  obtain⟨f0,f1,f2,f3,f4,f5⟩:=hf it (by simp)
  refine wpAny_pyNext_tuple_item st (show s.heap.IsTuple a its.toArray from p) (x:=u) (by simpa using hu) fun h' st' sb=> ?_
  have I1:Inv X pins σ H {s with heap:=h'}:=I.turned (t':=s.toks) (fun b o hb e=>(sb.2 b hb).trans e) f0 f1 f3 f4 f5
  obtain⟨o,e,c,d⟩:=id st'
  exact⟨u,rfl,aW0 (s:={s with heap:=h'}) e c d (by decide) ⟨x,H,I1,ru,⟨rfl,fun ys hy=>by rw[I.tuple_inj hy hq];exact hx⟩,st',fun b hb=>(hf b hb).1⟩⟩
 done:=by
  intro X hP hw hK hc i pins s σ H E I hf st hg
  subst hP hw hK
  obtain⟨xs,hq,hx⟩:=hg
  obtain⟨its,rv,p,hz⟩:=I.tuple hq
  obtain⟨f0,f1,f2,f3,f4,f5⟩:=hf it (by simp)
  have hl:=rv.length
  exact wpAny_pyNext_tuple_end (I.ok.hd hc) st (show s.heap.IsTuple a its.toArray from p) (by simp;omega) fun h' eb=>⟨rfl,I.turned (t':=s.toks) (fun b o hb e=>eb b o hb e) f0 f1 f3 f4 f5⟩
 self:=fun _ _ _ _ _ st h=>wpAny_pyIter_tupleiter st h
theorem b39 {P:Program}{w:World}{K:PySem.W.Frag}{tg:Expr}(it:Addr)(lo:Int)(n:Nat):b37 P w K tg (Itr lo n) [it] it (fun i h=>IsRangeIter h it (lo+(i:Nat)*1) ((n:Int)-(i:Nat)) 1) where
 mem:=by simp
 obj:=fun i h st b hb=>by
  have e:b=it:=by simpa using hb
  subst e
  exact⟨_,st,fun v z=>by
   have z':Data.fields _=Data.cell v:=z
   cases z'⟩
 keep:=fun i h h' st k=>k it (by simp) _ st
 item:=by
  intro X hP hw hK hc i pins s σ H E I hf st hg
  subst hP hw hK
  obtain⟨f0,f1,f2,f3,f4,f5⟩:=hf it (by simp)
  have W:=Walks.range (prog:=X.prog) (w:=X.w) (I.ok.hd hc) it lo 1 n
  refine W.item i s _ _ hg st fun v h' tk hv st' kk=> ?_
  obtain⟨t,rfl⟩:=hv
  have I1:Inv X pins σ H {s with heap:=h',toks:=tk}:=I.turned (fun b o hb e=>kk b o (by simpa using hb) e) f0 f1 f3 f4 f5
  refine⟨_,rfl,aW0 (s:={s with heap:=h',toks:=tk}) (n:="range_iterator") st' rfl rfl (by decide) ⟨.int (lo+i),H,I1,⟨t,?_⟩,⟨rfl,rfl⟩,st',fun b hb=>(hf b hb).1⟩⟩
  rw[Int.mul_one]
 done:=by
  intro X hP hw hK hc i pins s σ H E I hf st hg
  subst hP hw hK
  obtain⟨f0,f1,f2,f3,f4,f5⟩:=hf it (by simp)
  exact wpAny_pyNext_range_end (I.ok.hd hc) st (by have:n≤i:=hg;omega) fun h' eb=>⟨rfl,I.turned (t':=s.toks) (fun b o hb e=>eb b o hb e) f0 f1 f3 f4 f5⟩
 self:=fun _ _ _ _ _ st h=>wpAny_pyIter_rangeiter st h
end L2
namespace L2
open PySem PySem.Spec PyProof.Rows
section
variable {X:Cx}{tg:Expr}
theorem aW1 {pins:List (Addr×Obj)}{σ:St}{H:Hp}{s:Shared}{R:It→Hp→Prop}{E:Value→Shared→Prop}{lo hi:Int}{t u v:Tok}{tk:Nat}(I:Inv X pins σ H s)(h1: -(2^62)≤lo)(h2:lo<2^62)(h3: -(2^62)≤hi)(h4:hi<2^62)
  (q:R (Itr lo (hi-lo).toNat) H):wpAny (model X.prog X.w) X.A (pyIter (.ref s.heap.objs.size)) (PIE X pins σ tg R) E {s with heap:=s.heap.push {cls:= .type "range",data:= .fields #[.int lo t,.int hi u,.int 1 v]},toks:=tk}:=by
 refine wpAny_pyIter_range (IsRange.new ..) (small_one h1 h2 h3 h4) ?_
 have I1:Inv X pins σ H {s with heap:=s.heap.push {cls:= .type "range",data:= .fields #[.int lo t,.int hi u,.int 1 v]},toks:=tk}:=I.kept fun b o e=>Heap.get?_push_of_some _ e
 refine⟨(s.heap.push {cls:= .type "range",data:= .fields #[.int lo t,.int hi u,.int 1 v]}).objs.size,[(s.heap.push {cls:= .type "range",data:= .fields #[.int lo t,.int hi u,.int 1 v]}).objs.size],_,_,H,rfl,
  I1.kept (t':=tk) fun b o e=>Heap.get?_push_of_some _ e,b39 _ lo (hi-lo).toNat,?_,fun b hb=> ?_,q⟩
 ·have e1:lo+((0:Nat):Int)*1=lo:=by simp
  have e2:(((hi-lo).toNat:Nat):Int)-((0:Nat):Int)=Builtin.Range.rangeSize lo hi 1:=by rw[rangeSize_one];split<;>omega
  show IsRangeIter _ _ (lo+((0:Nat):Int)*1) ((((hi-lo).toNat:Nat):Int)-((0:Nat):Int)) 1
  rw[e1,e2]
  exact Heap.get?_push_size _ rfl
 ·have e:b=(s.heap.push {cls:= .type "range",data:= .fields #[.int lo t,.int hi u,.int 1 v]}).objs.size:=by simpa using hb
  subst e
  exact I1.fpOk (Nat.le_refl _) (I1.hok.fresh (Nat.le_refl _))
def iRng1 (ta:TA):TI:=fun σ H R=>ta σ H fun vs H1=> ∃j:Int,vs=[.int j]∧ -(2^62)≤j∧j<2^62∧R (Itr 0 j.toNat) H1
def iRng2 (ta:TA):TI:=fun σ H R=>ta σ H fun vs H1=> ∃i j:Int,vs=[.int i,.int j]∧(-(2^62)≤i∧i<2^62∧ -(2^62)≤j∧j<2^62)∧R (Itr i (j-i).toNat) H1
theorem bG0 {a:Expr}{ta:TA}{p pos:Pos}(hg:Gl X "range")(hm:X.mg "range"=none)(ha:PA X [a] ta)(hs:starEach [a] X.env=[(false,eval a X.env)]:=by rfl):PI X tg (.Call (.Name "range" p) [a] [] pos) (iRng1 ta):=by
 intro pins s σ H R I h
 refine Call_ (oV I hg hm boot_range (PyProof.Rows.callWith_type1 (thn (ha pos pins s σ H _ I h) fun us s1 ⟨vs,H1,I1,r1,q1⟩=> ?_) hs rfl))
 obtain⟨j,e,q1,q2,q⟩:=q1
 subst e
 cases r1 with
 | cons r rr=>
  cases rr
  obtain⟨t,rfl⟩:=r
  exact call_range_1 (aW1 I1 (by omega) (by omega) q1 q2 (by simpa using q))
theorem bG1 {a b:Expr}{ta:TA}{p pos:Pos}(hg:Gl X "range")(hm:X.mg "range"=none)(ha:PA X [a,b] ta)(hs:starEach [a,b] X.env=[(false,eval a X.env),(false,eval b X.env)]:=by rfl)(hs2:starEach [b] X.env=[(false,eval b X.env)]:=by rfl) :
  PI X tg (.Call (.Name "range" p) [a,b] [] pos) (iRng2 ta):=by
 intro pins s σ H R I h
 refine Call_ (oV I hg hm boot_range (PyProof.Rows.callWith_type1 (thn (ha pos pins s σ H _ I h) fun us s1 ⟨vs,H1,I1,r1,q1⟩=> ?_) (by rw[hs,hs2]) (by rw[hs2];rfl)))
 obtain⟨i,j,e,⟨q1,q2,q3,q4⟩,q⟩:=q1
 subst e
 cases r1 with
 | cons r rr=>
  cases rr with
  | cons r' rr=>
   cases rr
   obtain⟨t,rfl⟩:=r
   obtain⟨t',rfl⟩:=r'
   exact call_range_2 (aW1 I1 q1 q2 q3 q4 q)
def tFor (wi:TI)(g:TG)(tb:TS):TS:=fun D σ H=>wi σ H fun J H1=> ∃W:Nat→Nat→St→Hp→Prop,(∃m,W 0 m σ H1)∧ ∀i m σ H,W i m σ H→
 (J.stop i H∧D.nx σ H)∨(J.go i H∧ ∃N:St→Hp→Prop,(∀σ' H',N σ' H'→ ∃m',m'<m∧W (i+1) m' σ' H')∧ ∀x H',J.yld i H x H'→g x σ H' fun σ2 H2=>tb {D with nx:=N,ct:=N,bk:=D.nx} σ2 H2)
def a80 (fp:List Addr)(h:Heap):List (Addr×Obj):=fp.filterMap fun b=>(h.get? b).map fun o=>(b,o)
theorem qX {fp:List Addr}{h:Heap}{b:Addr}{o:Obj}(hb:b∈fp)(e:h.get? b=some o):(b,o)∈a80 fp h:=List.mem_filterMap.mpr ⟨b,hb,by rw[e];rfl⟩
theorem bG2 {fp:List Addr}{h:Heap}{p:Addr×Obj}(hp:p∈a80 fp h):p.1∈fp∧h.get? p.1=some p.2:=by
 obtain⟨b,hb,e⟩:=List.mem_filterMap.mp hp
 cases q:h.get? b with
 | none=>rw[q]at e;cases e
 | some o=>
  rw[q]at e
  have e':(b,o)=p:=Option.some.inj e
  subst e'
  exact⟨hb,q⟩
theorem Inv.pinned {pins:List (Addr×Obj)}{σ:St}{H:Hp}{s:Shared}{fp:List Addr}(I:Inv X pins σ H s)(hf: ∀b∈fp,xZ X pins H b)(ho: ∀b∈fp,∃o,s.heap.get? b=some o∧ ∀v,o.data≠ .cell v):Inv X (pins++a80 fp s.heap) σ H s:=
 I.pins_of fun p hp=>(List.mem_append.mp hp).elim (fun z=>I.pin p (List.mem_append_right _ z)) fun z=>by
  obtain⟨hb,e⟩:=bG2 z
  obtain⟨f0,f1,f2,_⟩:=hf p.1 hb
  obtain⟨o,e',d⟩:=ho p.1 hb
  rw[e]at e';cases e'
  exact⟨e,f0,f1,f2,d⟩
theorem Inv.unpinned {pins pl:List (Addr×Obj)}{σ:St}{H:Hp}{s:Shared}(I:Inv X (pins++pl) σ H s):Inv X pins σ H s:=I.pins_of fun p hp=>I.pin p (List.mem_append_right _ (List.mem_append_left _ hp))
theorem ps_for {iter:Expr}{body:List Stmt}{wi:TI}{g:TG}{tb:TS}{pos:Pos}(hp:PassesOwn (model X.prog X.w) X.A X.env X.xe)(hc:X.calm=true)(hi:PI X tg iter wi)(hg:PG X tg g)(hb:PSs X body tb)
  (hs: ∀x,foldedSetIterable iter X.env x=pure x:=by intro _;rfl):PS X (.For tg iter body [] pos) (tFor wi g tb):=by
 intro pins s σ H D I h
 refine wpAny_For (thn (hi pins s σ H _ I h) fun v s1 h1=>thn h1 fun itv s2 h2=> ?_) hs
 obtain⟨it,fp,tn,J,H2,e,I2,T,st2,f2,W,⟨m0,w0⟩,turn⟩:=h2
 subst e
 have stat: ∀{H':Hp},(∀b∈fp,H' b=none)→ ∀b∈fp,xZ X pins H' b:=fun hn b hb=>⟨hn b hb,(f2 b hb).2⟩
 refine codeAny_forLoop_any (fun n s'=> ∃i σ' H',Inv X pins σ' H' s'∧tn i s'.heap∧(∀b∈fp,H' b=none)∧W i n σ' H') ?_ m0 ⟨0,σ,H2,I2,st2,fun b hb=>(f2 b hb).1,w0⟩
 rintro n s3 ⟨i,σ3,H3,I3,st3,fr3,w3⟩
 rcases turn i n σ3 H3 w3 with⟨stop,qn⟩| ⟨go,N,hN,step⟩
 ·refine wpAny_passesOwn hp (thn (T.done X rfl rfl rfl hc i pins s3 σ3 H3 X.xe I3 (stat fr3) st3 stop) fun r s4 ⟨hr,I4⟩=> ?_)
  subst hr
  exact wpAny_execs_nil ⟨σ3,H3,I4,qn⟩
 ·refine wpAny_passesOwn hp (thn (T.item X rfl rfl rfl hc i pins s3 σ3 H3 X.xe I3 (stat fr3) st3 go) fun r s4 ⟨u,hr,h4⟩=> ?_)
  subst hr
  refine wpAny_passesOwn hp (thn h4 fun _ s5 ⟨x,H5,I5,r5,y5,st5,fr5⟩=> ?_)
  have I5':=I5.pinned (stat fr5) (T.obj _ _ st5)
  refine wpAny_passesOwn hp (thn (hg _ s5 σ3 H5 x u _ I5' r5 (step x H5 y5)) fun _ s6 ⟨σ6,H6,I6,q6⟩=> ?_)
  refine wpAny_passesOwn hp (thn (hb _ s6 σ6 H6 _ I6 q6) fun f s7 q7=> ?_)
  have again: ∀{σ7:St} {H7:Hp},Inv X (pins++a80 fp s5.heap) σ7 H7 s7→N σ7 H7→ ∃m,m<n∧ ∃i σ' H',Inv X pins σ' H' s7∧tn i s7.heap∧(∀b∈fp,H' b=none)∧W i m σ' H':=fun {σ7 H7} I7 n7=>by
   obtain⟨m',hm,w7⟩:=hN σ7 H7 n7
   refine⟨m',hm,i+1,σ7,H7,I7.unpinned,T.keep _ _ _ st5 fun b hb o e=>(I7.pin (b,o) (List.mem_append_right _ (List.mem_append_right _ (qX hb e)))).1,fun b hb=> ?_,w7⟩
   obtain⟨o,e,d⟩:=T.obj _ _ st5 b hb
   exact(I7.pin (b,o) (List.mem_append_right _ (List.mem_append_right _ (qX hb e)))).2.1
  cases f with
  | next=>obtain⟨σ7,H7,I7,n7⟩:=q7;exact again I7 n7
  | cont=>obtain⟨σ7,H7,I7,n7⟩:=q7;exact again I7 n7
  | brk=>obtain⟨σ7,H7,I7,q7⟩:=q7;exact⟨σ7,H7,I7.unpinned,q7⟩
  | ret v=>obtain⟨x7,σ7,H7,I7,r7,q7⟩:=q7;exact⟨x7,σ7,H7,I7.unpinned,r7,q7⟩
end
end L2
namespace L2
open PySem PySem.Spec PyProof.Rows
abbrev R2:=V→V→Hp→VK→Prop
def OpR (X:Cx)(f:Value→Value→Sem Value)(r:R2):Prop:=
 ∀(pins:List (Addr×Obj)) (s:Shared) (σ:St) (H:Hp) (x y:V) (v u:Value) (Q:VK),Inv X pins σ H s→RelV x v→RelV y u→r x y H Q→
  wpAny (model X.prog X.w) X.A (f v u) (EP X pins σ Q) X.xe s
def UnR (X:Cx)(f:Value→Sem Value)(r:V→Hp→VK→Prop):Prop:=
 ∀(pins:List (Addr×Obj)) (s:Shared) (σ:St) (H:Hp) (x:V) (v:Value) (Q:VK),Inv X pins σ H s→RelV x v→r x H Q→
  wpAny (model X.prog X.w) X.A (f v) (EP X pins σ Q) X.xe s
def j0 (X:Cx)(f:Value)(r:List V→Hp→VK→Prop):Prop:=
 ∀(pins:List (Addr×Obj)) (s:Shared) (σ:St) (H:Hp) (xs:List V) (us:List Value) (Q:VK),Inv X pins σ H s→Vals xs us→r xs H Q→
  wpAny (model X.prog X.w) X.A (call f us) (EP X pins σ Q) X.xe s
def tOp (r:R2)(ta tb:TE):TE:=fun σ H Q=>ta σ H fun x H1=>tb σ H1 fun y H2=>r x y H2 Q
def tUn (r:V→Hp→VK→Prop)(ta:TE):TE:=fun σ H Q=>ta σ H fun x H1=>r x H1 Q
def rI (C:Int→Int→Prop)(g:Int→Int→V):R2:=fun x y H Q=> ∃i j,x= .int i∧y= .int j∧C i j∧Q (g i j) H
def rI0 (g:Int→Int→V):R2:=fun x y H Q=> ∃i j,x= .int i∧y= .int j∧Q (g i j) H
def rU (g:Int→V):V→Hp→VK→Prop:=fun x H Q=> ∃i,x= .int i∧Q (g i) H
section
variable {X:Cx}{a b c:Expr}{ta tb tc:TE}{pos:Pos}
theorem binT (ha:PE X a ta)(hb:PE X b tb){pins:List (Addr×Obj)}{s:Shared}{σ:St}{H:Hp}{R:V→V→Hp→Prop}(I:Inv X pins σ H s)
  (h:ta σ H fun x H1=>tb σ H1 fun y H2=>R x y H2) {Q:Value→Shared→Prop} {f:Value→Value→Sem Value}
  (hf: ∀v u s2 x y H2,Inv X pins σ H2 s2→RelV x v→RelV y u→R x y H2→wpAny (model X.prog X.w) X.A (f v u) Q X.xe s2) :
  wpAny (model X.prog X.w) X.A (eval a X.env) (fun v s₁=>wpAny (model X.prog X.w) X.A (eval b X.env) (fun u s₂=>wpAny (model X.prog X.w) X.A (f v u) Q X.xe s₂) X.xe s₁) X.xe s:=by
 refine thn (ha pins s σ H _ I h) fun v s1 ⟨x,H1,I1,r1,q1⟩=> ?_
 refine thn (hb pins s1 σ H1 _ I1 q1) fun u s2 ⟨y,H2,I2,r2,q2⟩=> ?_
 exact hf v u s2 x y H2 I2 r1 r2 q2
theorem pe_op {op:Operator}{r:R2}(ho:OpR X (binaryOp op) r)(ha:PE X a ta)(hb:PE X b tb):PE X (.BinOp a op b pos) (tOp r ta tb):=by
 intro pins s σ H Q I h
 exact wpAny_BinOp (binT ha hb I h fun v u s2 x y H2 I2 rx ry q=>ho pins s2 σ H2 x y v u Q I2 rx ry q)
theorem pe_un {op:UnaryOp}{r:V→Hp→VK→Prop}(ho:UnR X (unaryOp op) r)(ha:PE X a ta):PE X (.UnaryOp op a pos) (tUn r ta):=by
 intro pins s σ H Q I h
 exact UnaryOp_ (thn (ha pins s σ H _ I h) fun v s1 ⟨x,H1,I1,r1,q1⟩=>ho pins s1 σ H1 x v Q I1 r1 q1)
theorem opI {f:Value→Value→Sem Value}{C:Int→Int→Prop}{g:Int→Int→Int}
  (rule: ∀(i j:Int) (t u:Tok) (s:Shared) (Q:Value→Shared→Prop) (E:Value→Shared→Prop),C i j→Q (.int (g i j) s.toks) {s with toks:=s.toks+1}→wpAny (model X.prog X.w) X.A (f (.int i t) (.int j u)) Q E s) :
  OpR X f (rI C fun i j=> .int (g i j)):=by
 intro pins s σ H x y v u Q I rx ry h
 obtain⟨i,j,rfl,rfl,hc,q⟩:=h
 obtain⟨t,rfl⟩:=rx
 obtain⟨t',rfl⟩:=ry
 exact rule i j t t' s _ _ hc ⟨.int (g i j),H,I.tok _,⟨_,rfl⟩,q⟩
theorem opI0 {f:Value→Value→Sem Value}{g:Int→Int→Int}
  (rule: ∀(i j:Int) (t u:Tok) (s:Shared) (Q:Value→Shared→Prop) (E:Value→Shared→Prop),Q (.int (g i j) s.toks) {s with toks:=s.toks+1}→wpAny (model X.prog X.w) X.A (f (.int i t) (.int j u)) Q E s) :
  OpR X f (rI0 fun i j=> .int (g i j)):=by
 intro pins s σ H x y v u Q I rx ry h
 obtain⟨i,j,rfl,rfl,q⟩:=h
 obtain⟨t,rfl⟩:=rx
 obtain⟨t',rfl⟩:=ry
 exact rule i j t t' s _ _ ⟨.int (g i j),H,I.tok _,⟨_,rfl⟩,q⟩
theorem c53 {f:Value→Value→Sem Value}{g:Int→Int→Bool}
  (rule: ∀(i j:Int) (t u:Tok) (s:Shared) (Q:Value→Shared→Prop) (E:Value→Shared→Prop),Q (.bool (g i j)) s→wpAny (model X.prog X.w) X.A (f (.int i t) (.int j u)) Q E s) :
  OpR X f (rI0 fun i j=> .bl (g i j)):=by
 intro pins s σ H x y v u Q I rx ry h
 obtain⟨i,j,rfl,rfl,q⟩:=h
 obtain⟨t,rfl⟩:=rx
 obtain⟨t',rfl⟩:=ry
 exact rule i j t t' s _ _ ⟨.bl (g i j),H,I,rfl,q⟩
def c54 (i j:Int):Prop:=0≤j∧j≤1000000∧i.natAbs<2^64
def b40 (i j:Int):Prop:=(-(2^64)<i∧i<2^64)∨(-(2^64)<j∧j<2^64)
theorem b40.ok {i j:Int}(h:b40 i j):IntMulOk i j:=by
 rcases h with⟨h1,h2⟩| ⟨h1,h2⟩
 ·exact .of_left (intBits_le_64 h1 h2)
 ·exact .of_right (intBits_le_64 h1 h2)
theorem op_add:OpR X (binaryOp .Add) (rI0 fun i j=> .int (i+j)):=opI0 fun _ _ _ _ _ _ _ q=>add_int q
theorem op_sub:OpR X (binaryOp .Sub) (rI0 fun i j=> .int (i-j)):=opI0 fun _ _ _ _ _ _ _ q=>sub_int q
theorem c55:OpR X (binaryOp .Mod) (rI (fun _ j=>j≠0) fun i j=> .int (i.fmod j)):=opI fun _ _ _ _ _ _ _ hc q=>mod_int' hc q
theorem op_pow:OpR X (binaryOp .Pow) (rI c54 fun i j=> .int (i^j.toNat)):=opI fun _ _ _ _ _ _ _ hc q=>pow_int_small hc.1 hc.2.1 hc.2.2 q
theorem unI {f:Value→Sem Value}{g:Int→Int}
  (rule: ∀(i:Int) (t:Tok) (s:Shared) (Q:Value→Shared→Prop) (E:Value→Shared→Prop),Q (.int (g i) s.toks) {s with toks:=s.toks+1}→wpAny (model X.prog X.w) X.A (f (.int i t)) Q E s) :
  UnR X f (rU fun i=> .int (g i)):=by
 intro pins s σ H x v Q I rx h
 obtain⟨i,rfl,q⟩:=h
 obtain⟨t,rfl⟩:=rx
 exact rule i t s _ _ ⟨.int (g i),H,I.tok _,⟨_,rfl⟩,q⟩
theorem un_neg:UnR X (unaryOp .USub) (rU fun i=> .int (-i)):=unI fun _ _ _ _ _ q=>neg_int q
end
def scal:V→V→Bool
 | .non,.non=>true| .non,.int _=>true| .int _,.non=>true| .non,.bl _=>true| .bl _,.non=>true| .non,.str _=>true| .str _,.non=>true
 | .int _,.int _=>true| .bl _,.bl _=>true| .str _,.str _=>true| .byt _,.byt _=>true
 | .int _,.str _=>true| .str _,.int _=>true| .bl _,.str _=>true| .str _,.bl _=>true
 | _,_=>false
def rEq:R2:=fun x y H Q=>scal x y=true∧Q (.bl (decide (x=y))) H
def rNe:R2:=fun x y H Q=>scal x y=true∧Q (.bl (!decide (x=y))) H
theorem a63 {i j:Int}:decide (V.int i=V.int j)=(i==j):=by
 rw[Bool.eq_iff_iff]
 simp
theorem aO7 {i j:Bool}:decide (V.bl i=V.bl j)=(i==j):=by
 rw[Bool.eq_iff_iff]
 simp
theorem a64 {i j:Str}:decide (V.str i=V.str j)=(i==j):=by
 rw[Bool.eq_iff_iff]
 simp
theorem bA8 {i j:Array UInt8}:decide (V.byt i=V.byt j)=(i.toList==j.toList):=by
 rw[Bool.eq_iff_iff]
 cases i
 cases j
 simp
section
variable {X:Cx}{a b c:Expr}{ta tb tc:TE}{pos:Pos}
theorem dC {pins:List (Addr×Obj)}{σ:St}{H:Hp}{s:Shared}{Q:VK}{k k':Bool}(I:Inv X pins σ H s)(q:Q (.bl k) H)(e:k=k'):EP X pins σ Q (.bool k') s:=by
 subst e
 exact⟨.bl k,H,I,rfl,q⟩
theorem bO0:OpR X (compareOp .Eq) rEq:=by
 intro pins s σ H x y v u Q I rx ry h
 obtain⟨hs,q⟩:=h
 cases x with
 | non=>
  cases rx
  cases y with
  | non=>cases ry;exact PySem.EqNone.eq_none_none (dC I q (by simp))
  | bl j=>cases ry;exact PySem.EqNone.eq_none_bool (dC I q (by simp))
  | int j=>obtain⟨t',rfl⟩:=ry;exact PySem.EqNone.eq_none_int (dC I q (by simp))
  | str j=>obtain⟨t',rfl⟩:=ry;exact PySem.EqNone.eq_none_str (dC I q (by simp))
  | _=>exact absurd (show false=true from hs) Bool.false_ne_true
 | bl i=>
  cases rx
  cases y with
  | non=>cases ry;exact PySem.EqNone.eq_bool_none (dC I q (by simp))
  | bl j=>cases ry;exact eq_bool (dC I q aO7)
  | str j=>obtain⟨t',rfl⟩:=ry;exact PySem.EqMixed.eq_bool_str (dC I q (by simp))
  | _=>exact absurd (show false=true from hs) Bool.false_ne_true
 | int i=>
  obtain⟨t,rfl⟩:=rx
  cases y with
  | non=>cases ry;exact PySem.EqNone.eq_int_none (dC I q (by simp))
  | int j=>obtain⟨t',rfl⟩:=ry;exact eq_int (dC I q a63)
  | str j=>obtain⟨t',rfl⟩:=ry;exact PySem.EqMixed.eq_int_str (dC I q (by simp))
  | _=>exact absurd (show false=true from hs) Bool.false_ne_true
 | str i=>
  obtain⟨t,rfl⟩:=rx
  cases y with
  | non=>cases ry;exact PySem.EqNone.eq_str_none (dC I q (by simp))
  | bl j=>cases ry;exact PySem.EqMixed.eq_str_bool (dC I q (by simp))
  | int j=>obtain⟨t',rfl⟩:=ry;exact PySem.EqMixed.eq_str_int (dC I q (by simp))
  | str j=>obtain⟨t',rfl⟩:=ry;exact eq_str (dC I q a64)
  | _=>exact absurd (show false=true from hs) Bool.false_ne_true
 | byt i=>
  obtain⟨t,rfl⟩:=rx
  cases y with
  | byt j=>obtain⟨t',rfl⟩:=ry;exact PySem.W.eq_bytes (dC I q bA8)
  | _=>exact absurd (show false=true from hs) Bool.false_ne_true
 | _=>cases y<;>exact absurd (show false=true from hs) Bool.false_ne_true
theorem bO1:OpR X (compareOp .NotEq) rNe:=by
 intro pins s σ H x y v u Q I rx ry h
 obtain⟨hs,q⟩:=h
 cases x with
 | non=>
  cases rx
  cases y with
  | non=>cases ry;exact PySem.EqNone.ne_none_none (dC I q (by simp))
  | bl j=>cases ry;exact PySem.EqNone.ne_none_bool (dC I q (by simp))
  | int j=>obtain⟨t',rfl⟩:=ry;exact PySem.EqNone.ne_none_int (dC I q (by simp))
  | str j=>obtain⟨t',rfl⟩:=ry;exact PySem.EqNone.ne_none_str (dC I q (by simp))
  | _=>exact absurd (show false=true from hs) Bool.false_ne_true
 | bl i=>
  cases rx
  cases y with
  | non=>cases ry;exact PySem.EqNone.ne_bool_none (dC I q (by simp))
  | bl j=>cases ry;exact ne_bool (dC I q (congrArg not aO7))
  | str j=>obtain⟨t',rfl⟩:=ry;exact PySem.EqMixed.ne_bool_str (dC I q (by simp))
  | _=>exact absurd (show false=true from hs) Bool.false_ne_true
 | int i=>
  obtain⟨t,rfl⟩:=rx
  cases y with
  | non=>cases ry;exact PySem.EqNone.ne_int_none (dC I q (by simp))
  | int j=>obtain⟨t',rfl⟩:=ry;exact ne_int (dC I q (congrArg not a63))
  | str j=>obtain⟨t',rfl⟩:=ry;exact PySem.EqMixed.ne_int_str (dC I q (by simp))
  | _=>exact absurd (show false=true from hs) Bool.false_ne_true
 | str i=>
  obtain⟨t,rfl⟩:=rx
  cases y with
  | non=>cases ry;exact PySem.EqNone.ne_str_none (dC I q (by simp))
  | bl j=>cases ry;exact PySem.EqMixed.ne_str_bool (dC I q (by simp))
  | int j=>obtain⟨t',rfl⟩:=ry;exact PySem.EqMixed.ne_str_int (dC I q (by simp))
  | str j=>obtain⟨t',rfl⟩:=ry;exact ne_str (dC I q (congrArg not a64))
  | _=>exact absurd (show false=true from hs) Bool.false_ne_true
 | byt i=>
  obtain⟨t,rfl⟩:=rx
  cases y with
  | byt j=>obtain⟨t',rfl⟩:=ry;exact PySem.W.ne_bytes (dC I q (congrArg not bA8))
  | _=>exact absurd (show false=true from hs) Bool.false_ne_true
 | _=>cases y<;>exact absurd (show false=true from hs) Bool.false_ne_true
theorem op_lt:OpR X (compareOp .Lt) (rI0 fun i j=> .bl (decide (i<j))):=c53 fun _ _ _ _ _ _ _ q=>lt_int q
theorem op_le:OpR X (compareOp .LtE) (rI0 fun i j=> .bl (decide (i≤j))):=c53 fun _ _ _ _ _ _ _ q=>le_int q
theorem op_gt:OpR X (compareOp .Gt) (rI0 fun i j=> .bl (decide (j<i))):=c53 fun _ _ _ _ _ _ _ q=>gt_int q
theorem op_ge:OpR X (compareOp .GtE) (rI0 fun i j=> .bl (decide (j≤i))):=c53 fun _ _ _ _ _ _ _ q=>ge_int q
theorem OpR.or {f:Value→Value→Sem Value}{r r':R2}(h:OpR X f r)(h':OpR X f r'):OpR X f (fun x y H Q=>r x y H Q∨r' x y H Q):=by
 intro pins s σ H x y v u Q I rx ry q
 rcases q with q|q
 ·exact h pins s σ H x y v u Q I rx ry q
 ·exact h' pins s σ H x y v u Q I rx ry q
theorem bL (b:Expr){op:CmpOp}(h:op≠ .In:=by decide)(h2:op≠ .NotIn:=by decide):behindInMarks op b=false:=by
 have e1:(op==CmpOp.In)=false:=by cases op<;>first|rfl|exact absurd rfl h
 have e2:(op==CmpOp.NotIn)=false:=by cases op<;>first|rfl|exact absurd rfl h2
 cases b<;>simp[behindInMarks,e1,e2]
theorem c56 {op:CmpOp}{r:R2}(ho:OpR X (compareOp op) r)(ha:PE X a ta)(hb:PE X b tb)(hm:behindInMarks op b=false):PE X (.Compare a [op] [b] pos) (tOp r ta tb):=by
 intro pins s σ H Q I h
 exact wpAny_Compare1 (binT ha hb I h fun v u s2 x y H2 I2 rx ry q=>ho pins s2 σ H2 x y v u Q I2 rx ry q) hm
def tTest (t:TE):TT:=fun σ H Q=>t σ H fun x H'=> ∃k,x= .bl k∧Q k H'
theorem c57 {op:CmpOp}{r:R2}(ho:OpR X (compareOp op) r)(ha:PE X a ta)(hb:PE X b tb)(hm:behindInMarks op b=false):PT X (.Compare a [op] [b] pos) (tTest (tOp r ta tb)):=by
 intro pins s σ H Q I h
 refine wpAny_isTrue_Compare1 (thn (ha pins s σ H _ I h) fun v s1 ⟨x,H1,I1,r1,q1⟩=>thn (hb pins s1 σ H1 _ I1 q1) fun u s2 ⟨y,H2,I2,r2,q2⟩=>
  thn (ho pins s2 σ H2 x y v u _ I2 r1 r2 q2) fun c s3 ⟨z,H3,I3,r3,k,e,q3⟩=> ?_) hm
 subst e
 cases r3
 exact wpAny_truthy_bool ⟨H3,I3,q3⟩
theorem y8:(sizeLine:Nat)<2^63:=by rw[sizeLine_eq];decide
theorem vals1 {x:V}{us:List Value}(r:Vals [x] us): ∃u,us=[u]∧RelV x u:=by
 cases r with
 | cons r1 r2=>cases r2;exact⟨_,rfl,r1⟩
theorem vals2 {x y:V}{us:List Value}(r:Vals [x,y] us): ∃u w',us=[u,w']∧RelV x u∧RelV y w':=by
 cases r with
 | cons r1 r2=>
  cases r2 with
  | cons r3 r4=>cases r4;exact⟨_,_,rfl,r1,r3⟩
theorem bO2:j0 X (.builtin "abs") (fun xs H Q=> ∃i,xs=[.int i]∧Q (.int (if i<0 then -i else i)) H):=by
 intro pins s σ H xs us Q I r h
 obtain⟨i,rfl,q⟩:=h
 obtain⟨u,rfl,t,rfl⟩:=vals1 r
 exact call_abs_int fun u tk=>⟨.int (if i<0 then -i else i),H,I.tok _,⟨_,rfl⟩,q⟩
theorem bG3 (hc:X.calm=true):j0 X (.builtin "max") (fun xs H Q=> ∃i j,xs=[.int i,.int j]∧Q (.int (if j>i then j else i)) H):=by
 intro pins s σ H xs us Q I r h
 obtain⟨i,j,rfl,q⟩:=h
 obtain⟨u,w',rfl,⟨t,rfl⟩,⟨t',rfl⟩⟩:=vals2 r
 refine max_two_ints (I.ok.hd hc) fun h' tk k=>⟨_,H,I.kept k,?_,q⟩
 by_cases hj:j>i
 ·rw[if_pos hj,if_pos hj];exact⟨_,rfl⟩
 ·rw[if_neg hj,if_neg hj];exact⟨_,rfl⟩
theorem bG4 (hc:X.calm=true):j0 X (.builtin "min") (fun xs H Q=> ∃i j,xs=[.int i,.int j]∧Q (.int (if j<i then j else i)) H):=by
 intro pins s σ H xs us Q I r h
 obtain⟨i,j,rfl,q⟩:=h
 obtain⟨u,w',rfl,⟨t,rfl⟩,⟨t',rfl⟩⟩:=vals2 r
 refine min_two_ints (I.ok.hd hc) fun h' tk k=>⟨_,H,I.kept k,?_,q⟩
 by_cases hj:j<i
 ·rw[if_pos hj,if_pos hj];exact⟨_,rfl⟩
 ·rw[if_neg hj,if_neg hj];exact⟨_,rfl⟩
theorem aJ4:j0 X (.type "int") (fun xs H Q=>(∃i,xs=[.int i]∧Q (.int i) H)∨ ∃k,xs=[.bl k]∧Q (.int (if k then 1 else 0)) H):=by
 intro pins s σ H xs us Q I r h
 rcases h with⟨i,rfl,q⟩| ⟨k,rfl,q⟩
 ·obtain⟨u,rfl,t,rfl⟩:=vals1 r
  exact call_int_int ⟨.int i,H,I,⟨_,rfl⟩,q⟩
 ·obtain⟨u,rfl,r1⟩:=vals1 r
  cases r1
  exact call_int_bool ⟨.int (if k then 1 else 0),H,I.tok _,⟨_,rfl⟩,q⟩
end
end L2
namespace L2
open PySem PySem.Spec PyProof.Rows
structure bG5 (h:Heap)(x dx C:Addr)(mA:Str→Option Value):Prop where
 obj:h.get? x=some (PySem.W.instObj C dx)
 ns:h.Ns1 dx mA
 ne:dx≠x
theorem bG6 {h:Heap}{dx:Addr}{mA:Str→Option Value}(n:h.Ns1 dx mA): ∃od,h.get? dx=some od∧ ∀name,PySem.W.lookIn name od=some (mA name):=by
 obtain⟨o,es,ep,ho,hd,hk,_,hm⟩:=n
 refine⟨o,ho,fun name=> ?_⟩
 have e:=hm name
 unfold nsFind findBy at e
 rw[←Array.find?_toList]at e
 unfold PySem.W.lookIn
 rw[hd]
 dsimp only
 split
 ·rename_i y q
  rw[q]at e
  exact congrArg some e
 ·rename_i q
  rw[q]at e
  have a:es.toList.any (·.refKey)=false:=by
   rw[List.any_eq_false]
   intro y hy
   obtain⟨z,t,hkey⟩:=hk y (Array.mem_toList_iff.mp hy)
   simp[DictEntry.refKey,hkey]
  have a': ¬es.toList.any (·.refKey)=true:=by rw[a];exact Bool.false_ne_true
  rw[if_neg a']
  exact congrArg some e
theorem bG5.look {h:Heap}{x dx C:Addr}{mA:Str→Option Value}(I:bG5 h x dx C mA): ∃od,PySem.W.InstAt h x (PySem.W.instObj C dx) C (some od)∧ ∀name,PySem.W.lookIn name od=some (mA name):=
 let ⟨od,ho,hl⟩:=bG6 I.ns
 ⟨od,⟨I.obj,rfl,rfl,ho⟩,hl⟩
section
variable {prog:Program}{w:World}{A:Around}{E:Value→Shared→Prop}{s:Shared}{K:PySem.W.Frag}{x dx C f:Addr}{mA:Str→Option Value}{name:Str}{v:Value}
theorem c58 {expr:Bool}{Q:Value→Shared→Prop}(X:K.In s.heap)(I:bG5 s.heap x dx C mA)(hg:PySem.W.plainGet K C name=true)(hh:PySem.W.hasDictIn K C=true)
  (ha:PySem.W.findIn K (.ref C) name=some none) (hv:mA name=some v) (hv':PySem.W.handedIn v=true) (h:Q v {s with toks:=s.toks+1}) :
  wpAny (model prog w) A (getAttr (.ref x) name expr) Q E s:=by
 obtain⟨od,J,hl⟩:=I.look
 exact PySem.W.get_value X J (PySem.W.plainGet_of hg).1 (PySem.W.findObj_own hh ha rfl (by rw[hl,hv])) hv' h
theorem c59 {ns:List Str}{Q:Unit→Shared→Prop}(X:K.In s.heap)(I:bG5 s.heap x dx C mA)
  (hs:PySem.W.findIn K (.ref C) "__setattr__"=some (some (.builtin "object.__setattr__"))) (hp:PySem.W.plainOver K C=true) (ht:PySem.W.takerIn K C name=some none) (hh:PySem.W.hasDictIn K C=true)
  (hw:PySem.Within mA ns) (hsz:ns.length≤sizeLine)
  (h: ∀h',bG5 h' x dx C (fun y=>if y=name then some v else mA y)→Heap.SameBut dx s.heap h'→Q () {s with heap:=h',toks:=s.toks+2}) :
  wpAny (model prog w) A (setAttr (.ref x) name v) Q E s:=by
 obtain⟨od,J,hl⟩:=I.look
 refine PySem.W.set_plain X J hs (PySem.W.osa_open (s:={s with toks:=s.toks+1}) (r:=none) X J hp ht fun b=> ?_)
 obtain⟨cd,hc,hd'⟩:=PySem.W.any_some hh
 have hx:s.heap.get? x=some ⟨.ref C,some dx,.plain,#[]⟩:=I.obj
 refine wpAny_bind (wpAny_pure (wpAny_bind (wpAny_bind (wpAny_loadPart hx (wpAny_bind (PySem.W.Looks.here (s:={s with toks:=s.toks+1}) (PySem.W.looks_clsIn X hc) ?_))))))
 rw[hd']
 refine wpAny_pure (a:=some dx) (wpAny_bind (wpAny_pure (wpAny_bind ?_)))
 refine wpAny_nsSet1 (s:={s with toks:=s.toks+1}) I.ns fun h' hn2 hs2=> ?_
 obtain⟨oD,esD,epD,hoD,hdD,hcD⟩:=hn2.count (PySem.Within.cons name v hw)
 refine wpAny_bind (wpAny_lookBehind hoD (by rw[hdD];exact pastItsLine_dict (Nat.le_trans hcD (by rw[List.length_cons];omega))) ?_)
 exact wpAny_pure (h _ ⟨(hs2.2 _ (Ne.symm I.ne)).trans I.obj,hn2,I.ne⟩ hs2)
theorem aW2 {R:Result→Shared→Prop}{vs:List Value}{kw:List (Str×Value)}(X:K.In s.heap)(hm:PySem.W.makesIn K C=true)
  (hi:PySem.W.findIn K (.ref C) "__init__"=some (some (.ref f))) (hf:PySem.W.typeIn K (.ref f)=some (.type "function"))
  (h:codeAny (model prog w) (A.under (.builtin "type.__call__" ⟨.ref C::vs,kw⟩)) (.call (.ref f) ⟨.ref (s.heap.objs.size+1)::vs,kw⟩) (PySem.W.InitBack (s.heap.objs.size+1) R)
   {s with heap:=(s.heap.push PySem.W.emptyDict).push (PySem.W.instObj C s.heap.objs.size)}) :
  codeAny (model prog w) A (.call (.ref C) ⟨vs,kw⟩) R s:=by
 obtain⟨hh,g,d,t,os⟩:=s
 exact PySem.W.make_core (PySem.W.makes_of X hm) (PySem.W.looks_findIn X hi) (fun self=>PySem.W.bind_fn X self hf) (.inl rfl) h
end
def o7 (f:Str)(v:V):List (Str×V)→List (Str×V)
 | []=>[(f,v)]
 | (g,x)::r=>if g=f then(g,v)::r else(g,x)::o7 f v r
theorem zI (f g:Str)(v:V): ∀fs:List (Str×V),(o7 f v fs).lookup g=if g=f then some v else fs.lookup g
 | []=>by
  show List.lookup g [(f,v)]=_
  by_cases h:g=f
  ·have hb:(g==f)=true:=beq_iff_eq.mpr h
   simp only[List.lookup,hb,if_pos h]
  ·have hb:(g==f)=false:=beq_eq_false_iff_ne.mpr h
   simp only[List.lookup,hb,if_neg h]
 | (k,x)::r=>by
  have ih:=zI f g v r
  rw[show o7 f v ((k,x)::r)=(if k=f then(k,v)::r else(k,x)::o7 f v r)from rfl]
  by_cases hk:k=f
  ·rw[if_pos hk]
   by_cases h:g=k
   ·have hb:(g==k)=true:=beq_iff_eq.mpr h
    simp only[List.lookup,hb,if_pos (h.trans hk)]
   ·have hb:(g==k)=false:=beq_eq_false_iff_ne.mpr h
    simp only[List.lookup,hb,if_neg (fun e:g=f=>h (e.trans hk.symm))]
  ·rw[if_neg hk]
   by_cases h:g=k
   ·have hb:(g==k)=true:=beq_iff_eq.mpr h
    simp only[List.lookup,hb,if_neg (fun e:g=f=>hk (h.symm.trans e))]
   ·have hb:(g==k)=false:=beq_eq_false_iff_ne.mpr h
    simp only[List.lookup,hb]
    exact ih
theorem y9 (f:Str)(v:V): ∀fs:List (Str×V),f∈(o7 f v fs).map (·.1)∧ ∀g,g∈fs.map (·.1)→g∈(o7 f v fs).map (·.1)
 | []=>⟨by simp[o7],fun g h=>by simp at h⟩
 | (k,x)::r=>by
  obtain⟨i1,i2⟩:=y9 f v r
  rw[show o7 f v ((k,x)::r)=(if k=f then(k,v)::r else(k,x)::o7 f v r)from rfl]
  by_cases hk:k=f
  ·rw[if_pos hk]
   subst hk
   exact⟨by simp,fun g h=>by simpa using h⟩
  ·rw[if_neg hk]
   refine⟨?_,fun g h=> ?_⟩
   ·rw[List.map_cons]
    exact List.mem_cons_of_mem _ i1
   ·rw[List.map_cons]at h⊢
    rcases List.mem_cons.mp h with e|e
    ·exact List.mem_cons.mpr (.inl e)
    ·exact List.mem_cons_of_mem _ (i2 g e)
theorem zJ (f:Str)(v:V): ∀fs:List (Str×V),(o7 f v fs).length≤fs.length+1
 | []=>by simp[o7]
 | (k,x)::r=>by
  have ih:=zJ f v r
  rw[show o7 f v ((k,x)::r)=(if k=f then(k,v)::r else(k,x)::o7 f v r)from rfl]
  by_cases hk:k=f
  ·rw[if_pos hk,List.length_cons,List.length_cons];omega
  ·rw[if_neg hk,List.length_cons,List.length_cons];omega
theorem aO3.some_of {v:V}{o:Option Value}(r:aO3 (some v) o): ∃u,o=some u∧RelV v u:=by
 cases o with
 | none=>exact(show False from r).elim
 | some u=>exact⟨u,rfl,r⟩
theorem aO3.none_of {o:Option Value}(r:aO3 none o):o=none:=by
 cases o with
 | none=>rfl
 | some u=>exact(show False from r).elim
theorem bG7 {v:V}{u:Value}(r:RelV v u):PySem.W.handedIn u=true:=by
 cases v with
 | non=>cases (show u=Value.none from r);rfl
 | bl b=>cases (show u=Value.bool b from r);rfl
 | int i=>obtain⟨t,e⟩:=(show ∃t,u=Value.int i t from r);cases e;rfl
 | str x=>obtain⟨t,e⟩:=(show ∃t,u=Value.str x t from r);cases e;rfl
 | byt b=>obtain⟨t,e⟩:=(show ∃t,u=Value.bytes b t from r);cases e;rfl
 | flt b=>obtain⟨t,e⟩:=(show ∃t,u=Value.float b t from r);cases e;rfl
 | ref a=>cases (show u=Value.ref a from r);rfl
 | ty n=>cases (show u=Value.type n from r);rfl
section
variable {P:Program}{w:World}{H H':Hp}{h h':Heap}{a C dx:Addr}{fs fs':List (Str×V)}
theorem bA9 (hok:HOk P w H h)(e:H a=some (.ins C dx fs)): ∃mA,bG5 h a dx C mA∧(∀f,aO3 (fs.lookup f) (mA f))∧PySem.Within mA (fs.map (·.1))∧fs.length≤1000∧H dx=some (.own a):=by
 obtain⟨d,z,ne,ob,mA,n,r,q⟩:=(show mI P w H h a (.ins C dx fs)from hok a _ e)
 exact⟨mA,⟨ob,n,ne⟩,r,q,z,d⟩
end
structure Cls (K:PySem.W.Frag)(C:Addr):Prop where
 pg:PySem.W.plainGet K C Str.empty=true
 hd:PySem.W.hasDictIn K C=true
 po:PySem.W.plainOver K C=true
 sa:PySem.W.findIn K (.ref C) "__setattr__"=some (some (.builtin "object.__setattr__"))
theorem Cls.get {K:PySem.W.Frag}{C:Addr}(c:Cls K C)(f:Str):PySem.W.plainGet K C f=true:=c.pg
def sR (K:PySem.W.Frag)(C:Addr)(f:Str):Prop:=PySem.W.findIn K (.ref C) f=some none
theorem sR.taker {K:PySem.W.Frag}{C:Addr}{f:Str}(n:sR K C f):PySem.W.takerIn K C f=some none:=by
 unfold PySem.W.takerIn
 rw[show PySem.W.findIn K (.ref C) f=some none from n]
 rfl
section
variable {X:Cx}{pins:List (Addr×Obj)}{σ:St}{H:Hp}{s:Shared}{a C dx:Addr}{fs:List (Str×V)}{f:Str}{v:V}{A:Around}{E:Value→Shared→Prop}
theorem b41 {b:Bool}{Q:Value→Shared→Prop}(I:Inv X pins σ H s)(e:H a=some (.ins C dx fs))(c:Cls X.K C)(n:sR X.K C f)(l:fs.lookup f=some v)
  (h: ∀u s',Inv X pins σ H s'→RelV v u→Q u s'):wpAny (model X.prog X.w) A (getAttr (.ref a) f b) Q E s:=by
 obtain⟨mA,O,r,_,_,_⟩:=bA9 I.hok e
 obtain⟨u,hu,ru⟩:=aO3.some_of (v:=v) (o:=mA f) (by rw[←l];exact r f)
 exact c58 I.kIn O (c.get f) c.hd n hu (bG7 ru) (h u _ (I.tok _) ru)
theorem b42 {y:V}{u:Value}{Q:Unit→Shared→Prop}(I:Inv X pins σ H s)(e:H a=some (.ins C dx fs))(c:Cls X.K C)(n:sR X.K C f)(hl:fs.length<1000)(ry:RelV y u)
  (h: ∀s',Inv X pins σ (upd H a (.ins C dx (o7 f y fs))) s'→Q () s'):wpAny (model X.prog X.w) A (setAttr (.ref a) f u) Q E s:=by
 obtain⟨mA,O,r,wi,_,ho⟩:=bA9 I.hok e
 have hz:(fs.map (·.1)).length≤sizeLine:=by rw[List.length_map,sizeLine_eq];omega
 refine c59 I.kIn O c.sa c.po n.taker c.hd wi hz fun h' O' sb=>h _ ?_
 have hd: ∃o,h'.get? dx=some o:=let ⟨o,_,_,e',_⟩:=O'.ns;⟨o,e'⟩
 refine I.write (x:=a) (e:=dx) (by rw[e];exact True.intro) (.inr ho) (fun b q hb z=>(sb.2 b hb).trans z) hd ?_
 refine⟨by rw[cB O.ne];exact ho,?_,O.ne,O'.obj,_,O'.ns,fun g=> ?_,fun g hg=> ?_⟩
 ·have:=zJ f y fs;omega
 ·show aO3 ((o7 f y fs).lookup g) (if g=f then some u else mA g)
  rw[zI]
  by_cases q:g=f
  ·rw[if_pos q,if_pos q];exact ry
  ·rw[if_neg q,if_neg q];exact r g
 ·by_cases q:g=f
  ·rw[q];exact(y9 f y fs).1
  ·refine(y9 f y fs).2 g (wi g fun z=>hg ?_)
   show(if g=f then some u else mA g)=none
   rw[if_neg q];exact z
theorem Inv.made (I:Inv X pins σ H s):Inv X pins σ (upd (upd H s.heap.objs.size (.own (s.heap.objs.size+1))) (s.heap.objs.size+1) (.ins C s.heap.objs.size []))
  {s with heap:=(s.heap.push PySem.W.emptyDict).push (PySem.W.instObj C s.heap.objs.size)}:=by
 have e1:(s.heap.push PySem.W.emptyDict).get? s.heap.objs.size=some PySem.W.emptyDict:=Heap.get?_push_size s.heap rfl
 have e2:((s.heap.push PySem.W.emptyDict).push (PySem.W.instObj C s.heap.objs.size)).get? (s.heap.objs.size+1)=some (PySem.W.instObj C s.heap.objs.size):=by
  have:=Heap.get?_push_size (s.heap.push PySem.W.emptyDict) (o:=PySem.W.instObj C s.heap.objs.size) rfl
  rwa [Heap.size_push]at this
 have e3:(s.heap.push PySem.W.emptyDict).Ns s.heap.objs.size (fun _=>none):=⟨PySem.W.emptyDict,#[],_,e1,rfl,(fun e he=>absurd he (by simp)),fun _=>rfl⟩
 have I1:=I.laid (a:=s.heap.objs.size) (o:= .own (s.heap.objs.size+1)) (h':=s.heap.push PySem.W.emptyDict) (t':=s.toks) (fun b u q=>Heap.get?_push_of_some _ q) (Nat.le_refl _) ⟨_,e1⟩
 refine I1.laid (a:=s.heap.objs.size+1) (o:= .ins C s.heap.objs.size []) (t':=s.toks) (fun b u q=>Heap.get?_push_of_some _ q) (Nat.le_of_eq (Heap.size_push _ _)) ?_
 have ne:s.heap.objs.size≠s.heap.objs.size+1:=Nat.ne_of_lt (Nat.lt_succ_self _)
 refine⟨by rw[cB ne,hJ],Nat.zero_le _,ne,e2,fun _=>none,(Heap.Ns1.of_empty e3).at fun o q=>Heap.get?_push_of_some _ q,fun _=>True.intro,fun y hy=>absurd rfl hy⟩
theorem c60 {prog:Program}{w:World}{env:Env}{e:Expr}{f:Str}{pos:Pos}{s:Shared}{Q:Value→Shared→Prop}(hb:attributeBase e f env (eval e env)=eval e env)
  (h:wpAny (model prog w) A (eval e env) (fun o s₁=>wpAny (model prog w) A (getAttr o f true) Q E s₁) E s):wpAny (model prog w) A (eval (.Attribute e f pos) env) Q E s:=
 Attribute_any_ h (by rw[arm_eval_Attribute,hb])
end
def tFld (K:PySem.W.Frag)(ta:TE)(f:Str):TE:=fun σ H Q=>ta σ H fun x H1=> ∃a C dx fs v,x= .ref a∧H1 a=some (.ins C dx fs)∧Cls K C∧sR K C f∧fs.lookup f=some v∧Q v H1
def bO3 (K:PySem.W.Frag)(ta tv:TE)(f:Str):TS:=fun D σ H=>tv σ H fun y H1=>ta σ H1 fun x H2=> ∃a C dx fs,x= .ref a∧H2 a=some (.ins C dx fs)∧Cls K C∧sR K C f∧fs.length<1000∧
 D.nx σ (upd H2 a (.ins C dx (o7 f y fs)))
section
variable {X:Cx}{o e value:Expr}{f:Str}{pos pos' tpos:Pos}{ta tv:TE}
theorem pe_fld (he:PE X e ta)(hb:attributeBase e f X.env (eval e X.env)=eval e X.env):PE X (.Attribute e f pos) (tFld X.K ta f):=by
 intro pins s σ H Q I h
 refine c60 hb (thn (he pins s σ H _ I h) fun u s1 ⟨x,H1,I1,rx,a,C,dx,fs,v,ex,ea,c,n,l,q⟩=> ?_)
 subst ex
 obtain rfl:u=Value.ref a:=rx
 exact b41 I1 ea c n l fun u' s2 I2 ru=>⟨v,H1,I2,ru,q⟩
theorem b43 (ha:PE X o ta)(hv:PE X value tv)(hs:swapsWith value (some (.Attribute o f pos')) pos.line X.env=pure false):PS X (.Assign [.Attribute o f pos'] value pos) (bO3 X.K ta tv f):=by
 intro pins s σ H D I h
 refine plainObj_wpAny_Assign_Attribute (thn (hv pins s σ H _ I h) fun u s1 ⟨y,H1,I1,ry,q⟩=>thn (ha pins s1 σ H1 _ I1 q) fun ov s2 ⟨x,H2,I2,rx,a,C,dx,fs,ex,ea,c,n,l,q2⟩=> ?_) hs
 subst ex
 obtain rfl:ov=Value.ref a:=rx
 exact b42 I2 ea c n l ry fun s3 I3=>⟨σ,_,I3,q2⟩
end
end L2
namespace L2
open PySem PySem.Spec PyProof.Rows
structure bM (k:Nat)(A:Around):Prop where
 hd:A.handled=none
 dp:A.depth+3*k+5<recursionLimit
 un:A.units+16*k+200<cLine
theorem bM.mono {j k:Nat}{A:Around}(r:bM k A)(h:j≤k):bM j A:=⟨r.hd,by have:=r.dp;omega,by have:=r.un;omega⟩
theorem bM.deeper {k:Nat}{A:Around}(r:bM (k+1) A)(env:Env):bM k (A.deeper env):=
 ⟨r.hd,by have:=r.dp;show A.depth+1+3*k+5<_;omega,by have:=r.un;show A.units+3+16*k+200<_;omega⟩
theorem bM.in1 {k:Nat}{A:Around}(r:bM (k+1) A):bM k A.in1:=
 ⟨r.hd,by have:=r.dp;show A.depth+3*k+5<_;omega,by have:=r.un;show A.units+1+16*k+200<_;omega⟩
theorem b44 {A:Around}{C:Addr}{us:List Value}{kw:List (Str×Value)}:(A.under (.builtin "type.__call__" ⟨.ref C::us,kw⟩)).depth=A.depth+1:=by
 first|rfl|simp[Around.under,Code.weight,Code.isCreation,Code.isGuard,Code.isCaller,Code.frames,Code.isFrame,guardIds]
theorem b45 {A:Around}{C:Addr}{us:List Value}{kw:List (Str×Value)}:(A.under (.builtin "type.__call__" ⟨.ref C::us,kw⟩)).units=A.units+1:=by
 first|rfl|simp[Around.under,Code.cUnits,Code.frames,Code.isFrame]
theorem bM.make {k:Nat}{A:Around}(r:bM (k+1) A)(C:Addr)(us:List Value)(kw:List (Str×Value)):bM k (A.under (.builtin "type.__call__" ⟨.ref C::us,kw⟩)):=
 ⟨r.hd,by have:=r.dp;rw[b44];omega,by have:=r.un;rw[b45];omega⟩
theorem bM.depth {k:Nat}{A:Around}(r:bM k A):A.depth<recursionLimit:=by have:=r.dp;omega
theorem bM.units {k:Nat}{A:Around}(r:bM k A):A.units+64<cLine:=by have:=r.un;omega
def tNil:TA:=fun _ H Q=>Q [] H
def tCons (ta:TE)(tr:TA):TA:=fun σ H Q=>ta σ H fun x H1=>tr σ H1 fun xs H2=>Q (x::xs) H2
section
variable {X:Cx}{e:Expr}{es:List Expr}{te:TE}{t:TA}{pos:Pos}
theorem b46:PA X [] tNil:=fun _ _ _ _ H Q I h=>Calls.spliced_nil ⟨[],H,I,.nil,h⟩
theorem aO8 (ha:PE X e te)(hr:PA X es t)(hs:starEach (e::es) X.env=(false,eval e X.env)::starEach es X.env:=by rfl):PA X (e::es) (tCons te t):=by
 intro pos pins s σ H Q I h
 rw[hs]
 show wpAny _ _ (spliced ((false,eval e X.env)::backTo pos (starEach es X.env))) _ _ s
 refine Calls.spliced_cons (thn (ha pins s σ H _ I h) fun u s1 ⟨x,H1,I1,r1,q1⟩=> ?_)
 exact thn (hr pos pins s1 σ H1 _ I1 q1) fun us s2 ⟨xs,H2,I2,r2,q2⟩=>⟨x::xs,H2,I2,.cons r1 r2,q2⟩
def tTup (t:TA):TE:=fun σ H Q=>t σ H fun xs H1=>xs.length≤sizeLine∧ ∀p,H1 p=none→Q (.ref p) (upd H1 p (.tup xs))
def tLst (t:TA):TE:=fun σ H Q=>t σ H fun xs H1=>xs.length≤sizeLine∧ ∀p,H1 p=none→Q (.ref p) (upd H1 p (.lst xs))
theorem pe_tup {x1}(h:PA X es t):PE X (.Tuple es x1 pos) (tTup t):=by
 intro pins s σ H Q I hq
 refine wpAny_Tuple_spliced (thn (h pos pins s σ H _ I hq) fun us s1 ⟨xs,H1,I1,r,z,q⟩=>⟨by rw[←r.length];exact z,?_⟩)
 have hf:H1 s1.heap.objs.size=none:=I1.hok.fresh (Nat.le_refl _)
 refine⟨.ref s1.heap.objs.size,upd H1 s1.heap.objs.size (.tup xs),I1.laid (t':=s1.toks) (fun b u e=>Heap.get?_push_of_some _ e) (Nat.le_refl _) ?_,rfl,q _ hf⟩
 exact⟨z,us,r,⟨_,Heap.get?_push_size _ rfl,rfl,_,rfl⟩⟩
theorem pe_lst (h:PA X es t):PE X (.List es pos) (tLst t):=by
 intro pins s σ H Q I hq
 refine wpAny_List_spliced (thn (h pos pins s σ H _ I hq) fun us s1 ⟨xs,H1,I1,r,z,q⟩=>⟨by rw[←r.length];exact z,?_⟩)
 have hf:H1 s1.heap.objs.size=none:=I1.hok.fresh (Nat.le_refl _)
 refine⟨.ref s1.heap.objs.size,upd H1 s1.heap.objs.size (.lst xs),I1.laid (t':=s1.toks) (fun b u e=>Heap.get?_push_of_some _ e) (Nat.le_refl _) ?_,rfl,q _ hf⟩
 exact⟨z,us,0,r,Heap.get?_push_size _ rfl⟩
end
abbrev Sp:=List V→Hp→VK→XK→Prop
abbrev CXT:=List Env→Hp→Shared→XK→Value→Shared→Prop
structure aF7 (P:Program)(w:World)(K:PySem.W.Frag)(mg:Str→Option Value)(base:Heap)(A:Around)(outer:List Env)(s:Shared)(H:Hp):Prop where
 frames:A.frames=some outer
 mod:Mod K mg base
 bs: ∀b o,base.get? b=some o→s.heap.get? b=some o∧H b=none
 bsz:base.objs.size≤s.heap.objs.size
 funs:s.heap.FunFrames base outer
 frf: ∀b∈frs outer,H b=none
 hok:HOk P w H s.heap
 bare:AllBare s.gens
def CE (outer:List Env)(P:Program)(w:World)(H:Hp)(s:Shared)(Q:VK)(u:Value)(s':Shared):Prop:=
 ∃v H',s'.os=s.os∧AllBare s'.gens∧Un (frs outer) [] H H' s.heap s'.heap∧HOk P w H' s'.heap∧RelV v u∧Q v H'
def CR (CX:CXT)(outer:List Env)(P:Program)(w:World)(H:Hp)(s:Shared)(Q:VK)(E:XK)(r:Result)(s':Shared):Prop:=
 match r with
 | .ok (.ret u)=>CE outer P w H s Q u s'
 | .ok _=>False
 | .error e=>CX outer H s E e s'
structure kH (P:Program)(w:World)(K:PySem.W.Frag)(mg:Str→Option Value)(base:Heap)(CX:CXT)(k:Nat)(f:Addr)(fd:FuncData)(ps:List Str)(sp:Sp):Prop where
 len: ∀vs H Q E,sp vs H Q E→vs.length=ps.length
 run: ∀(A:Around) (outer:List Env) (s:Shared) (H:Hp) (args:Args) (us:List Value) (vs:List V) (Q:VK) (E:XK),bM k A→aF7 P w K mg base A outer s H→BindsTo s fd args (ps.zip us)→Vals vs us→sp vs H Q E→
  codeAny (model P w) A (.call (.ref f) args) (CR CX outer P w H s Q E) s
theorem kH.mono {P:Program}{w:World}{K:PySem.W.Frag}{mg:Str→Option Value}{base:Heap}{CX:CXT}{j k:Nat}{f:Addr}{fd:FuncData}{ps:List Str}{sp:Sp}(F:kH P w K mg base CX j f fd ps sp)(h:j≤k) :
  kH P w K mg base CX k f fd ps sp:=⟨F.len,fun A outer s H args us vs Q E hr=>F.run A outer s H args us vs Q E (hr.mono h)⟩
theorem kH.imp {P:Program}{w:World}{K:PySem.W.Frag}{mg:Str→Option Value}{base:Heap}{CX:CXT}{k:Nat}{f:Addr}{fd:FuncData}{ps:List Str}{sp sp':Sp}(F:kH P w K mg base CX k f fd ps sp)
  (h: ∀vs H Q E,sp' vs H Q E→sp vs H Q E):kH P w K mg base CX k f fd ps sp':=
 ⟨fun vs H Q E q=>F.len vs H Q E (h _ _ _ _ q),fun A outer s H args us vs Q E hr he hb hv hs=>F.run A outer s H args us vs Q E hr he hb hv (h _ _ _ _ hs)⟩
theorem aF7.make {P:Program}{w:World}{K:PySem.W.Frag}{mg:Str→Option Value}{base:Heap}{A:Around}{outer:List Env}{s:Shared}{H:Hp}(e:aF7 P w K mg base A outer s H)(C:Addr)(us:List Value)(kw:List (Str×Value)) :
  aF7 P w K mg base (A.under (.builtin "type.__call__" ⟨.ref C::us,kw⟩)) outer s H:=⟨by first|exact e.frames| (simpa[Around.under,Code.envs,Code.isFrame,pushEnvs]using e.frames),e.mod,e.bs,e.bsz,e.funs,e.frf,e.hok,e.bare⟩
theorem aF7.in1 {P:Program}{w:World}{K:PySem.W.Frag}{mg:Str→Option Value}{base:Heap}{A:Around}{outer:List Env}{s:Shared}{H:Hp}(e:aF7 P w K mg base A outer s H) :
  aF7 P w K mg base A.in1 outer s H:=⟨e.frames,e.mod,e.bs,e.bsz,e.funs,e.frf,e.hok,e.bare⟩
section
variable {X:Cx}{pins:List (Addr×Obj)}{σ:St}{H:Hp}{s s':Shared}
theorem Inv.env0 (I:Inv X pins σ H s):aF7 X.prog X.w X.K X.mg X.base X.A X.stack s H:=
 ⟨I.ok.frames,I.ok.mod,I.bs,Nat.le_trans I.ok.bsz I.sz,I.stack,I.stkFree,I.hok,I.bare⟩
theorem Inv.after {Q:VK}{u:Value}(I:Inv X pins σ H s)(h:CE X.stack X.prog X.w H s Q u s'):EP X pins σ Q u s':=by
 obtain⟨v,H',os,bare,un,hok,r,q⟩:=h
 obtain⟨hh,g,d,t,os'⟩:=s'
 obtain rfl:os'=s.os:=os
 exact⟨v,H',I.call (h':=hh) (g':=g) (d':=d) (t':=t) (ch:=[]) un hok bare (fun b z=>absurd z (by simp)),r,q⟩
end
def bO4 (sp:Sp)(dvs:List V)(E:XK)(t:TA):TE:=fun σ H Q=>t σ H fun vs H1=>sp (vs++dvs) H1 Q E
def bB0 (C:Addr)(sp:Sp)(dvs:List V)(E:XK)(t:TA):TE:=fun σ H Q=>t σ H fun vs H1=> ∀x dx,H1 x=none→H1 dx=none→dx≠x→
 sp (.ref x::(vs++dvs)) (upd (upd H1 dx (.own x)) x (.ins C dx [])) (fun v H2=>v= .non∧Q (.ref x) H2) E
def Binds (K:PySem.W.Frag)(fd:FuncData)(ps:List Str)(ds:List Value):Prop:=
 ∀(s:Shared) (us:List Value),K.In s.heap→(us++ds).length=ps.length→BindsTo s fd ⟨us,[]⟩ (ps.zip (us++ds))
theorem Binds.all {K:PySem.W.Frag}{fd:FuncData}{ps:List Str}(h: ∀us:List Value,us.length=ps.length→bindArgs fd ⟨us,[]⟩=pure (ps.zip us)):Binds K fd ps []:=fun s us _ hl=>by
 rw[List.append_nil]at hl⊢
 exact .of_eq (h us hl)
def oW (CX:CXT)(X:Cx)(E:XK):Prop:= ∀(pins:List (Addr×Obj)) (σ:St) (H:Hp) (s:Shared) (e:Value) (s':Shared),Inv X pins σ H s→CX X.stack H s E e s'→X.xe e s'
section
variable {X:Cx}{CX:CXT}{k:Nat}{f C:Addr}{fd:FuncData}{ps:List Str}{sp:Sp}{dvs:List V}{ds:List Value}{E:XK}{x m:Str}{p pos apos:Pos}{e o:Expr}{es:List Expr}{ta:TE}{t:TA}
theorem bO5 {pins:List (Addr×Obj)}{σ:St}{H:Hp}{s:Shared}{Q:VK}{us:List Value}{vs:List V}(F:kH X.prog X.w X.K X.mg X.base CX k f fd ps sp)(hr:bM k X.A)(hb:Binds X.K fd ps ds)(hd:Vals dvs ds)(hx:oW CX X E)
  (I:Inv X pins σ H s) (r:Vals vs us) (h:sp (vs++dvs) H Q E):wpAny (model X.prog X.w) X.A (call (.ref f) us) (EP X pins σ Q) X.xe s:=by
 have r2:Vals (vs++dvs) (us++ds):=r.append hd
 have hl:(us++ds).length=ps.length:=by rw[←r2.length];exact F.len _ _ _ _ h
 refine wpAny_call (codeAny_mono (F.run X.A X.stack s H ⟨us,[]⟩ (us++ds) (vs++dvs) Q E hr I.env0 (hb s us I.kIn hl) r2 h) fun r s' hq=> ?_)
 cases r with
 | error e=>exact hx pins σ H s e s' I hq
 | ok fl=>
  cases fl with
  | ret u=>exact I.after hq
  | next=>exact False.elim hq
  | brk=>exact False.elim hq
  | cont=>exact False.elim hq
theorem bB1 (F:kH X.prog X.w X.K X.mg X.base CX k f fd ps sp)(hr:bM k X.A)(hg:Gl X x)(hm:X.mg x=some (.ref f))(hk:PySem.W.keepIn X.K (.ref f)=true)(hb:Binds X.K fd ps ds)(hd:Vals dvs ds)(hx:oW CX X E)
  (ha:PA X (e::es) t) (hdb:(x==("__debug__":Str))=false:=by decide) (he:starEach (e::es) X.env=(false,eval e X.env)::starEach es X.env:=by rfl) (hpl:(backTo pos (starEach es X.env)).any (·.1)=false:=by rfl) :
  PE X (.Call (.Name x p) (e::es) [] pos) (bO4 sp dvs E t):=by
 intro pins s σ H Q I h
 refine wpAny_Call_Name_kw (o9 I hg hm ?_ hdb)
 refine PySem.W.callWith_K (h₀:=X.base) I.ok.mod.kin hk (thn (ha pos pins s σ H _ I h) fun us s1 ⟨vs,H1,I1,r,q⟩=>⟨I1.kIn,?_⟩) he hpl
 exact bO5 F hr hb hd hx I1 r q
theorem bO6 (F:kH X.prog X.w X.K X.mg X.base CX k f fd ps sp)(hr:bM k X.A)(hg:Gl X x)(hm:X.mg x=some (.ref f))(hk:PySem.W.keepIn X.K (.ref f)=true)(hb:Binds X.K fd ps ds)(hd:Vals dvs ds)(hx:oW CX X E)
  (hdb:(x==("__debug__":Str))=false:=by decide):PE X (.Call (.Name x p) [] [] pos) (bO4 sp dvs E tNil):=by
 intro pins s σ H Q I h
 refine wpAny_Call_Name_kw (o9 I hg hm ?_ hdb)
 exact PySem.W.callWith_K0 I.kIn hk (bO5 (us:=[]) F hr hb hd hx I .nil h)
structure Mk (K:PySem.W.Frag)(C f:Addr):Prop where
 makes:PySem.W.makesIn K C=true
 init:PySem.W.findIn K (.ref C) "__init__"=some (some (.ref f))
 fn:PySem.W.isFn K (.ref f)=true
 kp:PySem.W.keepIn K (.ref C)=true
theorem bO7 {pins:List (Addr×Obj)}{σ:St}{H:Hp}{s:Shared}{Q:VK}{us:List Value}{vs:List V}(M:Mk X.K C f)(F:kH X.prog X.w X.K X.mg X.base CX k f fd ps sp)(hr:bM (k+1) X.A)(hb:Binds X.K fd ps ds)(hd:Vals dvs ds)
  (hx:oW CX X E) (I:Inv X pins σ H s) (r:Vals vs us)
  (h: ∀x dx,H x=none→H dx=none→dx≠x→sp (.ref x::(vs++dvs)) (upd (upd H dx (.own x)) x (.ins C dx [])) (fun v H2=>v= .non∧Q (.ref x) H2) E) :
  wpAny (model X.prog X.w) X.A (call (.ref C) us) (EP X pins σ Q) X.xe s:=by
 have hq:=h (s.heap.objs.size+1) s.heap.objs.size (I.hok.fresh (Nat.le_succ _)) (I.hok.fresh (Nat.le_refl _)) (Nat.ne_of_lt (Nat.lt_succ_self _))
 have I2:=Inv.made (C:=C) I
 have r2:Vals (V.ref (s.heap.objs.size+1)::(vs++dvs)) (Value.ref (s.heap.objs.size+1)::(us++ds)):= .cons rfl (r.append hd)
 have hl:(Value.ref (s.heap.objs.size+1)::us++ds).length=ps.length:=by
  have e:=r2.length
  rw[F.len _ _ _ _ hq]at e
  exact e.symm
 refine wpAny_call (aW2 (f:=f) I.kIn M.makes M.init (beq_iff_eq.mp M.fn) (codeAny_mono (F.run _ X.stack _ _ ⟨Value.ref (s.heap.objs.size+1)::us,[]⟩ (Value.ref (s.heap.objs.size+1)::(us++ds)) _ _ E (hr.make C us [])
  (I2.env0.make C us []) (hb _ (Value.ref (s.heap.objs.size+1)::us) I2.kIn hl) r2 hq) fun r s' hq'=> ?_))
 cases r with
 | error e=>exact hx pins σ _ _ e s' I2 hq'
 | ok fl=>
  cases fl with
  | ret u=>
   obtain⟨v,H',I3,rv,ev,q3⟩:=I2.after hq'
   subst ev
   exact⟨rv,⟨V.ref (s.heap.objs.size+1),H',I3,rfl,q3⟩⟩
  | next=>exact False.elim hq'
  | brk=>exact False.elim hq'
  | cont=>exact False.elim hq'
theorem c61 (M:Mk X.K C f)(F:kH X.prog X.w X.K X.mg X.base CX k f fd ps sp)(hr:bM (k+1) X.A)(hg:Gl X x)(hm:X.mg x=some (.ref C))(hb:Binds X.K fd ps ds)(hd:Vals dvs ds)(hx:oW CX X E)
  (ha:PA X (e::es) t) (hdb:(x==("__debug__":Str))=false:=by decide) (he:starEach (e::es) X.env=(false,eval e X.env)::starEach es X.env:=by rfl) (hpl:(backTo pos (starEach es X.env)).any (·.1)=false:=by rfl) :
  PE X (.Call (.Name x p) (e::es) [] pos) (bB0 C sp dvs E t):=by
 intro pins s σ H Q I h
 refine wpAny_Call_Name_kw (o9 I hg hm ?_ hdb)
 refine PySem.W.callWith_K (h₀:=X.base) I.ok.mod.kin M.kp (thn (ha pos pins s σ H _ I h) fun us s1 ⟨vs,H1,I1,r,q⟩=>⟨I1.kIn,?_⟩) he hpl
 exact bO7 M F hr hb hd hx I1 r q
end
section
variable {X:Cx}{CX:CXT}{k:Nat}{f C:Addr}{fd:FuncData}{ps ks:List Str}{sp:Sp}{E:XK}{x m:Str}{p pos apos kpos:Pos}{e o:Expr}{es:List Expr}{kws:List Keyword}{te ta:TE}{t tk:TA}{nm:Option Str}
variable {g:List Value→List Value→List Value}{gV:List V→List V→List V}
end
structure aU (N P:List Str)(sc:Scope):Prop where
 kind:sc.kind= .function
 co:sc.isCoroutine=false
 gen:sc.isGenerator=false
 nd:N.Nodup
 pre:N.take P.length=P
 par: ∀x∈P,sc.names.lookup x=some .local∨sc.names.lookup x=some .cell
 nofree: ∀y∈sc.names,y.2≠ .free
theorem aJ5 {kindOf:Str→Option NameKind}{x:Str}: ∀{binds:List (Str×Value)} {m:Str→Option Value},(∀v,(x,v) ∉ binds)→bindL kindOf binds m x=m x
 | [],_,_=>rfl
 | (n,v)::r,m,h=>by
  unfold bindL
  rw[aJ5 fun w hw=>h w (List.mem_cons_of_mem _ hw)]
  split
  ·have:x≠n:=by rintro rfl;exact h v List.mem_cons_self
   simp[this]
  ·rfl
theorem aJ6 {kindOf:Str→Option NameKind}{x:Str}: ∀{binds:List (Str×Value)} {m:Str→Option Value},(∀v,(x,v) ∉ binds)→bindC kindOf binds m x=m x
 | [],_,_=>rfl
 | (n,v)::r,m,h=>by
  unfold bindC
  rw[aJ6 fun w hw=>h w (List.mem_cons_of_mem _ hw)]
  split
  ·rfl
  ·have:x≠n:=by rintro rfl;exact h v List.mem_cons_self
   simp[this]
theorem aJ7 {kindOf:Str→Option NameKind}{x:Str}{v:Value}: ∀{P:List Str} {vs:List Value} {i:Nat} {m:Str→Option Value},P.Nodup→P[i]? =some x→vs[i]? =some v→kindOf x=some .local→
  bindL kindOf (P.zip vs) m x=some v
 | [],_,_,_,_,h,_,_=>by simp at h
 | _::_,[],_,_,_,_,h,_=>by simp at h
 | p::P,w::vs,0,m,nd,h1,h2,hk=>by
  simp at h1 h2;subst h1;subst h2
  show bindL kindOf ((p,w)::P.zip vs) m p=_
  unfold bindL
  rw[aJ5 fun v hv=>(List.nodup_cons.mp nd).1 (List.of_mem_zip hv).1,if_pos hk]
  simp
 | p::P,w::vs,i+1,m,nd,h1,h2,hk=>by
  show bindL kindOf ((p,w)::P.zip vs) m x=_
  unfold bindL
  exact aJ7 (i:=i) (List.nodup_cons.mp nd).2 (by simpa using h1) (by simpa using h2) hk
theorem aJ8 {kindOf:Str→Option NameKind}{x:Str}{v:Value}: ∀{P:List Str} {vs:List Value} {i:Nat} {m:Str→Option Value},P.Nodup→P[i]? =some x→vs[i]? =some v→kindOf x≠some .local→
  bindC kindOf (P.zip vs) m x=some v
 | [],_,_,_,_,h,_,_=>by simp at h
 | _::_,[],_,_,_,_,h,_=>by simp at h
 | p::P,w::vs,0,m,nd,h1,h2,hk=>by
  simp at h1 h2;subst h1;subst h2
  show bindC kindOf ((p,w)::P.zip vs) m p=_
  unfold bindC
  rw[aJ6 fun v hv=>(List.nodup_cons.mp nd).1 (List.of_mem_zip hv).1,if_neg hk]
  simp
 | p::P,w::vs,i+1,m,nd,h1,h2,hk=>by
  show bindC kindOf ((p,w)::P.zip vs) m x=_
  unfold bindC
  exact aJ8 (i:=i) (List.nodup_cons.mp nd).2 (by simpa using h1) (by simpa using h2) hk
def start (N:List Str)(vs:List V):St:=vs.map some++List.replicate (N.length-vs.length) none
def cL (CX:CXT)(P:Program)(w:World)(K:PySem.W.Frag)(mg:Str→Option Value)(base:Heap)(N:List Str)(qual:Str)(scope:Scope)(f:Addr)(cd:Value)(A:Around)(outer:List Env)(s:Shared)(H:Hp)(E:XK):Cx where
 prog:=P
 w:=w
 K:=K
 mg:=mg
 base:=base
 A:=A.deeper (envOfC qual scope s.heap.objs.size f cd)
 N:=N
 s₀:=s
 H₀:=H
 env:=envOfC qual scope s.heap.objs.size f cd
 outer:=outer
 stack:=envOfC qual scope s.heap.objs.size f cd::outer
 ex:=[]
 calm:=true
 fn:=fun _=>true
 pn:=[]
 xe:=fun e s'=>wpAny (model P w) (A.deeper (envOfC qual scope s.heap.objs.size f cd)) (leaving (envOfC qual scope s.heap.objs.size f cd) e) (fun _ s''=>CX outer H s E e s'') (fun e' s''=>CX outer H s E e' s'') s'
theorem aW3 {sc:Scope}{n:Nat}{x:Str}(h:sc.names.lookup x=some .cell): ∃c,(cellsFrom n sc.names []).lookup x=some c:=by
 have q:=PySem.W.cellsFrom_some sc.names n [] (.inl h)
 exact Option.isSome_iff_exists.mp q
theorem aJ9 {CX:CXT}{P:Program}{w:World}{K:PySem.W.Frag}{mg:Str→Option Value}{base:Heap}{N ps:List Str}{qual:Str}{scope:Scope}{f:Addr}{cd:Value}{A:Around}{outer:List Env}{s s1:Shared}{H:Hp}{E:XK}{us:List Value}{vs:List V}
  (S:aU N ps scope) (hd:A.handled=none) (e0:aF7 P w K mg base A outer s H) (hl:vs.length=ps.length) (r:Vals vs us)
  (x:InCallC s s.heap.objs.size (bindL (envOfC qual scope s.heap.objs.size f cd).kindOf (ps.zip us) fun _=>none) (cellsFrom (s.heap.objs.size+1) scope.names []) (bindC (envOfC qual scope s.heap.objs.size f cd).kindOf (ps.zip us) fun _=>none) s1) :
  Inv (cL CX P w K mg base N qual scope f cd A outer s H E) [] (start N vs) H s1:=by
 have hpl:ps.length≤N.length:=by have:=congrArg List.length S.pre;rw[List.length_take]at this;omega
 obtain⟨h1,tk,rfl,hk⟩:=x.done
 have noA: ∀b:Addr,b ∉ (cL CX P w K mg base N qual scope f cd A outer s H E).ex:=fun b z=>absurd (show b∈([]:List Addr)from z) (by simp)
 refine⟨⟨e0.mod,S.kind,rfl,rfl,Nat.le_refl _,fun y z c h1 h2=> ?_,fun y hy=> ?_,fun y c _ h=> ?_,fun _=>hd,Around.frames_deeper e0.frames,.inr ⟨rfl,rfl⟩,fun b z=>absurd z (noA b),e0.bs,e0.bsz,fun b _ _=>noA b,fun b z=>absurd z (noA b),e0.funs,e0.frf⟩,
  rfl,e0.bare,Un.kept hk,⟨_,x.toInCall.ns,fun i y v h1 h2 h3=> ?_⟩,fun y c h=>⟨_,x.cell y c h⟩,e0.hok.fresh (Nat.le_refl _),fun y c h=> ?_,fun p hp=>absurd (show p∈([]:List (Addr×Obj))from hp) (by simp),e0.hok.kept hk,?_⟩
 ·exact name_of_addr x.apart (PySem.mem_of_lookup h1) (PySem.mem_of_lookup h2)
 ·have hy:scope.names.lookup y=some .cell∨scope.names.lookup y=some .free:=hy
  rcases hy with hy|hy
  ·exact aW3 hy
  ·exact absurd rfl (S.nofree _ (PySem.mem_of_lookup hy))
 ·exact Nat.le_of_lt (x.above y c (PySem.mem_of_lookup h))
 ·have hi:i<vs.length:=by
   unfold start at h2
   by_cases hi:i<vs.length
   ·exact hi
   ·rw[List.getElem?_append_right (by simpa using hi)]at h2
    rw[List.getElem?_replicate]at h2
    split at h2<;>cases h2
  have ha:vs[i]? =some v:=by
   unfold start at h2
   rw[List.getElem?_append_left (by simpa using hi),List.getElem?_map]at h2
   cases e:vs[i]? with
   | none=>rw[e]at h2;cases h2
   | some a=>rw[e]at h2;cases h2;rfl
  obtain⟨u,hu,rv⟩:=r.get ha
  have hp:ps[i]? =some y:=by
   rw[←S.pre,List.getElem?_take_of_lt (by omega)];exact h1
  have ndP:ps.Nodup:=by rw[←S.pre];exact S.nd.sublist (List.take_sublist _ _)
  refine⟨u,rv,?_⟩
  rcases S.par y (List.mem_of_getElem? hp)with k|k
  ·exact .inl ⟨k,aJ7 ndP hp hu k⟩
  ·obtain⟨c,e⟩:=aW3 (n:=s.heap.objs.size+1) k
   refine .inr ⟨.inl k,c,e,?_⟩
   have q:=x.cell y c e
   rw[aJ8 ndP hp hu (by show scope.names.lookup y≠_;rw[k];decide)]at q
   exact q
 ·exact e0.hok.fresh (Nat.le_of_lt (x.above y c (PySem.mem_of_lookup h)))
 ·unfold start
  show _=N.length
  rw[List.length_append,List.length_map,List.length_replicate]
  omega
theorem bO8 {CX:CXT}{P:Program}{w:World}{K:PySem.W.Frag}{mg:Str→Option Value}{base:Heap}{k:Nat}{f:Addr}{name qual:Str}{params:Arguments}{body:List Stmt}{scope:Scope}{dV kV doc pm cdv ct oc:Value}{an od:Option Addr}
  {osl:Array (Option Value)} {N ps:List Str} {sp:Sp} (lk:K.lookup f=some ⟨oc,od,.func (PySem.W.fnOf name qual params body scope dV kV doc pm an cdv ct),osl⟩) (hcd:PySem.W.codeIn K cdv qual=true) (S:aU N ps scope)
  (len: ∀vs H Q E,sp vs H Q E→vs.length=ps.length)
  (hbody: ∀(A:Around) (outer:List Env) (s:Shared) (H:Hp) (vs:List V) (Q:VK) (E:XK),bM k (A.deeper (envOfC qual scope s.heap.objs.size f cdv))→sp vs H Q E→
   ∃t,PSs (cL CX P w K mg base N qual scope f cdv A outer s H E) body t∧t {nx:=fun _ H'=>Q .non H',rt:=Q} (start N vs) H) :
  kH P w K mg base CX (k+1) f (PySem.W.fnOf name qual params body scope dV kV doc pm an cdv ct) ps sp:=by
 refine⟨len,fun A outer s H args us vs Q E hr e0 hb r hsp=> ?_⟩
 have hl:=len _ _ _ _ hsp
 have KX:K.In s.heap:=e0.mod.kin.keeps fun b o e=>(e0.bs b o e).1
 have lim:s.heap.NoLimit:=e0.mod.nolimit.keeps fun b o e=>(e0.bs b o e).1
 have hkind: ∀y∈ps.zip us,scope.names.lookup y.1=some .local∨(scope.names.lookup y.1=some .cell∧((cellsFrom (s.heap.objs.size+1) scope.names []).lookup y.1).isSome=true):=fun⟨n,v⟩ hy=>by
  rcases S.par n (List.of_mem_zip hy).1 with q|q
  ·exact .inl q
  ·exact .inr ⟨q,PySem.W.cellsFrom_some _ _ _ (.inl q)⟩
 refine codeAny_call_function hr.depth (KX _ _ lk) rfl S.co S.gen rfl (PySem.W.codeRec_of KX hcd) (hb _ _ _ _ ?_)
 refine wpAny_newFunctionEnv_cells S.kind hkind fun env he s1 x=> ?_
 subst he
 refine⟨lim.keeps x.toInCall.keep,codeAny_func ?_⟩
 obtain⟨t,ht,hq⟩:=hbody A outer s H vs Q E (hr.deeper _) hsp
 have I:Inv (cL CX P w K mg base N qual scope f cdv A outer s H E) [] (start N vs) H s1:=aJ9 S hr.hd e0 hl r x
 refine wpAny_mono (ht [] s1 (start N vs) H _ I hq) (fun fl s' hs=> ?_) fun e s' hs=>hs
 have fin: ∀{σ':St} {H':Hp} {v:V} {u:Value},Inv (cL CX P w K mg base N qual scope f cdv A outer s H E) [] σ' H' s'→RelV v u→Q v H'→CE outer P w H s Q u s':=
  fun {σ' H' v u} J rv q=>⟨v,H',J.os,J.bare,J.base,J.hok,rv,q⟩
 cases fl with
 | ret u=>
  obtain⟨v,σ',H',J,rv,q⟩:=hs
  exact fin J rv q
 | next=>
  obtain⟨σ',H',J,q⟩:=hs
  exact fin (v:=V.non) (u:=Value.none) J rfl q
 | brk=>
  obtain⟨_,_,_,q⟩:=hs
  exact False.elim q
 | cont=>
  obtain⟨_,_,_,q⟩:=hs
  exact False.elim q
end L2
namespace L2
open PySem PySem.Spec PyProof.Rows
section
variable {X:Cx}{x:Str}{p pos:Pos}{e:Expr}{es:List Expr}{t:TA}{id T:String}{r:List V→Hp→VK→Prop}
def tCB (r:List V→Hp→VK→Prop)(t:TA):TE:=fun σ H Q=>t σ H fun vs H1=>r vs H1 Q
theorem aW4 (hc:j0 X (.builtin id) r)(hg:Gl X x)(hm:X.mg x=none)(hv:bootBuiltins x=some (.builtin id))(ha:PA X (e::es) t)(hn:x≠"__name__":=by decide)(hdb:(x==("__debug__":Str))=false:=by decide)
  (he:starEach (e::es) X.env=(false,eval e X.env)::starEach es X.env:=by rfl) (hpl:(backTo pos (starEach es X.env)).any (·.1)=false:=by rfl):PE X (.Call (.Name x p) (e::es) [] pos) (tCB r t):=by
 intro pins s σ H Q I h
 refine wpAny_Call_Name_kw (oV I hg hm hv ?_ hn hdb)
 exact PyProof.Rows.callWith_builtin1 (thn (ha pos pins s σ H _ I h) fun us s1 ⟨vs,H1,I1,r1,q1⟩=>hc pins s1 σ H1 vs us Q I1 r1 q1) he hpl
theorem bG8 (hc:j0 X (.type T) r)(hg:Gl X x)(hm:X.mg x=none)(hv:bootBuiltins x=some (.type T))(ha:PA X (e::es) t)(hn:x≠"__name__":=by decide)(hdb:(x==("__debug__":Str))=false:=by decide)
  (he:starEach (e::es) X.env=(false,eval e X.env)::starEach es X.env:=by rfl) (hpl:(backTo pos (starEach es X.env)).any (·.1)=false:=by rfl):PE X (.Call (.Name x p) (e::es) [] pos) (tCB r t):=by
 intro pins s σ H Q I h
 refine wpAny_Call_Name_kw (oV I hg hm hv ?_ hn hdb)
 exact PyProof.Rows.callWith_type1 (thn (ha pos pins s σ H _ I h) fun us s1 ⟨vs,H1,I1,r1,q1⟩=>hc pins s1 σ H1 vs us Q I1 r1 q1) he hpl
end
end L2
namespace HT
open PySem PyProof.Rows
section
open PySem.SeqAt
open PySem.AutoSeq1 (wpAny_loadPart')
open PySem.MeetsSeq PySem.MeetsSeq2 PySem.MeetsSeq3
end
section
variable {prog:Program}{w:World}{A:Around}{E:Value→Shared→Prop}{s:Shared}
theorem cat_tup {t b:Addr}{vs ws:List Value}{Q:Value→Shared→Prop}(ht:IsTup s.heap t vs.toArray)(hb:IsTup s.heap b ws.toArray)(hv:vs≠[])
  (h1:ws=[]→Q (.ref t) s) (h2:ws≠[]→Q (.ref s.heap.objs.size) {s with heap:=s.heap.push {cls:= .type "tuple",data:= .seq (vs++ws).toArray}})
  (hsz:vs.length+ws.length≤sizeLine):wpAny (model prog w) A (binaryOp .Add (.ref t) (.ref b)) Q E s:=by
 obtain⟨⟨cls,dd,data,sl⟩,ho,hc,n,hd⟩:=id ht
 obtain⟨⟨cls2,dd2,data2,sl2⟩,ho2,hc2,n2,hd2⟩:=id hb
 simp only at hc hd hc2 hd2
 subst hc hd hc2 hd2
 have e:vs.toArray++ws.toArray=(vs++ws).toArray:=by simp
 by_cases hw:ws=[]
 ·exact concat_meets ⟨_,ho,rfl⟩ ⟨_,ho2,rfl⟩ noFill_tuple_add seq_tuple_add PySem.F.slot_tuple_add PySem.F.entry_tuple_add (PySem.F.args_tuple_add_2 _ _)
   (tuple_addW1 t b vs.toArray ws.toArray n n2 dd dd2 sl sl2 (by simpa using hv) (by simp[hw])) ⟨ho,ho2,h1 hw⟩
 ·refine concat_meets ⟨_,ho,rfl⟩ ⟨_,ho2,rfl⟩ noFill_tuple_add seq_tuple_add PySem.F.slot_tuple_add PySem.F.entry_tuple_add (PySem.F.args_tuple_add_2 _ _)
   (tuple_addW2 t b vs.toArray ws.toArray n n2 dd dd2 sl sl2 (by simpa using hv) (by simpa using hw) (by rw[List.size_toArray,List.size_toArray];exact hsz)) ⟨ho,ho2,?_⟩
  rw[e]
  exact h2 hw
def sIx (n d:Nat):Option Int→Nat
 | none=>d
 | some v=>if v<0 then(v+(n:Int)).toNat else min v.toNat n
theorem sIx_none (n d:Nat):sIx n d none=d:=rfl
theorem sIx_nat (n d k:Nat):sIx n d (some (k:Int))=min k n:=by
 show(if(k:Int)<0 then((k:Int)+(n:Int)).toNat else min (k:Int).toNat n)=min k n
 rw[if_neg (by omega),Int.toNat_natCast]
theorem sIx_le (n d:Nat)(hd:d≤n)(o:Option Int):sIx n d o≤n:=by
 cases o with
 | none=>exact hd
 | some v=>
  show(if v<0 then(v+(n:Int)).toNat else min v.toNat n)≤n
  by_cases hv:v<0
  ·rw[if_pos hv];omega
  ·rw[if_neg hv];exact Nat.min_le_right _ _
theorem bB2 (v:Int)(n d:Nat):(if v<0 then max (v+(n:Int)) 0 else min v (n:Int))=((sIx n d (some v):Nat):Int):=by
 show(if v<0 then max (v+(n:Int)) 0 else min v (n:Int))=(((if v<0 then(v+(n:Int)).toNat else min v.toNat n):Nat):Int)
 by_cases hv:v<0
 ·simp only[if_pos hv];omega
 ·simp only[if_neg hv];omega
theorem b47 (lo hi:Option Int)(n:Nat):Builtin.Slice.sliceAdjust lo hi 1 (n:Int)=(((sIx n 0 lo:Nat):Int),((sIx n n hi:Nat):Int)):=by
 have h1: ¬((1:Int)<0):=by omega
 unfold Builtin.Slice.sliceAdjust
 simp only[h1,if_false]
 refine Prod.ext ?_ ?_
 ·cases lo with
  | none=>rfl
  | some v=>exact bB2 v n 0
 ·cases hi with
  | none=>rfl
  | some v=>exact bB2 v n n
theorem b48 (i j:Nat):Builtin.Slice.slicePlaces (i:Int) (j:Int) 1=j-i:=by
 unfold Builtin.Slice.slicePlaces
 have h1:(1:Int)>0:=by omega
 simp only[h1,if_true,Int.ediv_one]
 split<;>omega
theorem a81 {v:Value}{o:Option Int}{Q:Option Int→Shared→Prop}(p:IsPart v o)(h:Q o s):wpAny (model prog w) A (Builtin.Slice.slicePartIndex v) Q E s:=by
 cases p with
 | none=>exact slicePart_none h
 | int i t=>exact slicePart_int h
theorem qG {sl:Addr}{vl vu:Value}{lo hi:Option Int}{n:Nat}{Q:Int×Int×Nat→Shared→Prop}(hs:s.heap.IsSliceOf sl vl vu .none)(pl:IsPart vl lo)(pu:IsPart vu hi)
  (h:Q (((sIx n 0 lo:Nat):Int),1,sIx n n hi-sIx n 0 lo) s):wpAny (model prog w) A (Builtin.Slice.sliceApplied (.ref sl) (pure (n:Int))) Q E s:=by
 obtain⟨os,hos,hcs,hds⟩:=id hs
 unfold Builtin.Slice.sliceApplied Builtin.Slice.sliceFields
 refine wpAny_bind (wpAny_bind (wpAny_field hos hds (x:=vl) rfl (wpAny_bind (wpAny_field hos hds (x:=vu) rfl (wpAny_bind (wpAny_field hos hds (x:= .none) rfl (wpAny_pure ?_)))))))
 refine wpAny_bind (slicePart_none ?_)
 show wpAny _ _ (if((1:Int)==0)=true then _ else _) _ _ s
 rw[if_neg (by decide)]
 refine wpAny_bind (a81 pl (wpAny_bind (a81 pu (wpAny_bind (wpAny_pure ?_)))))
 show wpAny _ _ (match Builtin.Slice.sliceAdjust lo hi 1 (n:Int)with| (lo,hi)=>pure (lo,(1:Int),Builtin.Slice.slicePlaces lo hi 1)) _ _ s
 rw[b47 lo hi n]
 show wpAny _ _ (pure (((sIx n 0 lo:Nat):Int),(1:Int),Builtin.Slice.slicePlaces ((sIx n 0 lo:Nat):Int) ((sIx n n hi:Nat):Int) 1)) _ _ s
 rw[b48]
 exact wpAny_pure h
theorem bO9 (xs:Array Value)(i k:Nat):((List.range k).filterMap fun(m:Nat)=>xs[((i:Int)+(m:Int)*1).toNat]?).toArray=((xs.toList.drop i).take k).toArray:=by
 have e:(fun(m:Nat)=>xs[((i:Int)+(m:Int)*1).toNat]?)=fun m=>xs[i+m]? :=by
  funext m
  have:((i:Int)+(m:Int)*1).toNat=i+m:=by omega
  rw[this]
 rw[e]
 have:=pick_run xs i k
 rw[List.filterMap_map]at this
 have e2:((fun x=>xs[x]?)∘fun x=>i+x)=fun m=>xs[i+m]? :=rfl
 rw[e2]at this
 rw[this]
theorem getItem_tuple_cut {t sl:Addr}{items:Array Value}{vl vu:Value}{lo hi:Option Int}{Q:Value→Shared→Prop}(ht:IsTup s.heap t items)(hs:s.heap.IsSliceOf sl vl vu .none)(pl:IsPart vl lo)(pu:IsPart vu hi)
  (hw: ¬(sIx items.size 0 lo=0∧sIx items.size items.size hi=items.size))
  (h:Q (.ref s.heap.objs.size) {s with heap:=s.heap.push {cls:= .type "tuple",data:= .seq ((items.toList.drop (sIx items.size 0 lo)).take (sIx items.size items.size hi-sIx items.size 0 lo)).toArray}})
  (hsz:items.size≤sizeLine):wpAny (model prog w) A (getItem (.ref t) (.ref sl)) Q E s:=by
 have htake:sizeOk (.seq ((items.toList.drop (sIx items.size 0 lo)).take (sIx items.size items.size hi-sIx items.size 0 lo)).toArray):=by
  show((items.toList.drop (sIx items.size 0 lo)).take (sIx items.size items.size hi-sIx items.size 0 lo)).toArray.size≤sizeLine
  rw[List.size_toArray,List.length_take,List.length_drop,Array.length_toList]
  omega
 have hj:sIx items.size items.size hi≤items.size:=sIx_le _ _ (Nat.le_refl _) hi
 obtain⟨os,hos,hcs,hds⟩:=id hs
 have hTs:s.TypeIs (.ref sl) "slice":=⟨os,hos,hcs⟩
 unfold getItem
 try with_reducible refine wpAny_holding ?_
 first|refine wpAny_bind (wpAny_pure ?_)|skip
 refine wpAny_bind (wpAny_sequenceKey ht.typeIs (by decide) ?_)
 refine wpAny_bind (wpAny_callSpecial?_slot (name:=Str.ofString "__getitem__") ht.typeIs PyProof.Rows.slot_tuple_getitem
  (wpAny_call_entry PyProof.Rows.slot_tuple_getitem ht.typeIs entry_tuple_getitem ?_ (args_tuple_getitem _ _)))
 show wpAny _ _ (Builtin.Tuple.tupleItemsOf (.ref t) >>= _) _ _ s
 refine wpAny_bind (tupleItemsOf_ ht ?_)
 refine wpAny_bind (wpAny_typeOf hTs ?_)
 rw[if_pos (by decide)]
 refine wpAny_bind (qG hs pl pu ?_)
 have hno: ¬((((sIx items.size 0 lo:Nat):Int)==0&&(1:Int)==1&&(sIx items.size items.size hi-sIx items.size 0 lo)==items.size)=true):=by
  intro q
  rw[Bool.and_eq_true,Bool.and_eq_true]at q
  have q1:((sIx items.size 0 lo:Nat):Int)=0:=eq_of_beq q.1.1
  have q2:sIx items.size items.size hi-sIx items.size 0 lo=items.size:=eq_of_beq q.2
  exact hw ⟨by omega,by omega⟩
 show wpAny _ _ (if(((sIx items.size 0 lo:Nat):Int)==0&&(1:Int)==1&&(sIx items.size items.size hi-sIx items.size 0 lo)==items.size)=true then _ else _) _ _ s
 rw[if_neg hno,bO9]
 first
  | exact wpAny_bind (m:=Builtin.Tuple.tupleExact _) (wpAny_newObj_type (wpAny_pure ⟨_,rfl,wpAny_pure h⟩) htake)
  | exact wpAny_bind (m:=Builtin.Tuple.tupleExact _) (wpAny_newObj_type (wpAny_bind (wpAny_pure (wpAny_pure ⟨_,rfl,wpAny_pure h⟩))) htake)
  | exact wpAny_bind (wpAny_bind (m:=Builtin.Tuple.tupleExact _) (wpAny_newObj_type (wpAny_pure (wpAny_pure ⟨_,rfl,wpAny_pure h⟩)) htake))
  | exact wpAny_bind (wpAny_bind (m:=Builtin.Tuple.tupleExact _) (wpAny_newObj_type (wpAny_pure ⟨_,rfl,wpAny_pure h⟩) htake))
end
end HT
namespace L2
open PySem PySem.Spec PyProof.Rows
abbrev TO:=St→Hp→(Option Int→Hp→Prop)→Prop
def PO (X:Cx)(e:Option Expr)(t:TO):Prop:=
 ∀(pins:List (Addr×Obj)) (s:Shared) (σ:St) (H:Hp) (Q:Option Int→Hp→Prop),Inv X pins σ H s→t σ H Q→
  wpAny (model X.prog X.w) X.A (evalPart e X.env) (fun u s'=> ∃o H',Inv X pins σ H' s'∧IsPart u o∧Q o H') X.xe s
def c62:TO:=fun _ H Q=>Q none H
def tPart (t:TE):TO:=fun σ H Q=>t σ H fun x H1=> ∃i,x= .int i∧Q (some i) H1
theorem intsAre_of {ns:List Int}: ∀{us:List Value},Vals (ns.map V.int) us→IntsAre us ns:=by
 induction ns with
 | nil=>intro us r;rw[List.map_nil]at r;cases r;exact .nil
 | cons n ns ih=>
  intro us r
  rw[List.map_cons]at r
  cases r with
  | cons r1 r2=>
   obtain⟨t,e⟩:=r1
   subst e
   exact .cons n t (ih r2)
section
variable {X:Cx}{e:Expr}{te:TE}{lo hi:Option Expr}{tl th:TO}{pos p2:Pos}
theorem c63:PO X none c62:=by
 intro pins s σ H Q I h
 rw[evalPart_none]
 exact wpAny_pure ⟨none,H,I,.none,h⟩
theorem c64 (h:PE X e te):PO X (some e) (tPart te):=by
 intro pins s σ H Q I hw
 rw[evalPart_some]
 refine thn (h pins s σ H _ I hw) fun u s1 ⟨x,H1,I1,r1,q1⟩=> ?_
 obtain⟨i,rfl,q⟩:=q1
 obtain⟨t,rfl⟩:=r1
 exact⟨some i,H1,I1,.int i t,q⟩
def SlR (X:Cx)(r:V→Option Int→Option Int→Hp→VK→Prop):Prop:=
 ∀(pins:List (Addr×Obj)) (s:Shared) (σ:St) (H:Hp) (x:V) (v vl vu:Value) (lo hi:Option Int) (sl:Addr) (Q:VK),Inv X pins σ H s→RelV x v→s.heap.IsSliceOf sl vl vu .none→IsPart vl lo→IsPart vu hi→r x lo hi H Q→
  ∃T id,typeLookup (.type T) "__getitem__"=pure (some (.builtin id))∧s.TypeIs v T∧wpAny (model X.prog X.w) X.A (getItem v (.ref sl)) (EP X pins σ Q) X.xe s
theorem SlR.or {r r':V→Option Int→Option Int→Hp→VK→Prop}(h:SlR X r)(h':SlR X r'):SlR X (fun x lo hi H Q=>r x lo hi H Q∨r' x lo hi H Q):=by
 intro pins s σ H x v vl vu lo hi sl Q I rx hs pl pu q
 rcases q with q|q
 ·exact h pins s σ H x v vl vu lo hi sl Q I rx hs pl pu q
 ·exact h' pins s σ H x v vl vu lo hi sl Q I rx hs pl pu q
def tSl (r:V→Option Int→Option Int→Hp→VK→Prop)(te:TE)(tl th:TO):TE:=fun σ H Q=>te σ H fun x H1=>tl σ H1 fun l H2=>th σ H2 fun u H3=>r x l u H3 Q
theorem aW5 {r:V→Option Int→Option Int→Hp→VK→Prop}(hr:SlR X r)(he:PE X e te)(hl:PO X lo tl)(hu:PO X hi th):PE X (.Subscript e (.Slice lo hi none p2) pos) (tSl r te tl th):=by
 intro pins s σ H Q I h
 refine Subscript_ (thn (he pins s σ H _ I h) fun v s1 ⟨x,H1,I1,r1,q1⟩=> ?_)
 refine wpAny_Slice (thn (hl pins s1 σ H1 _ I1 q1) fun vl s2 ⟨l,H2,I2,pl,q2⟩=>thn (hu pins s2 σ H2 _ I2 q2) fun vu s3 ⟨u,H3,I3,pu,q3⟩=> ?_)
 rw[evalPart_none]
 refine wpAny_pure ?_
 have I4:Inv X pins σ H3 {s3 with heap:=s3.heap.push {cls:= .type "slice",data:= .fields #[vl,vu,.none]}}:=I3.kept (t':=s3.toks) fun b ob q=>Heap.get?_push_of_some _ q
 obtain⟨T,id,hT,ht,hg⟩:=hr pins {s3 with heap:=s3.heap.push {cls:= .type "slice",data:= .fields #[vl,vu,.none]}} σ H3 x v vl vu l u s3.heap.objs.size Q I4 r1 (Heap.IsSliceOf.new ..) pl pu q3
 show wpAny (model X.prog X.w) X.A (subscriptTail e (.Slice lo hi none p2) v (.ref s3.heap.objs.size)) (EP X pins σ Q) X.xe {s3 with heap:=s3.heap.push {cls:= .type "slice",data:= .fields #[vl,vu,.none]}}
 exact tail_any (ops:=[.ref s3.heap.objs.size,v]) ht hT hg (by with_unfolding_all rfl)
def aW6 (xs:List V)(lo hi:Option Int):List V:=(xs.drop (HT.sIx xs.length 0 lo)).take (HT.sIx xs.length xs.length hi-HT.sIx xs.length 0 lo)
theorem zK (xs:List V)(lo hi:Option Int):(aW6 xs lo hi).length≤xs.length:=by
 unfold aW6
 rw[List.length_take,List.length_drop]
 omega
def rSlT (K:PySem.W.Frag):V→Option Int→Option Int→Hp→VK→Prop:=fun x lo hi H Q=> ∃a xs,x= .ref a∧SqT K H a xs∧
 ¬(HT.sIx xs.length 0 lo=0∧HT.sIx xs.length xs.length hi=xs.length)∧ ∀p,H p=none→Q (.ref p) (upd H p (.tup (aW6 xs lo hi)))
theorem bP0:SlR X (rSlT X.K):=by
 intro pins s σ H x v vl vu lo hi sl Q I rx hs pl pu h
 obtain⟨a,xs,rfl,hx,hw,q⟩:=h
 cases rx
 obtain⟨its,r,ht,hz⟩:=I.tuple hx
 have hlen:its.toArray.size=xs.length:=by rw[List.size_toArray];exact r.length.symm
 refine⟨"tuple",_,PyProof.Rows.slot_tuple_getitem.lookup,ht.typeIs,?_⟩
 refine HT.getItem_tuple_cut ht hs pl pu (by rw[hlen];exact hw) ?_ (by rw[hlen];exact hz)
 rw[hlen]
 refine⟨.ref s.heap.objs.size,_,I.laid (t':=s.toks) (o:= .tup (aW6 xs lo hi)) (fun b ob q=>Heap.get?_push_of_some _ q) (Nat.le_refl _) ?_,rfl,q _ (I.hok.fresh (Nat.le_refl _))⟩
 exact⟨Nat.le_trans (zK xs lo hi) hz,_,(r.drop (HT.sIx xs.length 0 lo)).take (HT.sIx xs.length xs.length hi-HT.sIx xs.length 0 lo),IsTup.new _ _⟩
def rCatT (K:PySem.W.Frag):R2:=fun x y H Q=> ∃a b xs ys,x= .ref a∧y= .ref b∧SqT K H a xs∧SqT K H b ys∧xs≠[]∧xs.length+ys.length≤sizeLine∧
 (ys=[]→Q (.ref a) H)∧(ys≠[]→ ∀p,H p=none→Q (.ref p) (upd H p (.tup (xs++ys))))
theorem Vals.nil_iff {xs:List V}{us:List Value}(r:Vals xs us):us=[]↔xs=[]:=by
 cases r with
 | nil=>simp
 | cons _ _=>simp
theorem c65:OpR X (binaryOp .Add) (rCatT X.K):=by
 intro pins s σ H x y v u Q I rx ry h
 obtain⟨a,b,xs,ys,rfl,rfl,ha,hb,hx,hz,q1,q2⟩:=h
 cases rx
 cases ry
 obtain⟨its,r1,p1,_⟩:=I.tuple ha
 obtain⟨its2,r2,p2,_⟩:=I.tuple hb
 refine HT.cat_tup p1 p2 (fun z=>hx (r1.nil_iff.mp z)) (fun z=>⟨.ref a,H,I,rfl,q1 (r2.nil_iff.mp z)⟩) (fun z=> ?_) (by rw[←r1.length,←r2.length];exact hz)
 refine⟨.ref s.heap.objs.size,_,I.laid (t':=s.toks) (o:= .tup (xs++ys)) (fun b ob q=>Heap.get?_push_of_some _ q) (Nat.le_refl _) ?_,rfl,q2 (fun w=>z (r2.nil_iff.mpr w)) _ (I.hok.fresh (Nat.le_refl _))⟩
 exact⟨by rw[List.length_append];exact hz,_,r1.append r2,IsTup.new _ _⟩
end
end L2
namespace L2
open PySem PySem.Spec PyProof.Rows
def ixN (n:Nat)(i:Int):Option Nat:=if 0≤i then(if i<n then some i.toNat else none)else if -(n:Int)≤i then some (i+n).toNat else none
def atI {α:Type}(xs:List α)(i:Int):Option α:=(ixN xs.length i).bind fun j=>xs[j]?
theorem bB3 {n:Nat}{i:Int}{j:Nat}(h:ixN n i=some j):seqIndex? i n=some j∧j<n∧ -(n:Int)≤i∧i<n:=by
 unfold ixN at h
 by_cases h0:0≤i
 ·rw[if_pos h0]at h
  by_cases h1:i<n
  ·rw[if_pos h1]at h
   have e:i.toNat=j:=Option.some.inj h
   exact⟨by rw[seqIndex_of h0 h1,e],by omega,by omega,h1⟩
  ·rw[if_neg h1]at h;cases h
 ·rw[if_neg h0]at h
  by_cases h1: -(n:Int)≤i
  ·rw[if_pos h1]at h
   have e:(i+n).toNat=j:=Option.some.inj h
   exact⟨by rw[seqIndex_neg (by omega) h1,e],by omega,h1,by omega⟩
  ·rw[if_neg h1]at h;cases h
theorem a65 {α:Type}{xs:List α}{i:Int}{v:α}(h:atI xs i=some v): ∃j,seqIndex? i xs.length=some j∧xs[j]? =some v∧j<xs.length∧ -(xs.length:Int)≤i∧i<xs.length:=by
 unfold atI at h
 cases e:ixN xs.length i with
 | none=>rw[e]at h;cases h
 | some j=>
  rw[e]at h
  obtain⟨h1,h2,h3,h4⟩:=bB3 e
  exact⟨j,h1,h,h2,h3,h4⟩
theorem bP {α:Type}{xs:List α}{j:Nat}{v:α}(h:xs[j]? =some v):atI xs (j:Int)=some v:=by
 have hj:j<xs.length:=(List.getElem?_eq_some_iff.mp h).1
 have e:ixN xs.length (j:Int)=some j:=by
  unfold ixN
  rw[if_pos (by omega),if_pos (by omega)];simp
 unfold atI;rw[e];exact h
theorem bP1 {α:Type}(xs:List α)(v:α):atI (xs++[v]) (-1)=some v:=by
 have hl:(xs++[v]).length=xs.length+1:=by simp
 have e:ixN (xs++[v]).length (-1)=some xs.length:=by
  unfold ixN
  rw[hl,if_neg (by decide),if_pos (by omega)]
  congr 1
  omega
 unfold atI
 rw[e]
 show(xs++[v])[xs.length]? =some v
 simp
def bB4 (b:Expr):Prop:= ∀o i,subscripted b false o i=operate [o,i] (getItem o i)
def IxR (X:Cx)(r:R2):Prop:=
 ∀(value slice:Expr) (pins:List (Addr×Obj)) (s:Shared) (σ:St) (H:Hp) (x y:V) (v u:Value) (Q:VK),Inv X pins σ H s→RelV x v→RelV y u→r x y H Q→
  subscripted slice false v u=operate [v,u] (getItem v u)→wpAny (model X.prog X.w) X.A (subscriptTail value slice v u) (EP X pins σ Q) X.xe s
def MtR (X:Cx)(id:String)(r:V→List V→Hp→VK→Prop):Prop:=
 ∀(pins:List (Addr×Obj)) (s:Shared) (σ:St) (H:Hp) (x:V) (xs:List V) (v:Value) (us:List Value) (Q:VK),Inv X pins σ H s→RelV x v→Vals xs us→r x xs H Q→
  wpAny (model X.prog X.w) X.A (call (.builtin id) (v::us)) (EP X pins σ Q) X.xe s
section
variable {X:Cx}{a b:Expr}{ta tb:TE}{pos:Pos}
theorem IxR.or {r r':R2}(h:IxR X r)(h':IxR X r'):IxR X (fun x y H Q=>r x y H Q∨r' x y H Q):=by
 intro value slice pins s σ H x y v u Q I rx ry q hs
 rcases q with q|q
 ·exact h value slice pins s σ H x y v u Q I rx ry q hs
 ·exact h' value slice pins s σ H x y v u Q I rx ry q hs
theorem MtR.or {id:String}{r r':V→List V→Hp→VK→Prop}(h:MtR X id r)(h':MtR X id r'):MtR X id (fun x xs H Q=>r x xs H Q∨r' x xs H Q):=by
 intro pins s σ H x xs v us Q I rx rs q
 rcases q with q|q
 ·exact h pins s σ H x xs v us Q I rx rs q
 ·exact h' pins s σ H x xs v us Q I rx rs q
theorem pe_ix {r:R2}(hr:IxR X r)(ha:PE X a ta)(hb:PE X b tb)(hs:bB4 b):PE X (.Subscript a b pos) (tOp r ta tb):=by
 intro pins s σ H Q I h
 exact Subscript_ (binT ha hb I h fun v u s2 x y H2 I2 rx ry q=>hr a b pins s2 σ H2 x y v u Q I2 rx ry q (hs _ _))
def rIxL (K:PySem.W.Frag):R2:=fun x y H Q=> ∃p xs i v,x= .ref p∧y= .int i∧SqL K H p xs∧atI xs i=some v∧Q v H
def rIxT (K:PySem.W.Frag):R2:=fun x y H Q=> ∃p xs i v,x= .ref p∧y= .int i∧SqT K H p xs∧atI xs i=some v∧Q v H
def rIxS:R2:=fun x y H Q=> ∃z i c,x= .str z∧y= .int i∧z.length≤sizeLine∧atI z.cps.toList i=some c∧Q (.str ⟨#[c]⟩) H
theorem c66:IxR X (rIxL X.K):=by
 intro value slice pins s σ H x y v u Q I rx ry h hs
 obtain⟨p,xs,i,z,rfl,rfl,hq,he,q⟩:=h
 cases rx
 obtain⟨t,rfl⟩:=ry
 obtain⟨its,r,pl,hz⟩:=I.list hq
 obtain⟨j,h1,h2,h3,h4,h5⟩:=a65 he
 obtain⟨w,ew,rw'⟩:=r.get h2
 have hl:=r.length
 have hn:=y8
 have fin:EP X pins σ Q w s:=⟨z,H,I,rw',q⟩
 by_cases h0:0≤i
 ·have hj:i.toNat=j:=by
   rw[seqIndex_of h0 h5]at h1
   exact Option.some.inj h1
  exact item_listR pl.isList h0 (by omega) (by rw[hj];simpa using ew) fin hs
 ·have hj:(i+(its.toArray.size:Int)).toNat=j:=by
   rw[seqIndex_neg (by omega) h4]at h1
   rw[List.size_toArray,←hl]
   exact Option.some.inj h1
  exact subscriptTail_builtinR (x:=w) pl.isList.typeIs slot_list_getitem.lookup
   (wpAny_getItem_list_neg (Q:=fun r s'=>r=w∧EP X pins σ Q r s') pl.isList (by omega) (by rw[List.size_toArray]<;>omega) (by omega) (by rw[hj];simpa using ew) ⟨rfl,fin⟩) hs
theorem ix_tup:IxR X (rIxT X.K):=by
 intro value slice pins s σ H x y v u Q I rx ry h hs
 obtain⟨p,xs,i,z,rfl,rfl,hq,he,q⟩:=h
 cases rx
 obtain⟨t,rfl⟩:=ry
 obtain⟨its,r,pl,hz⟩:=I.tuple hq
 obtain⟨j,h1,h2,h3,h4,h5⟩:=a65 he
 obtain⟨w,ew,rw'⟩:=r.get h2
 have hl:=r.length
 have hn:=y8
 have fin:EP X pins σ Q w s:=⟨z,H,I,rw',q⟩
 exact subscriptTail_builtinR (x:=w) pl.typeIs slot_tuple_getitem.lookup
  (getItem_tuple (j:=j) (Q:=fun r s'=>r=w∧EP X pins σ Q r s') pl (by omega) (by omega) (by rw[List.size_toArray,←hl];exact h1) (by simpa using ew) ⟨rfl,fin⟩) hs
theorem ix_str:IxR X rIxS:=by
 intro value slice pins s σ H x y v u Q I rx ry h hs
 obtain⟨z,i,c,rfl,rfl,hz,he,q⟩:=h
 obtain⟨t,rfl⟩:=rx
 obtain⟨t',rfl⟩:=ry
 obtain⟨j,h1,h2,h3,h4,h5⟩:=a65 he
 have hl:z.cps.toList.length=z.length:=by simp[Str.length]
 rw[hl]at h1 h4 h5
 have hn:=y8
 exact tail_any (typeIs_str s z t) slot_str_getitem.lookup (getItem_str (c:=c) (by
  have e1:decide (i< -(2^63:Int))=false:=decide_eq_false (by omega)
  have e2:decide (i≥2^63)=false:=decide_eq_false (by omega)
  rw[e1,e2,Bool.or_false]) (by rw[h1];simpa using h2) ⟨.str ⟨#[c]⟩,H,I.tok _,⟨_,rfl⟩,q⟩) hs
def rIx (K:PySem.W.Frag):R2:=fun x y H Q=>rIxL K x y H Q∨rIxT K x y H Q∨rIxS x y H Q
theorem ix_seq:IxR X (rIx X.K):=c66.or (ix_tup.or ix_str)
theorem b49 (its:List Value)(n j:Nat)(u:Value):Obj.mapSeq (·.setIfInBounds j u) {cls:= .type "list",data:= .seq its.toArray n}={cls:= .type "list",data:= .seq (its.set j u).toArray n}:=by
 simp[Obj.mapSeq]
theorem Inv.lst {pins:List (Addr×Obj)}{σ:St}{H:Hp}{s:Shared}{p:Addr}{xs:List V}(I:Inv X pins σ H s)(h:H p=some (.lst xs)) :
  ∃(its:List Value) (n:Nat),Vals xs its∧s.heap.get? p=some {cls:= .type "list",data:= .seq its.toArray n}∧xs.length≤sizeLine:=by
 obtain⟨z,its,n,r,e⟩:=I.hok p _ h
 exact⟨its,n,r,e,z⟩
theorem Inv.lstUpd {pins:List (Addr×Obj)}{σ:St}{H:Hp}{s:Shared}{p:Addr}{xs ys:List V}{its its':List Value}{n n':Nat}{f:Obj→Obj}(I:Inv X pins σ H s)(h:H p=some (.lst xs))
  (ho:s.heap.get? p=some {cls:= .type "list",data:= .seq its.toArray n}) (hf:f {cls:= .type "list",data:= .seq its.toArray n}={cls:= .type "list",data:= .seq its'.toArray n'}) (r:Vals ys its') (hz:ys.length≤sizeLine) (t:Nat) :
  Inv X pins σ (upd H p (.lst ys)) {s with heap:=s.heap.update p f,toks:=t}:=by
 have e:(s.heap.update p f).get? p=some {cls:= .type "list",data:= .seq its'.toArray n'}:=by
  rw[Heap.get?_update_self f ho (by rw[hf]<;>rfl),hf]
 refine I.write (x:=p) (e:=p) (by rw[h];trivial) (.inl rfl) (fun b u hb q=>(Heap.get?_update_other _ _ (Ne.symm hb)).trans q) ⟨_,e⟩ ?_
 exact⟨hz,its',n',r,e⟩
def rSetL:V→V→V→Hp→(Hp→Prop)→Prop:=fun o i v H Q=> ∃p xs k j,o= .ref p∧i= .int k∧H p=some (.lst xs)∧ixN xs.length k=some j∧Q (upd H p (.lst (xs.set j v)))
theorem aW7:PSet X rSetL:=by
 intro pins s σ H o i v ov iv u Q I ro ri rv h
 obtain⟨p,xs,k,j,rfl,rfl,hp,hj,q⟩:=h
 cases ro
 obtain⟨t,rfl⟩:=ri
 obtain⟨its,n,r,ho,hz⟩:=I.lst hp
 obtain⟨h1,h2,h3,h4⟩:=bB3 hj
 have hl:=r.length
 have hn:=y8
 have I':Inv X pins σ (upd H p (.lst (xs.set j v))) {s with heap:=s.heap.update p (Obj.mapSeq (·.setIfInBounds j u))}:=
  I.lstUpd hp ho (b49 its n j u) (r.set rv j) (by rw[List.length_set];exact hz) s.toks
 by_cases h0:0≤k
 ·have hk:k.toNat=j:=by
   rw[seqIndex_of h0 h4]at h1
   exact Option.some.inj h1
  exact PySem.W.ki_setAt ho h0 (by omega) (by rw[List.size_toArray,←hl];exact h4) (by rw[hk];exact⟨_,I',q⟩)
 ·have hk:(k+(its.toArray.size:Int)).toNat=j:=by
   rw[seqIndex_neg (by omega) h3]at h1
   rw[List.size_toArray,←hl]
   exact Option.some.inj h1
  exact PySem.W.ki_setBack ho (by omega) (by rw[List.size_toArray,←hl];exact h3) (by omega) (by rw[hk];exact⟨_,I',q⟩)
theorem aO9 (lo hi:Option Int)(n:Nat):(sliceBounds lo hi none n).1=((HT.sIx n 0 lo:Nat):Int)∧(sliceBounds lo hi none n).2.1=((HT.sIx n n hi:Nat):Int)∧(sliceBounds lo hi none n).2.2=1:=by
 refine⟨?_,?_,rfl⟩
 ·cases lo with
  | none=>simp[sliceBounds,HT.sIx]
  | some i=>
   simp only[sliceBounds,HT.sIx,Option.getD_none,show(1:Int)>0 by decide,if_true]
   by_cases h:i<0
   ·simp only[h,if_true]<;>omega
   ·simp only[h,if_false]<;>omega
 ·cases hi with
  | none=>simp[sliceBounds,HT.sIx]
  | some i=>
   simp only[sliceBounds,HT.sIx,Option.getD_none,show(1:Int)>0 by decide,if_true]
   by_cases h:i<0
   ·simp only[h,if_true]<;>omega
   ·simp only[h,if_false]<;>omega
theorem aF8 (its:List Value)(lo hi:Option Int):slicePick its.toArray lo hi none=((its.drop (HT.sIx its.length 0 lo)).take (HT.sIx its.length its.length hi-HT.sIx its.length 0 lo)).toArray:=by
 obtain⟨h1,h2,h3⟩:=aO9 lo hi its.toArray.size
 unfold slicePick
 rw[h1,h2,h3]
 simp only[sliceRange_one,pick_run,List.size_toArray]<;>rfl
def rSlL (K:PySem.W.Frag):V→Option Int→Option Int→Hp→VK→Prop:=fun x lo hi H Q=> ∃a xs,x= .ref a∧SqL K H a xs∧ ∀p,H p=none→Q (.ref p) (upd H p (.lst (aW6 xs lo hi)))
theorem bB5:SlR X (rSlL X.K):=by
 intro pins s σ H x v vl vu lo hi sl Q I rx hs pl pu h
 obtain⟨a,xs,rfl,hx,q⟩:=h
 cases rx
 obtain⟨its,r,ht,hz⟩:=I.list hx
 have hlen:=r.length
 refine⟨"list",_,slot_list_getitem.lookup,ht.isList.typeIs,?_⟩
 refine wpAny_getItem_list_slice ht.isList hs pl pu .none (by simp) ?_ (by rw[List.size_toArray]<;>omega)
 rw[aF8,←hlen]
 refine⟨.ref s.heap.objs.size,_,I.laid (t':=s.toks) (o:= .lst (aW6 xs lo hi)) (fun b ob q=>Heap.get?_push_of_some _ q) (Nat.le_refl _) ?_,rfl,q _ (I.hok.fresh (Nat.le_refl _))⟩
 exact⟨Nat.le_trans (zK xs lo hi) hz,_,0,(r.drop (HT.sIx xs.length 0 lo)).take (HT.sIx xs.length xs.length hi-HT.sIx xs.length 0 lo),Heap.get?_push_size _ rfl⟩
def wR:V→Bool
 | .non=>true
 | .bl _=>true
 | .int _=>true
 | .str _=>true
 | _=>false
def eqV:V→V→Bool
 | .non,.non=>true
 | .bl a,.bl b=>a==b
 | .bl a,.int b=>(if a then 1 else 0)==b
 | .int a,.bl b=>a==(if b then 1 else 0)
 | .int a,.int b=>a==b
 | .str a,.str b=>a==b
 | _,_=>false
theorem eqAt_V {A:Around}{s:Shared}{y x:V}{u v:Value}(ry:RelV y u)(rx:RelV x v)(fy:wR y=true)(fx:wR x=true):SeqAt.EqAt A s u v (eqV y x):=by
 cases y with
 | non=>
  cases ry
  cases x with
  | non=>cases rx;exact SeqAt.EqAt.same _
  | bl b=>cases rx;exact SeqAt.EqAt.none_bool b
  | int b=>obtain⟨t,rfl⟩:=rx;exact SeqAt.EqAt.none_int b t
  | str b=>obtain⟨t,rfl⟩:=rx;exact SeqAt.EqAt.none_str b t
  | _=>exact absurd (show false=true from fx) Bool.false_ne_true
 | bl a=>
  cases ry
  cases x with
  | non=>cases rx;exact SeqAt.EqAt.bool_none a
  | bl b=>cases rx;exact SeqAt.EqAt.bool_bool a b
  | int b=>obtain⟨t,rfl⟩:=rx;exact SeqAt.EqAt.bool_int a b t
  | str b=>obtain⟨t,rfl⟩:=rx;exact SeqAt.EqAt.bool_str a b t
  | _=>exact absurd (show false=true from fx) Bool.false_ne_true
 | int a=>
  obtain⟨t',rfl⟩:=ry
  cases x with
  | non=>cases rx;exact SeqAt.EqAt.int_none a t'
  | bl b=>cases rx;exact SeqAt.EqAt.int_bool a t' b
  | int b=>obtain⟨t,rfl⟩:=rx;exact SeqAt.EqAt.int_int a t' b t
  | str b=>obtain⟨t,rfl⟩:=rx;exact SeqAt.EqAt.int_str a t' b t
  | _=>exact absurd (show false=true from fx) Bool.false_ne_true
 | str a=>
  obtain⟨t',rfl⟩:=ry
  cases x with
  | non=>cases rx;exact SeqAt.EqAt.str_none a t'
  | bl b=>cases rx;exact SeqAt.EqAt.str_bool a t' b
  | int b=>obtain⟨t,rfl⟩:=rx;exact SeqAt.EqAt.str_int a t' b t
  | str b=>obtain⟨t,rfl⟩:=rx;exact SeqAt.EqAt.str_str a t' b t
  | _=>exact absurd (show false=true from fx) Bool.false_ne_true
 | _=>exact absurd (show false=true from fy) Bool.false_ne_true
def eqU (x:V)(u:Value):Bool:=match u with
 | .none=>eqV .non x
 | .bool b=>eqV (.bl b) x
 | .int i _=>eqV (.int i) x
 | .str z _=>eqV (.str z) x
 | _=>false
theorem bP2 {x y:V}{u:Value}(r:RelV y u)(f:wR y=true):eqU x u=eqV y x:=by
 cases y with
 | non=>cases r;rfl
 | bl b=>cases r;rfl
 | int i=>obtain⟨t,rfl⟩:=r;rfl
 | str z=>obtain⟨t,rfl⟩:=r;rfl
 | _=>exact absurd (show false=true from f) Bool.false_ne_true
theorem aP0 {x:V}: ∀{xs:List V} {us:List Value},Vals xs us→xs.all wR=true→us.any (eqU x)=xs.any fun y=>eqV y x
 | _,_,.nil,_=>rfl
 | y::xs,u::us,.cons r t,f=>by
  rw[List.all_cons,Bool.and_eq_true]at f
  rw[List.any_cons,List.any_cons,bP2 r f.1,aP0 t f.2]
theorem a82 {A:Around}{s:Shared}{x:V}{v:Value}(rx:RelV x v)(fx:wR x=true): ∀{xs:List V} {us:List Value},Vals xs us→xs.all wR=true→ ∀u∈us,SeqAt.EqAt A s u v (eqU x u)
 | _,_,.nil,_=>fun u hu=>by cases hu
 | y::xs,u::us,.cons r t,f=>fun u' hu=>by
  rw[List.all_cons,Bool.and_eq_true]at f
  rcases List.mem_cons.mp hu with rfl|hu
  ·rw[bP2 r f.1];exact eqAt_V r rx f.1 fx
  ·exact a82 rx fx t f.2 u' hu
def inV (x:V)(xs:List V):Bool:=xs.any fun y=>eqV y x
def rIn (K:PySem.W.Frag)(neg:Bool):R2:=fun x y H Q=> ∃p xs,y= .ref p∧(SqL K H p xs∨SqT K H p xs)∧wR x=true∧xs.all wR=true∧Q (.bl (if neg then !inV x xs else inV x xs)) H
theorem aP1:OpR X (compareOp .NotIn) (rIn X.K true):=by
 intro pins s σ H x y v u Q I rx ry h
 obtain⟨p,xs,rfl,hq,fx,fs,q⟩:=h
 cases ry
 rcases hq with hq|hq
 ·obtain⟨its,r,pl,hz⟩:=I.list hq
  refine SeqAt.notIn_listAt (eqU x) pl.isList (fun w hw=>a82 rx fx r fs w (by simpa using hw)) ⟨.bl _,H,I,rfl,?_⟩
  rw[show its.toArray.any (eqU x)=its.any (eqU x)by simp,aP0 r fs]
  exact q
 ·obtain⟨its,r,pl,hz⟩:=I.tuple hq
  refine SeqAt.notIn_tupleAt (eqU x) pl (fun w hw=>a82 rx fx r fs w (by simpa using hw)) ⟨.bl _,H,I,rfl,?_⟩
  rw[show its.toArray.any (eqU x)=its.any (eqU x)by simp,aP0 r fs]
  exact q
theorem aP2:j0 X (.builtin "len") (fun xs H Q=> ∃p ys,xs=[.ref p]∧(SqL X.K H p ys∨SqT X.K H p ys)∧Q (.int ys.length) H):=by
 intro pins s σ H xs us Q I r h
 obtain⟨p,ys,rfl,hq,q⟩:=h
 obtain⟨u,rfl,rx⟩:=vals1 r
 cases rx
 have hn:=y8
 rcases hq with hq|hq
 ·obtain⟨its,r',pl,hz⟩:=I.list hq
  have hlen:=r'.length
  exact Calls.call_len_list pl.isList (by simp only[List.size_toArray]<;>omega) ⟨.int ys.length,H,I.tok _,⟨s.toks+1,by rw[List.size_toArray,hlen]⟩,q⟩
 ·obtain⟨its,r',pl,hz⟩:=I.tuple hq
  have hlen:=r'.length
  exact len_tuple pl (by simp only[List.size_toArray]<;>omega) ⟨.int ys.length,H,I.tok _,⟨s.toks+1,by rw[List.size_toArray,hlen]⟩,q⟩
theorem j0.or {f:Value}{r r':List V→Hp→VK→Prop}(h:j0 X f r)(h':j0 X f r'):j0 X f (fun xs H Q=>r xs H Q∨r' xs H Q):=by
 intro pins s σ H xs us Q I rs q
 rcases q with q|q
 ·exact h pins s σ H xs us Q I rs q
 ·exact h' pins s σ H xs us Q I rs q
theorem aP3:j0 X (.type "list") (fun xs H Q=> ∃p ys,xs=[.ref p]∧(SqL X.K H p ys∨SqT X.K H p ys)∧ ∀l,H l=none→Q (.ref l) (upd H l (.lst ys))):=by
 intro pins s σ H xs us Q I r h
 obtain⟨p,ys,rfl,hq,q⟩:=h
 obtain⟨u,rfl,rx⟩:=vals1 r
 cases rx
 have fin: ∀(its:List Value),Vals ys its→ys.length≤sizeLine→ ∀(h':Heap) (c':Nat),(∀b o',s.heap.get? b=some o'→h'.get? b=some o')→
   h'.get? s.heap.objs.size=some {cls:= .type "list",dict:=none,data:= .seq its.toArray c',slots:= #[]}→EP X pins σ Q (.ref s.heap.objs.size) {s with heap:=h'}:=fun its r' hz h' c' kp e=>
  ⟨.ref s.heap.objs.size,_,I.laid (t':=s.toks) kp (Nat.le_refl _) (show mI X.prog X.w _ h' _ (.lst ys)from⟨hz,its,c',r',e⟩),rfl,q _ (I.hok.fresh (Nat.le_refl _))⟩
 rcases hq with hq|hq
 ·obtain⟨its,r',pl,hz⟩:=I.list hq
  have hlen:=r'.length
  obtain⟨o,ho,hc,n,hd⟩:=pl.isList
  exact call_list_seq p (.inl rfl) ho hc hd (fun h' c' kp e=>fin its r' hz h' c' kp e) (by simp only[List.size_toArray]<;>omega)
 ·obtain⟨its,r',pl,hz⟩:=I.tuple hq
  have hlen:=r'.length
  obtain⟨o,ho,hc,n,hd⟩:=pl
  exact call_list_seq p (.inr rfl) ho hc hd (fun h' c' kp e=>fin its r' hz h' c' kp e) (by simp only[List.size_toArray]<;>omega)
theorem oX:j0 X (.type "tuple") (fun xs H Q=> ∃p ys,xs=[.ref p]∧((SqL X.K H p ys∧ ∀l,H l=none→Q (.ref l) (upd H l (.tup ys)))∨(SqT X.K H p ys∧Q (.ref p) H))):=by
 intro pins s σ H xs us Q I r h
 obtain⟨p,ys,rfl,h⟩:=h
 obtain⟨u,rfl,rx⟩:=vals1 r
 cases rx
 rcases h with⟨hq,q⟩| ⟨hq,q⟩
 ·obtain⟨its,r',pl,hz⟩:=I.list hq
  have hlen:=r'.length
  refine call_tuple_list pl.isList (fun h' kp=> ?_) (by simp only[List.size_toArray]<;>omega)
  have I1:Inv X pins σ H {s with heap:=h'}:=I.kept (t':=s.toks) kp
  have I2:Inv X pins σ (upd H h'.objs.size (.tup ys)) {s with heap:=h'.push {cls:= .type "tuple",data:= .seq its.toArray}}:=
   I1.laid (t':=s.toks) (fun b o e=>Heap.get?_push_of_some _ e) (Nat.le_refl _) (show mI X.prog X.w _ _ _ (.tup ys)from⟨hz,its,r',IsTup.new _ _⟩)
  exact⟨.ref h'.objs.size,_,I2,rfl,q _ (I1.hok.fresh (Nat.le_refl _))⟩
 ·obtain⟨its,r',pl,hz⟩:=I.tuple hq
  exact call_tuple_same pl ⟨.ref p,H,I,rfl,q⟩
def tyV (K:PySem.W.Frag)(T:String)(x:V)(H:Hp):Prop:=match x with
 | .str _=>T="str"
 | .int _=>T="int"
 | .ref p=>(T="list"∧ ∃xs,SqL K H p xs)∨(T="tuple"∧ ∃o,K.lookup p=some o∧o.cls= .type "tuple"∧o.dict=none)∨
   (T="dict"∧((∃kvs,H p=some (.dK kvs))∨ ∃kvs,H p=some (.dT kvs)))∨(T="set"∧ ∃S n,H p=some (.set S n))
 | _=>False
theorem tyV_is {pins:List (Addr×Obj)}{σ:St}{H:Hp}{s:Shared}{T:String}{x:V}{v:Value}(I:Inv X pins σ H s)(r:RelV x v)(ty:tyV X.K T x H) :
  s.TypeIs v T∧ ∀a,v= .ref a→ ∃ob,s.heap.get? a=some ob∧ob.dict=none:=by
 cases x with
 | str z=>
  obtain⟨t,rfl⟩:=r
  cases (show T="str" from ty)
  exact⟨typeIs_str s z t,fun _ e=>nomatch e⟩
 | int i=>
  obtain⟨t,rfl⟩:=r
  cases (show T="int" from ty)
  exact⟨typeIs_int s i t,fun _ e=>nomatch e⟩
 | ref p=>
  cases r
  rcases ty with⟨rfl,xs,hq⟩| ⟨rfl,o,hk,hc,hd⟩| ⟨rfl,hk⟩| ⟨rfl,S,n,hk⟩
  ·obtain⟨its,_,pl,_⟩:=I.list hq
   refine⟨pl.isList.typeIs,fun a e=> ?_⟩
   cases e
   obtain⟨o,n,e,c,hd,_⟩:=pl
   exact⟨o,e,hd⟩
  ·refine⟨⟨o,I.kIn p o hk,hc⟩,fun a e=> ?_⟩
   cases e
   exact⟨o,I.kIn _ o hk,hd⟩
  ·have z: ∃o,s.heap.get? p=some o∧o.ExactDict:=by
    rcases hk with⟨kvs,hk⟩| ⟨kvs,hk⟩
    ·obtain⟨_,_,_,_,o,_,_,e,ex,_⟩:=I.hok p _ hk
     exact⟨o,e,ex⟩
    ·obtain⟨_,_,_,_,o,_,_,e,ex,_⟩:=I.hok p _ hk
     exact⟨o,e,ex⟩
   obtain⟨o,e,ex⟩:=z
   refine⟨⟨o,e,ex.1⟩,fun a e2=> ?_⟩
   cases e2
   exact⟨o,e,ex.2.1⟩
  ·obtain⟨o,_,_,_,e,ex,_⟩:=I.hok p _ hk
   refine⟨⟨o,e,ex.1⟩,fun a e2=> ?_⟩
   cases e2
   exact⟨o,e,ex.2.1⟩
 | _=>exact False.elim ty
def tBM (K:PySem.W.Frag)(T:String)(r:V→List V→Hp→VK→Prop)(to:TE)(t:TA):TE:=fun σ H Q=>to σ H fun x H1=>tyV K T x H1∧t σ H1 fun xs H2=>r x xs H2 Q
variable {o e:Expr}{es:List Expr}{to:TE}{t:TA}{name:Str}{apos cpos:Pos}{T id:String}{r:V→List V→Hp→VK→Prop}
theorem pe_bm (pa:PlainAttrs T)(slot:Slot T name id)(hty:typeOf (.builtin id)=pure (.type "method_descriptor"))(hm:MtR X id r)(ho:PE X o to)(ha:PA X (e::es) t)
  (hbase:attributeBase o name X.env (eval o X.env)=eval o X.env:=by rfl)
  (hfew:((backTo cpos (starEach (e::es) X.env)).all (fun x=> !x.1)&&(backToKw cpos (keywordEach [] X.env)).all (fun x=>x.1.isSome)
   &&decide ((e::es).length+([]:List Keyword).length+(if([]:List Keyword).isEmpty then 0 else 1)<30))=true:=by rfl)
  (hline:(apos.endLine==cpos.line)=true:=by rfl) (hs:starEach (e::es) X.env=(false,eval e X.env)::starEach es X.env:=by rfl) (hplain:(backTo cpos (starEach es X.env)).any (·.1)=false:=by rfl) :
  PE X (.Call (.Attribute o name apos) (e::es) [] cpos) (tBM X.K T r to t):=by
 intro pins s σ H Q I h
 refine wpAny_Call_method_late hbase hfew hline rfl (thn (ho pins s σ H _ I h) fun v s1 ⟨x,H1,I1,r1,ty,q1⟩=> ?_)
 obtain⟨h1,h2⟩:=tyV_is I1 r1 ty
 refine⟨T,id,pa,slot,hty,h1,h2,?_⟩
 have hA:=ha cpos pins s1 σ H1 _ I1 q1
 rw[hs]at hA⊢
 refine Calls.callWith_builtin (by show(false||(backTo cpos (starEach es X.env)).any (·.1))=false;rw[hplain]<;>rfl) (Calls.evalArgs_plain ?_)
 exact thn hA fun us s2 ⟨vs,H2,I2,r2,q2⟩=>hm pins s2 σ H2 x vs v us Q I2 r1 r2 q2
end
end L2
namespace L2
open PySem PySem.Spec PyProof.Rows
def MtM (X:Cx)(id:String)(r:V→List V→Hp→VK→Prop):Prop:=
 ∀(pins:List (Addr×Obj)) (s:Shared) (σ:St) (H:Hp) (x:V) (xs:List V) (v:Value) (us:List Value) (Q:VK),Inv X pins σ H s→RelV x v→Vals xs us→r x xs H Q→
  wpAny (model X.prog X.w) X.A (call (.builtin id) (v::us)) (EP X pins σ Q) X.xe s
theorem Vals.one: ∀{x:V} {us:List Value},Vals [x] us→ ∃u,us=[u]∧RelV x u
 | _,_,.cons r .nil=>⟨_,rfl,r⟩
theorem Vals.two: ∀{x y:V} {us:List Value},Vals [x,y] us→ ∃u v,us=[u,v]∧RelV x u∧RelV y v
 | _,_,_,.cons r (.cons q .nil)=>⟨_,_,rfl,r,q⟩
theorem Vals.zero: ∀{us:List Value},Vals [] us→us=[]
 | _,.nil=>rfl
theorem Vals.dropLast {xs:List V}{us:List Value}(h:Vals xs us):Vals xs.dropLast us.dropLast:=by
 induction h with
 | nil=>exact .nil
 | cons r t ih=>
  cases t with
  | nil=>exact .nil
  | cons q t'=>exact .cons r ih
theorem Vals.eraseIdx: ∀{xs:List V} {us:List Value} (i:Nat),Vals xs us→Vals (xs.eraseIdx i) (us.eraseIdx i)
 | _,_,_,.nil=> .nil
 | _,_,0,.cons _ t=>t
 | _,_,i+1,.cons r t=> .cons r (Vals.eraseIdx i t)
theorem Vals.reverse {xs:List V}{us:List Value}(h:Vals xs us):Vals xs.reverse us.reverse:=by
 induction h with
 | nil=>exact .nil
 | cons r t ih=>rw[List.reverse_cons,List.reverse_cons];exact Vals.append ih (.cons r .nil)
theorem Vals.rep {xs:List V}{us:List Value}(h:Vals xs us): ∀k:Nat,Vals (List.replicate k xs).flatten (List.replicate k us).flatten
 | 0=> .nil
 | k+1=>by
  rw[List.replicate_succ,List.replicate_succ,List.flatten_cons,List.flatten_cons]
  exact Vals.append h (Vals.rep h k)
theorem foldl_rep (its:List Value): ∀(k:Nat) (acc:List Value),
  List.foldl (fun x1 x2=>x1++x2) acc.toArray (List.replicate k its.toArray)=(acc++(List.replicate k its).flatten).toArray
 | 0,acc=>by simp
 | k+1,acc=>by
  have e:acc.toArray++its.toArray=(acc++its).toArray:=by simp
  have e2:(acc++its)++(List.replicate k its).flatten=acc++(List.replicate (k+1) its).flatten:=by
   rw[List.replicate_succ,List.flatten_cons,List.append_assoc]
  rw[←e2,←foldl_rep its k (acc++its),←e,List.replicate_succ,List.foldl_cons]
section
variable {X:Cx}{pins:List (Addr×Obj)}{σ:St}{H:Hp}{s:Shared}{l b:Addr}{xs ys zs:List V}
theorem Inv.lset {its its':List Value}{n:Nat}{f:Array Value→Array Value}{t':Nat}(I:Inv X pins σ H s)(hH:H l=some (.lst xs))
  (e:s.heap.get? l=some {cls:= .type "list",data:= .seq its.toArray n}) (hf:f its.toArray=its'.toArray) (hv:Vals ys its') (hz:ys.length≤sizeLine) :
  Inv X pins σ (upd H l (.lst ys)) {s with heap:=s.heap.update l (Obj.mapSeq f),toks:=t'}:=by
 have q:=PySem.IsL.update e f
 rw[hf]at q
 refine I.write (x:=l) (e:=l) (by rw[hH];exact trivial) (.inl rfl) (fun b' u hb hu=>(Heap.get?_update_other s.heap (Obj.mapSeq f) (Ne.symm hb)).trans hu) ⟨_,q⟩ ?_
 exact⟨hz,its',_,hv,q⟩
theorem Inv.lnew {its:List Value}{t':Nat}(I:Inv X pins σ H s)(hv:Vals ys its)(hz:ys.length≤sizeLine) :
  Inv X pins σ (upd H s.heap.objs.size (.lst ys)) {s with heap:=s.heap.push {cls:= .type "list",data:= .seq its.toArray},toks:=t'}:=
 I.laid (fun _ _ q=>Heap.get?_push_of_some _ q) (Nat.le_refl _) ⟨hz,its,0,hv,Heap.get?_push_size _ rfl⟩
theorem Inv.fresh (I:Inv X pins σ H s):H s.heap.objs.size=none:=I.hok.fresh (Nat.le_refl _)
theorem Inv.lstM (I:Inv X pins σ H s)(hH:H l=some (.lst xs)):xs.length≤sizeLine∧ ∃(its:List Value) (n:Nat),Vals xs its∧xs.length=its.length∧s.heap.get? l=some {cls:= .type "list",data:= .seq its.toArray n}:=by
 obtain⟨z,its,n,r,e⟩:=I.hok l _ hH
 exact⟨z,its,n,r,r.length,e⟩
theorem bP3 {n:Nat}(h:n≤sizeLine):Builtin.List.listTooLong n=false:=by
 unfold Builtin.List.listTooLong
 exact decide_eq_false (by omega)
end
section
variable {X:Cx}
def c67:V→List V→Hp→VK→Prop:=fun x vs H Q=> ∃l xs y,x= .ref l∧vs=[y]∧H l=some (.lst xs)∧xs.length<sizeLine∧Q .non (upd H l (.lst (xs++[y])))
theorem aK0:MtM X "list.append" c67:=by
 intro pins s σ H x vs v us Q I rx rv h
 obtain⟨l,xs,y,rfl,rfl,hH,hz,q⟩:=h
 cases rx
 obtain⟨u,rfl,ru⟩:=rv.one
 obtain⟨z,its,n,r,hl,e⟩:=I.lstM hH
 refine call_meets F.slot_list_append ⟨_,e,rfl⟩ F.entry_list_append (F.args_list_append_2 _ _) (PySem.list_append l its.toArray n u (by rw[List.size_toArray];omega)) ⟨e,?_⟩
 refine⟨.non,_,I.lset (its':=its++[u]) hH e (by simp) (r.append (.cons ru .nil)) ?_,rfl,q⟩
 rw[List.length_append,List.length_singleton]
 omega
def rCat:R2:=fun x y H Q=> ∃l b xs zs,x= .ref l∧y= .ref b∧H l=some (.lst xs)∧H b=some (.lst zs)∧xs.length+zs.length≤sizeLine∧ ∀p,H p=none→Q (.ref p) (upd H p (.lst (xs++zs)))
theorem op_cat:OpR X (binaryOp .Add) rCat:=by
 intro pins s σ H x y v u Q I rx ry h
 obtain⟨l,b,xs,zs,rfl,rfl,hH,hB,hz,q⟩:=h
 cases rx
 cases ry
 obtain⟨z,its,n,r,hl,e⟩:=I.lstM hH
 obtain⟨z2,its2,n2,r2,hl2,e2⟩:=I.lstM hB
 refine PySem.P.add_list e e2 ?_ (by rw[List.size_toArray,List.size_toArray];omega)
 have ea:its.toArray++its2.toArray=(its++its2).toArray:=by simp
 rw[ea]
 exact⟨.ref _,_,I.lnew (t':=s.toks) (r.append r2) (by rw[List.length_append];omega),rfl,q _ I.fresh⟩
def rRep:R2:=fun x y H Q=> ∃l k xs,x= .ref l∧y= .int k∧H l=some (.lst xs)∧ -(2^63)≤k∧k<2^63∧xs.length*k.toNat≤sizeLine∧
 ∀p,H p=none→Q (.ref p) (upd H p (.lst (List.replicate k.toNat xs).flatten))
theorem aP4 {α:Type}(xs:List α)(k:Nat):(List.replicate k xs).flatten.length=k*xs.length:=by
 induction k with
 | zero=>simp
 | succ k ih=>rw[List.replicate_succ,List.flatten_cons,List.length_append,ih,Nat.succ_mul,Nat.add_comm]
theorem op_rep:OpR X (binaryOp .Mult) rRep:=by
 intro pins s σ H x y v u Q I rx ry h
 obtain⟨l,k,xs,rfl,rfl,hH,h1,h2,hz,q⟩:=h
 cases rx
 obtain⟨t,rfl⟩:=ry
 obtain⟨z,its,n,r,hl,e⟩:=I.lstM hH
 have hlen:its.toArray.size*k.toNat≤sizeLine:=by rw[List.size_toArray,←hl];exact hz
 have hcap: ¬its.toArray.size*k.toNat>(2^63-1)/8:=by
  have:(sizeLine:Nat)≤(2^63-1)/8:=by decide
  omega
 have hfit: ¬(!Builtin.List.listFitsIndex k)=true:=by
  rw[fitsIndex_both h1 h2]
  exact Bool.false_ne_true
 have hlong: ¬Builtin.List.listTooLong (its.toArray.size*k.toNat)=true:=by
  rw[bP3 hlen]
  exact Bool.false_ne_true
 have hnew:List.foldl (fun x1 x2=>x1++x2) #[] (List.replicate (if its.toArray.isEmpty=true then 0 else k.toNat) its.toArray)=(List.replicate k.toNat its).flatten.toArray:=by
  have f0: ∀m:Nat,List.foldl (fun x1 x2=>x1++x2) #[] (List.replicate m its.toArray)=(List.replicate m its).flatten.toArray:=fun m=>by
   have:=foldl_rep its m []
   rw[List.nil_append]at this
   exact this
  rw[f0]
  cases its with
  | nil=>simp
  | cons a r'=>rw[if_neg (by simp)]
 refine wpAny_binaryOp_repeat_ref (T:="list") (U:="int") (by decide) ⟨_,e,rfl⟩ (fun s'=>typeIs_int s' k t) noFill_list_mul F.fills_int_mul F.slot_int_rmul repeat_list F.slot_int_index.lookup
  (call_meets F.slot_int_rmul (typeIs_int s k t) F.entry_int_rmul (F.args_int_rmul_2 _ _) (int___rmul___int_list k t l its.toArray n)
   ⟨e,rfl,⟨_,e,rfl⟩,call_meets F.slot_list_mul ⟨_,e,rfl⟩ F.entry_list_mul (F.args_list_mul_2 _ _) (AutoListH.list___mul___list_int_3 l its.toArray n k t hfit hcap hlong) ⟨e,?_⟩⟩)
 rw[hnew]
 exact⟨.ref _,_,I.lnew (t':=s.toks) (r.rep k.toNat) (by rw[aP4,Nat.mul_comm];exact hz),rfl,q _ I.fresh⟩
end
section
variable {prog:Program}{w:World}{A:Around}{E:Value→Shared→Prop}{s:Shared}
set_option maxRecDepth 100000 in
end
end L2
namespace Att
open PySem PySem.W PySem.Calls PyProof.Rows
theorem a02 {P:Params}{h:Heap}: ∀(ns:List Int) (vs:List Value),WellAll P h vs (ns.map WData.int)→IntsAre vs ns:=by
 intro ns
 induction ns with
 | nil=>
  intro vs w
  rw[List.map_nil]at w
  cases w
  exact .nil
 | cons n ns ih=>
  intro vs w
  rw[List.map_cons]at w
  cases w with
  | cons a b=>
   cases a
   exact .cons _ _ (ih _ b)
theorem bG9 {l:OpenLaw}{n:Nat}(hn:l.most=some n){P:Params}{h:Heap}{args:List WData}{vals:List Value}
  (hpre:l.row.toRowW.claim.pre args=true) (hwl:WellAll P h vals args) :
  ∃a vs ns,vals=[Value.ref a]∧args=[WData.list (ns.map WData.int)]∧h.get? a=some {cls:= .type "list",data:= .seq vs.toArray}∧IntsAre vs ns∧ns.length≤n:=by
 have hsh:WShape.hasAll [] args [.list .int]=true:=(pre_splitW hpre).1
 have hc:l.pre.holds [] {args:=args}=true:=(pre_splitW hpre).2
 obtain⟨d,r,rfl,h1,h2⟩:=hasAllW_cons hsh
 obtain rfl:=hasAllW_nil h2
 obtain⟨xs,rfl,h3⟩:=hasW_list h1
 obtain⟨ns,rfl⟩:=items_int h3
 have hlen:ns.length≤n:=by
  unfold OpenLaw.pre at hc
  have h4:(WTm.not (.lt (.lit (.int (n:Int))) (.len (.arg 0)))).holds [] {args:=[.list (ns.map .int)]}=true:=by
   have h4:=(holds_andW hc).1
   rw[hn]at h4
   exact h4
  have h5:=condW_of h4 (w_not (w_lt w_lit (w_len_list (w_arg rfl))))
  rw[List.length_map]at h5
  refine Nat.le_of_not_lt fun q=> ?_
  have q':(n:Int)< ((ns.length:Nat):Int):=by omega
  first
   | (rw[decide_eq_true q']at h5;exact absurd h5 (by decide))
   | (simp at h5;omega)
 cases hwl with
 | cons w1 w2=>
  cases w2
  cases w1 with
  | list ho hall=>exact⟨_,_,ns,rfl,rfl,ho,a02 ns _ hall,hlen⟩
theorem bH0 (l:OpenLaw)(args:List WData):l.row.toRowW.claim.post args (.bool true) args=true:=
 postW_of (r:=l.row.toRowW) (X:=(true==true))
  (show WShape.has [] (.bool true) .bool=true by first|rfl|decide|simp[WShape.has,WShape.arms,WShape.armsAll])
  (show(WTm.eq .res (.lit (.bool true))).value [] {args:=args,res:=some (.bool true),after:=args}=some (.bool (true==true))from w_eq_bool (w_res rfl) w_lit) rfl
theorem attach_call {l:OpenLaw}{n:Nat}{q:Program}{loose:List Str}{XP:(Str→Option Value)→Heap→Prop}{YP:World→Heap→Prop}{d:DefRec}
  (hn:l.most=some n) (hdf:d.params.defaults=[])
  (call: ∀(w:World) (s₀ s₁:Shared) (mg mb:Str→Option Value) (fa:Addr) (o:Obj) (pm cd doc:Value) (a:Addr) (vs:List Value) (ns:List Int),
   Ground q loose [] XP w s₀ mg mb s₁.heap→YP w s₁.heap→
   s₁.heap.get? fa=some o→o.data= .func (docDef d.name d.params d.body d.scope pm cd doc)→s₁.heap.CodeRec cd d.name→mg d.name=some (.ref fa)→
   s₁.heap.get? a=some {cls:= .type "list",data:= .seq vs.toArray}→IntsAre vs ns→ns.length≤n→s₁.gens= #[]→
   codeAny (model l.prog w) callerA (.call (.ref fa) ⟨[.ref a],[]⟩) (fun r s'=>r= .ok (.ret (.bool true))∧OldK s₁.heap s'.heap∧s'.os=s₁.os∧AllBare s'.gens) s₁) :
  WalkO q loose XP YP l.row.toRowW d [] (fun f vs=>PySem.call f vs):=by
 intro w s₀ s₁ mg mb G Y fa o pm cd doc dV kV ho hd hcd hD hmg hg args vals as hpre hlay hrd hwl hlo
 obtain rfl:dV= .none:=Dflts.none hD hdf
 obtain rfl:kV= .none:=Dflts.noKw hD
 obtain⟨a,vs,ns,rfl,rfl,hobj,hints,hlen⟩:=bG9 hn hpre hwl
 refine enter_call (codeAny_mono (call w s₀ s₁ mg mb fa o pm cd doc a vs ns G Y ho (fd_plain hd) hcd hmg hobj hints hlen hg) fun r s' hq=> ?_)
 obtain⟨rfl,h2,h3,h4⟩:=hq
 exact⟨.inl ⟨.bool true,.bool true,[],rfl,fun _=>rfl,.bool true,bH0 l _,fun _=>⟨List.Pairwise.nil,fun _ hm=>(nomatch hm)⟩⟩,h2,h3,h4⟩
end Att
namespace L2
open PySem PySem.Spec PyProof.Rows
theorem aK1: ∀{vs:List Value} {ns:List Int},IntsAre vs ns→Vals (ns.map V.int) vs
 | _,_,.nil=> .nil
 | _,_,.cons n t h=> .cons ⟨t,rfl⟩ (aK1 h)
def Only (H:Hp):Prop:= ∀b,H b=none∨ ∃o xs,H b=some (.frz o (.lst xs))
theorem bP4 {P:Program}{w:World}{K:PySem.W.Frag}{mg mb:Str→Option Value}{CX:CXT}{k:Nat}{fa a:Addr}{fd:FuncData}{x:Str}{sp:Sp}{s₁:Shared}{vs:List Value}{ns:List Int}
  (KX:K.In s₁.heap) (hns:s₁.heap.Ns mainGlobals mg) (hb:s₁.heap.Ns builtinsNs mb) (hbb: ∀x:Str,x≠"__name__"→mb x=bootBuiltins x) (hlim:s₁.heap.NoLimit) (hg:s₁.gens= #[])
  (ha:s₁.heap.get? a=some {cls:= .type "list",data:= .seq vs.toArray}) (hi:IntsAre vs ns) (hl:ns.length≤sizeLine) (hr:bM k callerA)
  (F: ∀base:Heap,K.In base→base.Ns mainGlobals mg→kH P w K mg base CX k fa fd [x] sp) (hbind: ∀(s:Shared) (u:Value),BindsTo s fd ⟨[u],[]⟩ [(x,u)])
  (hsp: ∀H:Hp,Only H→SqL K H a (ns.map V.int)→sp [.ref a] H (fun v _=>v= .bl true) fun _ _ _=>False)
  (hCX: ∀H e s',CX [] H s₁ (fun _ _ _=>False) e s'→False) :
  codeAny (model P w) callerA (.call (.ref fa) ⟨[.ref a],[]⟩) (fun r s'=>r= .ok (.ret (.bool true))∧OldK s₁.heap s'.heap∧s'.os=s₁.os∧AllBare s'.gens) s₁:=by
 have rv:=aK1 hi
 have lenV:=hi.length
 have core: ∀H:Hp,Only H→SqL K H a (ns.map V.int)→HOk P w H s₁.heap→(∀b,H b≠none→b=a)→(H a≠none→K.lookup a=none)→
   codeAny (model P w) callerA (.call (.ref fa) ⟨[.ref a],[]⟩) (fun r s'=>r= .ok (.ret (.bool true))∧OldK s₁.heap s'.heap∧s'.os=s₁.os∧AllBare s'.gens) s₁:=by
  intro H hO hS hok hA hK
  have base_of: ∀{b:Addr} {o:Obj},s₁.heap.get? b=some o→H b=none→(aO4 s₁.heap H).get? b=some o:=fun e n=>bM9 e n
  have noA: ∀{b:Addr} {o:Obj} {es:Array DictEntry} {ep:Nat},s₁.heap.get? b=some o→o.data= .dict es ep→H b=none:=fun {b o es ep} e d=>by
   cases q:H b with
   | none=>rfl
   | some u=>
    have e':b=a:=hA b (by rw[q];simp)
    subst e'
    rw[ha]at e;cases e
    have d':Data.seq vs.toArray _=Data.dict es ep:=d
    cases d'
  have nsK: ∀{b:Addr} {m:Str→Option Value},s₁.heap.Ns b m→(aO4 s₁.heap H).Ns b m:=fun {b m} ⟨o,es,ep,e,d,r⟩=>⟨o,es,ep,base_of e (noA e d),d,r⟩
  have hKb:K.In (aO4 s₁.heap H):=fun b o e=>base_of (KX b o e) (by
   cases q:H b with
   | none=>rfl
   | some u=>
    have e':b=a:=hA b (by rw[q];simp)
    subst e'
    rw[hK (by rw[q];simp)]at e;cases e)
  have hM:Mod K mg (aO4 s₁.heap H):=⟨hKb,nsK hns,⟨mb,nsK hb,hbb⟩,let ⟨mc,h1,h2⟩:=hlim;⟨mc,nsK h1,h2⟩⟩
  have e0:aF7 P w K mg (aO4 s₁.heap H) callerA [] s₁ H:=⟨rfl,hM,fun b o e=>c01 e,Nat.le_of_eq (bF7 _ _),trivial,fun b hb=>absurd (show b∈([]:List Addr)from hb) (by simp),hok,.of_eq hg⟩
  refine codeAny_mono ((F _ hKb (nsK hns)).run callerA [] s₁ H ⟨[.ref a],[]⟩ [.ref a] [.ref a] _ _ hr e0 (hbind s₁ (.ref a)) (.cons rfl .nil) (hsp H hO hS)) fun r s' h=> ?_
  cases r with
  | error e=>exact(hCX H e s' h).elim
  | ok fl=>
   cases fl with
   | next=>exact False.elim h
   | brk=>exact False.elim h
   | cont=>exact False.elim h
   | ret u=>
    obtain⟨v,H',os,bare,un,hok',r',q⟩:=h
    have q':v= .bl true:=q
    subst q'
    obtain rfl:u=Value.bool true:=r'
    refine⟨rfl,OldK.of_keep fun b o e=> ?_,os,bare⟩
    cases q:H b with
    | none=>exact un.keep b o e q (by intro z;exact absurd (show b∈([]:List Addr)from z) (by simp)) (by simp)
    | some u=>
     rcases hO b with z| ⟨ob,xs,z⟩
     ·rw[q]at z;cases z
     ·have z2:=un.frzs b ob _ z
      obtain⟨e1,_⟩:=hok b _ z
      obtain⟨e2,_⟩:=hok' b _ z2
      rw[e]at e1;cases e1
      exact e2
 cases hk:K.lookup a with
 | some o=>
  have e:=KX a o hk
  rw[ha]at e
  cases e
  refine core (fun _=>none) (fun _=> .inl rfl) (.inr ⟨_,vs.toArray,_,hk,rfl,rfl,rfl,by rw[List.size_toArray,lenV];exact hl,by simpa using rv⟩) (fun b u z=>by have z':(none:Option HO)=some u:=z;cases z') (fun b z=>absurd rfl z) fun z=>absurd rfl z
 | none=>
  refine core (fun b=>if b=a then some (.frz {cls:= .type "list",data:= .seq vs.toArray} (.lst (ns.map V.int)))else none) (fun b=> ?_) (.inl (.inr ⟨{cls:= .type "list",data:= .seq vs.toArray},if_pos rfl⟩)) (fun b u z=> ?_) (fun b z=> ?_) fun _=>hk
  ·by_cases hb:b=a
   ·exact .inr ⟨_,_,if_pos hb⟩
   ·exact .inl (if_neg hb)
  ·by_cases hb:b=a
   ·have z':=(if_pos hb).symm.trans z
    cases z'
    subst hb
    exact⟨ha,by rw[List.length_map];exact hl,vs,_,rv,ha⟩
   ·have z':=(if_neg hb).symm.trans z
    cases z'
  ·by_cases hb:b=a
   ·exact hb
   ·exact absurd (if_neg hb) z
end L2
namespace L2
open PySem PySem.Spec PyProof.Rows
theorem walk_of {l:PySem.W.OpenLaw}{n k:Nat}{q:Program}{loose:List Str}{XP:(Str→Option Value)→Heap→Prop}{YP:World→Heap→Prop}{d:DefRec}{K:Params→PySem.W.Frag}{CX:World→CXT}{sp:World→Sp}{x:Str}
  (hn:l.most=some n) (hn2:n≤sizeLine) (hdf:d.params.defaults=[]) (hr:bM k callerA)
  (hY: ∀(w:World) (h:Heap),YP w h→(K w.params).In h)
  (F: ∀(w:World) (mg:Str→Option Value) (fa:Addr) (h:Heap),(K w.params).In h→h.Ns mainGlobals mg→mg d.name=some (.ref fa)→
   ∃fd:FuncData,(∀(s:Shared) (u:Value),BindsTo s fd ⟨[u],[]⟩ [(x,u)])∧
    ∀base:Heap,(K w.params).In base→base.Ns mainGlobals mg→kH l.prog w (K w.params) mg base (CX w) k fa fd [x] (sp w))
  (hsp: ∀(w:World) (H:Hp) (a:Addr) (ns:List Int),ns.length≤n→Only H→SqL (K w.params) H a (ns.map V.int)→sp w [.ref a] H (fun v _=>v= .bl true) fun _ _ _=>False)
  (hCX: ∀(w:World) (H:Hp) (s:Shared) (e:Value) (s':Shared),CX w [] H s (fun _ _ _=>False) e s'→False) :
  PySem.W.WalkO q loose XP YP l.row.toRowW d [] (fun f vs=>PySem.call f vs):=by
 refine Att.attach_call hn hdf fun w s₀ s₁ mg mb fa o pm cd doc a vs ns G Y ho hd hcd hmg hobj hints hlen hg=> ?_
 have KX:=hY w _ Y
 obtain⟨fd,hb,hF⟩:=F w mg fa _ KX G.T.g hmg
 exact bP4 KX G.T.g G.T.b G.T.builtins G.T.nolimit hg hobj hints (Nat.le_trans hlen hn2) hr hF hb (fun H hO hS=>hsp w H a ns hlen hO hS) fun H e s'=>hCX w H s₁ e s'
end L2
namespace L2
open PySem PySem.Spec PyProof.Rows
def aV (s:Stmt):Arguments:=match s with
 | .FunctionDef _ a _ _ _ _ _ _ _ _=>a
 | _=>{posonlyargs:=[],args:=[],vararg:=none,kwonlyargs:=[],kw_defaults:=[],kwarg:=none,defaults:=[]}
def aI (s:Stmt):List Stmt:=match s with
 | .FunctionDef _ _ b _ _ _ _ _ _ _=>b
 | _=>[]
def aB (s:Stmt):Scope:=match s with
 | .FunctionDef _ _ _ _ _ _ sc _ _ _=>sc
 | _=>{kind:= .function,names:=[],isGenerator:=false,isCoroutine:=false}
abbrev CX0:CXT:=fun _ _ _ _ _ _=>False
abbrev E0:XK:=fun _ _ _=>False
structure Fun (K:PySem.W.Frag)(x qual:Str)(st:Stmt)(f:Addr)(fd:FuncData):Prop where
 ex: ∃(oc:Value) (od:Option Addr) (kV doc pm:Value) (an:Option Addr) (cdv ct:Value) (osl:Array (Option Value)),
  fd=PySem.W.fnOf x qual (aV st) (aI st) (aB st) .none kV doc pm an cdv ct∧K.lookup f=some ⟨oc,od,.func fd,osl⟩∧PySem.W.codeIn K cdv qual=true
 kp:PySem.W.keepIn K (.ref f)=true
section
variable {P:Program}{w:World}{K:PySem.W.Frag}{mg:Str→Option Value}{base:Heap}
theorem Fun.ok {x qual:Str}{st:Stmt}{f:Addr}{fd:FuncData}{N ps:List Str}{k:Nat}{sp:Sp}(F:Fun K x qual st f fd)(S:aU N ps (aB st))(len: ∀vs H Q E,sp vs H Q E→vs.length=ps.length)
  (hbody: ∀(cdv:Value) (A:Around) (outer:List Env) (s:Shared) (H:Hp) (vs:List V) (Q:VK) (E:XK),bM k (A.deeper (envOfC qual (aB st) s.heap.objs.size f cdv))→sp vs H Q E→
   ∃t,PSs (cL CX0 P w K mg base N qual (aB st) f cdv A outer s H E).nox (aI st) t∧t {nx:=fun _ H'=>Q .non H',rt:=Q} (start N vs) H):kH P w K mg base CX0 (k+1) f fd ps sp:=by
 obtain⟨oc,od,kV,doc,pm,an,cdv,ct,osl,rfl,lk,hcd⟩:=F.ex
 refine bO8 lk hcd S len fun A outer s H vs Q E hr hsp=> ?_
 obtain⟨t,h,q⟩:=hbody cdv A outer s H vs Q E hr hsp
 exact⟨t,h.nox,q⟩
theorem Fun.binds {x qual:Str}{st:Stmt}{f:Addr}{fd:FuncData}{ps:List Str}(F:Fun K x qual st f fd)
  (h: ∀(kV doc pm:Value) (an:Option Addr) (cdv ct:Value) (us:List Value),us.length=ps.length→bindArgs (PySem.W.fnOf x qual (aV st) (aI st) (aB st) .none kV doc pm an cdv ct) ⟨us,[]⟩=pure (ps.zip us)):Binds K fd ps []:=by
 obtain⟨oc,od,kV,doc,pm,an,cdv,ct,osl,rfl,lk,hcd⟩:=F.ex
 exact .all (h kV doc pm an cdv ct)
theorem bI {x qual:Str}{st:Stmt}{f:Addr}{oc:Value}{od an:Option Addr}{osl:Array (Option Value)}{kV doc pm cdv ct:Value}(l:K.lookup f=some ⟨oc,od,.func (PySem.W.fnOf x qual (aV st) (aI st) (aB st) .none kV doc pm an cdv ct),osl⟩)
  (c:PySem.W.codeIn K cdv qual=true) (k:PySem.W.keepIn K (.ref f)=true):Fun K x qual st f (PySem.W.fnOf x qual (aV st) (aI st) (aB st) .none kV doc pm an cdv ct):=⟨⟨oc,od,kV,doc,pm,an,cdv,ct,osl,rfl,l,c⟩,k⟩
end
section
variable {X:Cx}
theorem pv (i:Nat){x:Str}{pos:Pos}(hN:X.N[i]? =some x:=by rfl)(hv:Vis X.env.scope x:=by first|exact Or.inl rfl|exact Or.inr (Or.inl rfl)|exact Or.inr (Or.inr rfl))(hd:(x==("__debug__":Str))=false:=by decide)
  (hcd:(x==("__classdict__":Str))=false:=by decide):PE X (.Name x pos) (a01 i):=pe_var hN hv hd hcd
end
def fF (H H':Hp):Prop:= ∀b o,H b=some o→H' b=some o
theorem fF.refl (H:Hp):fF H H:=fun _ _ h=>h
theorem fF.trans {H H1 H2:Hp}(a:fF H H1)(b:fF H1 H2):fF H H2:=fun c o h=>b c o (a c o h)
theorem fF.free {H H':Hp}(e:fF H H'){l:Addr}(h:H' l=Option.none):H l=Option.none:=by
 cases q:H l with
 | none=>rfl
 | some o=>
  rw[e l o q]at h
  cases h
theorem fF.seq {K:PySem.W.Frag}{H H':Hp}{a:Addr}{xs:List V}(e:fF H H')(h:SqL K H a xs):SqL K H' a xs:=by
 rcases h with(h| ⟨o,h⟩)|h
 ·exact .inl (.inl (e _ _ h))
 ·exact .inl (.inr ⟨o,e _ _ h⟩)
 ·exact .inr h
end L2
section
namespace M
open PySem PySem.Spec PyProof.Rows L2
inductive D where
 | non|bl (b:Bool)|int (i:Int)|str (x:Str)|ty (n:String)
 | tup (l:List D)|lst (l:List D)|rol (l:List D)
 | obj (C:Addr) (ks:List Str) (l:List D)
 | adr (a:Addr)
abbrev AS:=Addr→Prop
def KT (K:PySem.W.Frag)(a:Addr)(vs:List V):Prop:=
 ∃(o:Obj) (its:Array Value) (n:Nat),K.lookup a=some o∧o.cls= .type "tuple"∧o.data= .seq its n∧its.size≤sizeLine∧Vals vs its.toList
def KL (K:PySem.W.Frag)(a:Addr)(vs:List V):Prop:=
 ∃(o:Obj) (its:Array Value) (n:Nat),K.lookup a=some o∧o.cls= .type "list"∧o.dict=none∧o.data= .seq its n∧its.size≤sizeLine∧Vals vs its.toList
def OkC (K:PySem.W.Frag)(C:Addr)(ks:List Str):Prop:=Cls K C∧ ∀f∈ks,sR K C f
mutual
def Rep (K:PySem.W.Frag)(A:AS)(H:Hp):D→V→Prop
 | .non,v=>v= .non
 | .bl b,v=>v= .bl b
 | .int i,v=>v= .int i
 | .str x,v=>v= .str x
 | .ty n,v=>v= .ty n
 | .tup l,v=> ∃a vs,v= .ref a∧((¬A a∧Rd H a (.tup vs))∨KT K a vs)∧bC K A H l vs
 | .lst l,v=> ∃a vs,v= .ref a∧ ¬A a∧H a=some (.lst vs)∧bC K A H l vs
 | .rol l,v=> ∃a vs,v= .ref a∧((¬A a∧Rd H a (.lst vs))∨KL K a vs)∧bC K A H l vs
 | .obj C ks l,v=> ∃a dx vs,v= .ref a∧ ¬A a∧H a=some (.ins C dx (ks.zip vs))∧ks.length=vs.length∧bC K A H l vs∧OkC K C ks
 | .adr a,v=>v= .ref a
def bC (K:PySem.W.Frag)(A:AS)(H:Hp):List D→List V→Prop
 | [],vs=>vs=[]
 | d::ds,vs=> ∃v vr,vs=v::vr∧Rep K A H d v∧bC K A H ds vr
end
section
variable {K:PySem.W.Frag}{A A':AS}{H H':Hp}
def jD (A:AS)(H:Hp)(A':AS)(H':Hp):Prop:= ∀b o,¬A b→H b=some o→ ¬A' b∧H' b=some o
theorem Rd.pres (p:jD A H A' H'){a:Addr}{u:HO}(n: ¬A a)(r:Rd H a u): ¬A' a∧Rd H' a u:=by
 rcases r with r| ⟨o,r⟩
 ·exact⟨(p a _ n r).1,.inl (p a _ n r).2⟩
 ·exact⟨(p a _ n r).1,.inr ⟨o,(p a _ n r).2⟩⟩
mutual
theorem Rep.mono (p:jD A H A' H'): ∀{d:D} {v:V},Rep K A H d v→Rep K A' H' d v
 | .non,_,h=>h
 | .bl _,_,h=>h
 | .int _,_,h=>h
 | .str _,_,h=>h
 | .ty _,_,h=>h
 | .tup l,v,h=>by
  simp only[Rep]at h⊢
  obtain⟨a,vs,e,c,r⟩:=h
  refine⟨a,vs,e,?_,bC.mono p r⟩
  rcases c with⟨n,c⟩|c
  ·exact .inl (Rd.pres p n c)
  ·exact .inr c
 | .lst l,v,h=>by
  simp only[Rep]at h⊢
  obtain⟨a,vs,e,n,c,r⟩:=h
  exact⟨a,vs,e,(p a _ n c).1,(p a _ n c).2,bC.mono p r⟩
 | .rol l,v,h=>by
  simp only[Rep]at h⊢
  obtain⟨a,vs,e,c,r⟩:=h
  refine⟨a,vs,e,?_,bC.mono p r⟩
  rcases c with⟨n,c⟩|c
  ·exact .inl (Rd.pres p n c)
  ·exact .inr c
 | .obj C ks l,v,h=>by
  simp only[Rep]at h⊢
  obtain⟨a,dx,vs,e,n,c,hl,r,ok⟩:=h
  exact⟨a,dx,vs,e,(p a _ n c).1,(p a _ n c).2,hl,bC.mono p r,ok⟩
 | .adr _,_,h=>h
theorem bC.mono (p:jD A H A' H'): ∀{l:List D} {vs:List V},bC K A H l vs→bC K A' H' l vs
 | [],_,h=>by simp only[bC]at h ⊢; exact h
 | d::ds,vs,h=>by
  simp only[bC]at h⊢
  obtain⟨v,vr,e,r,rs⟩:=h
  exact⟨v,vr,e,Rep.mono p r,bC.mono p rs⟩
end
theorem bC.length: ∀{l:List D} {vs:List V},bC K A H l vs→l.length=vs.length
 | [],_,h=>by simp only[bC]at h;subst h;rfl
 | d::ds,vs,h=>by
  simp only[bC]at h
  obtain⟨v,vr,rfl,_,rs⟩:=h
  simp only[List.length_cons,bC.length rs]
theorem bC.nil:bC K A H [] []:=by simp only[bC]
theorem bC.cons {d:D}{v:V}{l:List D}{vs:List V}(r:Rep K A H d v)(rs:bC K A H l vs):bC K A H (d::l) (v::vs):=by
 simp only[bC];exact⟨v,vs,rfl,r,rs⟩
theorem bC.uncons {d:D}{l:List D}{vs:List V}(h:bC K A H (d::l) vs): ∃v vr,vs=v::vr∧Rep K A H d v∧bC K A H l vr:=by
 simpa only[bC]using h
theorem bC.unnil {vs:List V}(h:bC K A H [] vs):vs=[]:=by simpa only[bC]using h
theorem bC.append: ∀{l m:List D} {vs ws:List V},bC K A H l vs→bC K A H m ws→bC K A H (l++m) (vs++ws)
 | [],_,_,_,h,g=>by rw[h.unnil];exact g
 | d::l,m,vs,ws,h,g=>by
  obtain⟨v,vr,rfl,r,rs⟩:=h.uncons
  exact .cons r (bC.append rs g)
theorem bC.get: ∀{l:List D} {vs:List V} {i:Nat} {d:D},bC K A H l vs→l[i]? =some d→ ∃v,vs[i]? =some v∧Rep K A H d v
 | [],_,_,_,_,e=>by simp at e
 | d::l,vs,0,d',h,e=>by
  obtain⟨v,vr,rfl,r,rs⟩:=h.uncons
  simp at e;subst e
  exact⟨v,by simp,r⟩
 | d::l,vs,i+1,d',h,e=>by
  obtain⟨v,vr,rfl,r,rs⟩:=h.uncons
  obtain⟨w,h1,h2⟩:=bC.get (i:=i) rs (by simpa using e)
  exact⟨w,by simpa using h1,h2⟩
theorem bC.set: ∀{l:List D} {vs:List V} {d:D} {v:V} (i:Nat),bC K A H l vs→Rep K A H d v→bC K A H (l.set i d) (vs.set i v)
 | [],_,_,_,_,h,_=>by rw[h.unnil];exact .nil
 | d'::l,vs,d,v,0,h,g=>by
  obtain⟨w,vr,rfl,r,rs⟩:=h.uncons
  exact .cons g rs
 | d'::l,vs,d,v,i+1,h,g=>by
  obtain⟨w,vr,rfl,r,rs⟩:=h.uncons
  exact .cons r (bC.set i rs g)
theorem bC.drop: ∀{l:List D} {vs:List V} (n:Nat),bC K A H l vs→bC K A H (l.drop n) (vs.drop n)
 | _,_,0,h=>h
 | [],_,n+1,h=>by rw[h.unnil];exact .nil
 | d::l,vs,n+1,h=>by
  obtain⟨v,vr,rfl,r,rs⟩:=h.uncons
  exact bC.drop n rs
theorem bC.take: ∀{l:List D} {vs:List V} (n:Nat),bC K A H l vs→bC K A H (l.take n) (vs.take n)
 | _,_,0,h=>by simp only[List.take_zero];exact .nil
 | [],_,n+1,h=>by rw[h.unnil];exact .nil
 | d::l,vs,n+1,h=>by
  obtain⟨v,vr,rfl,r,rs⟩:=h.uncons
  exact .cons r (bC.take n rs)
theorem bC.rep {l:List D}{vs:List V}(h:bC K A H l vs): ∀k:Nat,bC K A H (List.replicate k l).flatten (List.replicate k vs).flatten
 | 0=> .nil
 | k+1=>by
  rw[List.replicate_succ,List.replicate_succ,List.flatten_cons,List.flatten_cons]
  exact .append h (h.rep k)
theorem bC.reverse: ∀{l:List D} {vs:List V},bC K A H l vs→bC K A H l.reverse vs.reverse
 | [],_,h=>by rw[h.unnil];exact .nil
 | d::l,vs,h=>by
  obtain⟨v,vr,rfl,r,rs⟩:=h.uncons
  rw[List.reverse_cons,List.reverse_cons]
  exact .append (bC.reverse rs) (.cons r .nil)
theorem jD.same (s:fF H H'):jD A H A H':=fun b o n e=>⟨n,s b o e⟩
theorem jD.sub (s:fF H H')(h: ∀a,A' a→A a):jD A H A' H':=fun b o n e=>⟨fun q=>n (h b q),s b o e⟩
theorem jD.fresh {a:Addr}(s:fF H H')(n:H a=none):jD A H (fun b=>A b∨b=a) H':=fun b o nb e=>
 ⟨fun q=>q.elim nb fun z=>(by subst z;rw[n]at e;cases e),s b o e⟩
theorem jD.upd {a:Addr}{o:HO}(h:A a):jD A H A (upd H a o):=fun b o' nb e=>⟨nb,by rw[cB (fun z=>nb (by subst z;exact h))];exact e⟩
end
inductive B where
 | pu (d:D)|ow (l:List D)|bo (l:List D)
def B.d:B→D
 | .pu d=>d
 | .ow l=> .lst l
 | .bo l=> .lst l
abbrev Ev:=List (Option B)
def Own (ρ:Ev)(σ:L2.St):AS:=fun a=> ∃(i:Nat) (l:List D),ρ[i]? =some (some (.ow l))∧σ[i]? =some (some (.ref a))
structure C0 where
 H0:Hp
 A0:AS
def Av (C:C0)(ρ:Ev)(σ:L2.St):AS:=fun a=>C.A0 a∨Own ρ σ a
structure EOk (K:PySem.W.Frag)(C:C0)(ρ:Ev)(σ:L2.St)(H:Hp):Prop where
 len:ρ.length=σ.length
 pu: ∀(i:Nat) (d:D),ρ[i]? =some (some (.pu d))→ ∃v,σ[i]? =some (some v)∧Rep K (Av C ρ σ) H d v
 ow: ∀(i:Nat) (l:List D),ρ[i]? =some (some (.ow l))→ ∃a vs,σ[i]? =some (some (.ref a))∧H a=some (.lst vs)∧C.H0 a=none∧bC K (Av C ρ σ) H l vs
 inj: ∀(i j:Nat) (l l':List D) (a:Addr),ρ[i]? =some (some (.ow l))→ρ[j]? =some (some (.ow l'))→σ[i]? =some (some (.ref a))→σ[j]? =some (some (.ref a))→i=j
 bo: ∀(i:Nat) (l:List D),ρ[i]? =some (some (.bo l))→ ∃a vs,σ[i]? =some (some (.ref a))∧C.A0 a∧C.H0 a=some (.lst vs)∧bC K (Av C ρ σ) H l vs
 ext:fF C.H0 H
 a0: ∀a,C.A0 a→C.H0 a≠none
section
variable {K:PySem.W.Frag}{C:C0}{ρ ρ':Ev}{σ σ':L2.St}{H H':Hp}
theorem EOk.avSome (I:EOk K C ρ σ H){a:Addr}(h:Av C ρ σ a):H a≠none:=by
 rcases h with h| ⟨i,l,h1,h2⟩
 ·intro z
  cases e:C.H0 a with
  | none=>exact I.a0 a h e
  | some o=>rw[I.ext a o e]at z;cases z
 ·obtain⟨b,vs,h3,h4,_⟩:=I.ow i l h1
  rw[h2]at h3;cases h3
  rw[h4];simp
theorem EOk.same (I:EOk K C ρ σ H)(s:fF H H'):EOk K C ρ σ H' where
 len:=I.len
 pu:=fun i d h=>let ⟨v,h1,h2⟩:=I.pu i d h;⟨v,h1,h2.mono (.same s)⟩
 ow:=fun i l h=>let ⟨a,vs,h1,h2,h3,h4⟩:=I.ow i l h;⟨a,vs,h1,s _ _ h2,h3,h4.mono (.same s)⟩
 inj:=I.inj
 bo:=fun i l h=>let ⟨a,vs,h1,h2,h3,h4⟩:=I.bo i l h;⟨a,vs,h1,h2,h3,h4.mono (.same s)⟩
 ext:=I.ext.trans s
 a0:=I.a0
theorem get_set_ne {α:Type}{l:List α}{i j:Nat}{x:α}(h:i≠j):(l.set i x)[j]? =l[j]? :=by
 rw[List.getElem?_set];simp[h]
theorem gG {α:Type}{l:List α}{i:Nat}{x:α}(h:i<l.length):(l.set i x)[i]? =some x:=by
 rw[List.getElem?_set];simp[h]
theorem aY {α:Type}{l:List α}{i j:Nat}{x y:α}(h:(l.set i x)[j]? =some y):(i=j∧y=x∧i<l.length)∨(i≠j∧l[j]? =some y):=by
 by_cases e:i=j
 ·subst e
  rw[List.getElem?_set]at h
  by_cases hl:i<l.length
  ·simp[hl]at h;exact .inl ⟨rfl,h.symm,hl⟩
  ·simp[hl]at h
 ·exact .inr ⟨e,by rw[get_set_ne e]at h;exact h⟩
def nE (K:PySem.W.Frag)(A:AS)(H H':Hp):B→V→Prop
 | .pu d,v=>Rep K A H' d v
 | .ow l,v=> ∃a vs,v= .ref a∧H a=none∧H' a=some (.lst vs)∧bC K (fun b=>A b∨b=a) H' l vs
 | .bo _,_=>False
theorem nE.rep {A:AS}(hA: ∀a,A a→H a≠none): ∀{b:B} {v:V},nE K A H H' b v→Rep K A H' b.d v
 | .pu d,v,h=>h
 | .ow l,v,h=>by
  obtain⟨a,vs,e,n,h1,r⟩:=h
  show Rep K A H' (.lst l) v
  simp only[Rep]
  exact⟨a,vs,e,fun z=>hA a z n,h1,r.mono (fun b o nb q=>⟨fun z=>nb (.inl z),q⟩)⟩
 | .bo l,v,h=>h.elim
theorem EOk.store (I:EOk K C ρ σ H){i:Nat}{b:B}{v:V}{H1:Hp}(s:fF H H1)(r:nE K (Av C ρ σ) H H1 b v)(hi:i<σ.length):EOk K C (ρ.set i (some b)) (σ.set i (some v)) H1:=by
 have I1:=I.same s
 have hir:i<ρ.length:=by rw[I.len];exact hi
 cases b with
 | pu d=>
  have sub: ∀a,Av C (ρ.set i (some (.pu d))) (σ.set i (some v)) a→Av C ρ σ a:=by
   rintro a (z| ⟨j,l,h1,h2⟩)
   ·exact .inl z
   ·rcases aY h1 with⟨rfl,h3,_⟩| ⟨ne,h3⟩
    ·cases h3
    ·rw[get_set_ne ne]at h2
     exact .inr ⟨j,l,h3,h2⟩
  refine⟨by rw[List.length_set,List.length_set];exact I.len,?_,?_,?_,?_,I1.ext,I.a0⟩
  rotate_right
  ·intro j l h
   rcases aY h with⟨rfl,h3,_⟩| ⟨ne,h3⟩
   ·cases h3
   ·obtain⟨a,vs,h4,h5,h6,h7⟩:=I1.bo j l h3
    exact⟨a,vs,by rw[get_set_ne ne];exact h4,h5,h6,h7.mono (.sub (.refl _) sub)⟩
  ·intro j d' h
   rcases aY h with⟨rfl,h3,_⟩| ⟨ne,h3⟩
   ·cases h3
    exact⟨v,gG hi,Rep.mono (.sub (.refl _) sub) r⟩
   ·obtain⟨v',h4,h5⟩:=I1.pu j d' h3
    exact⟨v',by rw[get_set_ne ne];exact h4,h5.mono (.sub (.refl _) sub)⟩
  ·intro j l h
   rcases aY h with⟨rfl,h3,_⟩| ⟨ne,h3⟩
   ·cases h3
   ·obtain⟨a,vs,h4,h5,h6,h7⟩:=I1.ow j l h3
    exact⟨a,vs,by rw[get_set_ne ne];exact h4,h5,h6,h7.mono (.sub (.refl _) sub)⟩
  ·intro j k l l' a h1 h2 h3 h4
   rcases aY h1 with⟨rfl,z,_⟩| ⟨ne,z⟩
   ·cases z
   ·rcases aY h2 with⟨rfl,z',_⟩| ⟨ne',z'⟩
    ·cases z'
    ·rw[get_set_ne ne]at h3
     rw[get_set_ne ne']at h4
     exact I.inj j k l l' a z z' h3 h4
 | ow l0=>
  obtain⟨a0,vs0,rfl,n0,e0,r0⟩:=r
  have sub: ∀a,Av C (ρ.set i (some (.ow l0))) (σ.set i (some (.ref a0))) a→Av C ρ σ a∨a=a0:=by
   rintro a (z| ⟨j,l,h1,h2⟩)
   ·exact .inl (.inl z)
   ·rcases aY h1 with⟨rfl,h3,_⟩| ⟨ne,h3⟩
    ·rw[gG hi]at h2
     cases h2;exact .inr rfl
    ·rw[get_set_ne ne]at h2
     exact .inl (.inr ⟨j,l,h3,h2⟩)
  have P:jD (Av C ρ σ) H (Av C (ρ.set i (some (.ow l0))) (σ.set i (some (.ref a0)))) H1:=fun b o nb e=>
   ⟨fun q=>(sub b q).elim nb fun z=>(by subst z;rw[n0]at e;cases e),s b o e⟩
  refine⟨by rw[List.length_set,List.length_set];exact I.len,?_,?_,?_,?_,I1.ext,I.a0⟩
  rotate_right
  ·intro j l h
   rcases aY h with⟨rfl,h3,_⟩| ⟨ne,h3⟩
   ·cases h3
   ·obtain⟨a,vs,h4,h5,h6,h7⟩:=I.bo j l h3
    exact⟨a,vs,by rw[get_set_ne ne];exact h4,h5,h6,h7.mono P⟩
  ·intro j d' h
   rcases aY h with⟨rfl,h3,_⟩| ⟨ne,h3⟩
   ·cases h3
   ·obtain⟨v',h4,h5⟩:=I.pu j d' h3
    exact⟨v',by rw[get_set_ne ne];exact h4,h5.mono P⟩
  ·intro j l h
   rcases aY h with⟨rfl,h3,_⟩| ⟨ne,h3⟩
   ·cases h3
    refine⟨a0,vs0,gG hi,e0,?_,r0.mono (fun b o nb q=>⟨fun z=>nb (sub b z),q⟩)⟩
    cases e:C.H0 a0 with
    | none=>rfl
    | some o=>rw[I.ext _ _ e]at n0;cases n0
   ·obtain⟨a,vs,h4,h5,h6,h7⟩:=I.ow j l h3
    exact⟨a,vs,by rw[get_set_ne ne];exact h4,s _ _ h5,h6,h7.mono P⟩
  ·intro j k l l' a h1 h2 h3 h4
   have old: ∀{j:Nat} {l:List D},ρ[j]? =some (some (.ow l))→σ[j]? ≠some (some (.ref a0)):=fun {j l} h z=>by
    obtain⟨b,vs,h4,h5,_⟩:=I.ow j l h
    rw[z]at h4;cases h4
    rw[n0]at h5;cases h5
   rcases aY h1 with⟨rfl,z,_⟩| ⟨ne,z⟩
   ·rw[gG hi]at h3;cases h3
    rcases aY h2 with⟨rfl,z',_⟩| ⟨ne',z'⟩
    ·rfl
    ·rw[get_set_ne ne']at h4
     exact absurd h4 (old z')
   ·rw[get_set_ne ne]at h3
    rcases aY h2 with⟨rfl,z',_⟩| ⟨ne',z'⟩
    ·rw[gG hi]at h4;cases h4
     exact absurd h3 (old z)
    ·rw[get_set_ne ne']at h4
     exact I.inj j k l l' a z z' h3 h4
 | bo l0=>exact r.elim
theorem EOk.freeze (I:EOk K C ρ σ H){i:Nat}{l:List D}(h:ρ[i]? =some (some (.ow l))) :
  EOk K C (ρ.set i (some (.pu (.lst l)))) σ H∧(∀a,Own (ρ.set i (some (.pu (.lst l)))) σ a→Own ρ σ a)∧ ∃v,σ[i]? =some (some v)∧Rep K (Av C (ρ.set i (some (.pu (.lst l)))) σ) H (.lst l) v:=by
 have sub: ∀a,Own (ρ.set i (some (.pu (.lst l)))) σ a→Own ρ σ a:=by
  rintro a ⟨j,l',h1,h2⟩
  rcases aY h1 with⟨rfl,h3,_⟩| ⟨ne,h3⟩
  ·cases h3
  ·exact⟨j,l',h3,h2⟩
 have subA: ∀a,Av C (ρ.set i (some (.pu (.lst l)))) σ a→Av C ρ σ a:=fun a z=>z.imp id (sub a)
 obtain⟨a,vs,h1,h2,h3,h4⟩:=I.ow i l h
 have na: ¬Av C (ρ.set i (some (.pu (.lst l)))) σ a:=by
  rintro(z| ⟨j,l',g1,g2⟩)
  ·exact I.a0 a z h3
  ·rcases aY g1 with⟨rfl,g3,_⟩| ⟨ne,g3⟩
   ·cases g3
   ·exact ne (I.inj i j l l' a h g3 h1 g2)
 have R:Rep K (Av C (ρ.set i (some (.pu (.lst l)))) σ) H (.lst l) (.ref a):=by
  simp only[Rep]
  exact⟨a,vs,rfl,na,h2,h4.mono (.sub (.refl _) subA)⟩
 refine⟨⟨by rw[List.length_set];exact I.len,?_,?_,?_,?_,I.ext,I.a0⟩,sub,.ref a,h1,R⟩
 rotate_right
 ·intro j l' g
  rcases aY g with⟨rfl,g3,_⟩| ⟨ne,g3⟩
  ·cases g3
  ·obtain⟨a',vs',g4,g5,g6,g7⟩:=I.bo j l' g3
   exact⟨a',vs',g4,g5,g6,g7.mono (.sub (.refl _) subA)⟩
 ·intro j d' g
  rcases aY g with⟨rfl,g3,_⟩| ⟨ne,g3⟩
  ·cases g3
   exact⟨_,h1,R⟩
  ·obtain⟨v',g4,g5⟩:=I.pu j d' g3
   exact⟨v',g4,g5.mono (.sub (.refl _) subA)⟩
 ·intro j l' g
  rcases aY g with⟨rfl,g3,_⟩| ⟨ne,g3⟩
  ·cases g3
  ·obtain⟨a',vs',g4,g5,g6,g7⟩:=I.ow j l' g3
   exact⟨a',vs',g4,g5,g6,g7.mono (.sub (.refl _) subA)⟩
 ·intro j k l1 l2 a' g1 g2 g3 g4
  rcases aY g1 with⟨rfl,z,_⟩| ⟨ne,z⟩
  ·cases z
  ·rcases aY g2 with⟨rfl,z',_⟩| ⟨ne',z'⟩
   ·cases z'
   ·exact I.inj j k l1 l2 a' z z' g3 g4
theorem EOk.write (I:EOk K C ρ σ H){i:Nat}{l l':List D}{a:Addr}{vs':List V}(h:ρ[i]? =some (some (.ow l)))(hs:σ[i]? =some (some (.ref a)))(r:bC K (Av C ρ σ) H l' vs') :
  EOk K C (ρ.set i (some (.ow l'))) σ (upd H a (.lst vs')):=by
 have hi:i<ρ.length:=(List.getElem?_eq_some_iff.mp h).1
 have sub: ∀b,Av C (ρ.set i (some (.ow l'))) σ b→Av C ρ σ b:=by
  rintro b (z| ⟨j,l2,h1,h2⟩)
  ·exact .inl z
  ·rcases aY h1 with⟨rfl,h3,_⟩| ⟨ne,h3⟩
   ·exact .inr ⟨i,l,h,h2⟩
   ·exact .inr ⟨j,l2,h3,h2⟩
 have own:Av C ρ σ a:= .inr ⟨i,l,h,hs⟩
 have P:jD (Av C ρ σ) H (Av C (ρ.set i (some (.ow l'))) σ) (upd H a (.lst vs')):=fun b o nb e=>⟨fun z=>nb (sub b z),(jD.upd own b o nb e).2⟩
 obtain⟨a1,vs,h1,h2,h3,h4⟩:=I.ow i l h
 rw[hs]at h1;cases h1
 refine⟨by rw[List.length_set];exact I.len,?_,?_,?_,?_,?_,I.a0⟩
 rotate_left 3
 ·intro j l2 g
  rcases aY g with⟨rfl,g3,_⟩| ⟨ne,g3⟩
  ·cases g3
  ·obtain⟨a',vs',g4,g5,g6,g7⟩:=I.bo j l2 g3
   exact⟨a',vs',g4,g5,g6,g7.mono P⟩
 rotate_left 1
 ·intro j d' g
  rcases aY g with⟨rfl,g3,_⟩| ⟨ne,g3⟩
  ·cases g3
  ·obtain⟨v',g4,g5⟩:=I.pu j d' g3
   exact⟨v',g4,g5.mono P⟩
 ·intro j l2 g
  rcases aY g with⟨rfl,g3,_⟩| ⟨ne,g3⟩
  ·cases g3
   exact⟨a,vs',hs,hJ,h3,r.mono P⟩
  ·obtain⟨a',vs2,g4,g5,g6,g7⟩:=I.ow j l2 g3
   refine⟨a',vs2,g4,?_,g6,g7.mono P⟩
   rw[cB (fun z=> ?_)]
   ·exact g5
   ·subst z
    exact ne (I.inj i j l l2 a' h g3 hs g4)
 ·intro j k l1 l2 a' g1 g2 g3 g4
  have old: ∀{j:Nat} {l1:List D},(ρ.set i (some (.ow l')))[j]? =some (some (.ow l1))→ ∃l3,ρ[j]? =some (some (.ow l3)):=fun {j l1} g=>by
   rcases aY g with⟨rfl,z,_⟩| ⟨ne,z⟩
   ·exact⟨l,h⟩
   ·exact⟨l1,z⟩
  obtain⟨_,q1⟩:=old g1
  obtain⟨_,q2⟩:=old g2
  exact I.inj j k _ _ a' q1 q2 g3 g4
 ·intro b o e
  rw[cB (fun z=> ?_)]
  ·exact I.ext b o e
  ·subst z
   rw[h3]at e;cases e
def C0.raise (C:C0)(ρ:Ev)(σ:L2.St)(H:Hp)(D:(a:Addr)→Decidable (Own ρ σ a)):C0:=⟨fun b=> @ite _ (Own ρ σ b) (D b) none (H b),C.A0⟩
open Classical in
theorem EOk.raise (I:EOk K C ρ σ H):EOk K (C.raise ρ σ H fun _=>inferInstance) ρ σ H∧fF C.H0 (C.raise ρ σ H fun _=>inferInstance).H0:=by
 have e1: ∀b,Own ρ σ b→(C.raise ρ σ H fun _=>inferInstance).H0 b=none:=fun b h=>if_pos h
 have e2: ∀b,¬Own ρ σ b→(C.raise ρ σ H fun _=>inferInstance).H0 b=H b:=fun b h=>if_neg h
 have no: ∀b o,C.H0 b=some o→ ¬Own ρ σ b:=fun b o e ⟨i,l,h1,h2⟩=>by
  obtain⟨a,vs,h3,h4,h5,_⟩:=I.ow i l h1
  rw[h2]at h3;cases h3
  rw[h5]at e;cases e
 have s1:fF C.H0 (C.raise ρ σ H fun _=>inferInstance).H0:=fun b o e=>by rw[e2 b (no b o e)];exact I.ext b o e
 refine⟨⟨I.len,I.pu,fun i l h=> ?_,I.inj,fun i l h=> ?_,fun b o e=> ?_,fun a h z=> ?_⟩,s1⟩
 ·obtain⟨a,vs,h3,h4,h5,h6⟩:=I.ow i l h
  exact⟨a,vs,h3,h4,e1 a ⟨i,l,h,h3⟩,h6⟩
 ·obtain⟨a,vs,h3,h4,h5,h6⟩:=I.bo i l h
  exact⟨a,vs,h3,h4,s1 _ _ h5,h6⟩
 ·by_cases q:Own ρ σ b
  ·rw[e1 b q]at e;cases e
  ·rw[e2 b q]at e;exact e
 ·cases e:C.H0 a with
  | none=>exact I.a0 a h e
  | some o=>rw[s1 a o e]at z;cases z
theorem EOk.lower {C C':C0}(I:EOk K C' ρ σ H)(s:fF C.H0 C'.H0)(e:C'.A0=C.A0)(ha: ∀a,C.A0 a→C.H0 a≠none):EOk K C ρ σ H:=by
 obtain⟨H0',A0'⟩:=C'
 obtain⟨H0,A0⟩:=C
 have e':A0'=A0:=e
 subst e'
 refine⟨I.len,I.pu,fun i l h=> ?_,I.inj,fun i l h=> ?_,s.trans I.ext,ha⟩
 ·obtain⟨a,vs,h3,h4,h5,h6⟩:=I.ow i l h
  exact⟨a,vs,h3,h4,s.free h5,h6⟩
 ·obtain⟨a,vs,h3,h4,h5,h6⟩:=I.bo i l h
  refine⟨a,vs,h3,h4,?_,h6⟩
  cases e:H0 a with
  | none=>exact absurd e (ha a h4)
  | some o=>
   have:=s a o e
   have h5':H0' a=some (.lst vs):=h5
   have this':H0' a=some o:=this
   rw[h5']at this'
   cases this'
   exact e
end
end M
end
section
namespace M
open PySem PySem.Spec PyProof.Rows L2
def Frz (ρ ρ':Ev):Prop:=ρ'.length=ρ.length∧ ∀i:Nat,ρ'[i]? =ρ[i]? ∨ ∃l:List D,ρ[i]? =some (some (.ow l))∧ρ'[i]? =some (some (.pu (.lst l)))
theorem Frz.refl (ρ:Ev):Frz ρ ρ:=⟨rfl,fun _=> .inl rfl⟩
theorem Frz.trans {a b c:Ev}(h:Frz a b)(g:Frz b c):Frz a c:=by
 refine⟨g.1.trans h.1,fun i=> ?_⟩
 rcases g.2 i with e| ⟨l,e1,e2⟩
 ·rcases h.2 i with e'| ⟨l,e1,e2⟩
  ·exact .inl (e.trans e')
  ·exact .inr ⟨l,e1,e.trans e2⟩
 ·rcases h.2 i with e'| ⟨l',e3,e4⟩
  ·exact .inr ⟨l,e'▸e1,e2⟩
  ·rw[e4]at e1;cases e1
theorem Frz.own {ρ ρ':Ev}{σ:L2.St}(f:Frz ρ ρ'){a:Addr}(h:Own ρ' σ a):Own ρ σ a:=by
 obtain⟨i,l,h1,h2⟩:=h
 rcases f.2 i with e| ⟨l',_,e2⟩
 ·exact⟨i,l,e▸h1,h2⟩
 ·rw[e2]at h1;cases h1
theorem Frz.set {ρ:Ev}{i:Nat}{l:List D}(h:ρ[i]? =some (some (.ow l))):Frz ρ (ρ.set i (some (.pu (.lst l)))):=by
 refine⟨List.length_set,fun j=> ?_⟩
 by_cases e:i=j
 ·subst e
  exact .inr ⟨l,h,gG (List.getElem?_eq_some_iff.mp h).1⟩
 ·exact .inl (get_set_ne e)
section
variable {K:PySem.W.Frag}{C:C0}{ρ ρ':Ev}{σ:L2.St}{H H':Hp}
theorem Frz.av (f:Frz ρ ρ'){a:Addr}(h:Av C ρ' σ a):Av C ρ σ a:=h.imp id f.own
theorem EOk.frz (I:EOk K C ρ σ H)(f:Frz ρ ρ'):EOk K C ρ' σ H:=by
 have ow': ∀{j:Nat} {l:List D},ρ'[j]? =some (some (.ow l))→ρ[j]? =some (some (.ow l)):=fun {j l} h=>by
  rcases f.2 j with e| ⟨l',_,e2⟩
  ·exact e▸h
  ·rw[e2]at h;cases h
 refine⟨by rw[f.1];exact I.len,fun i d h=> ?_,fun i l h=> ?_,fun i j l l' a h1 h2=>I.inj i j l l' a (ow' h1) (ow' h2),fun i l h=> ?_,I.ext,I.a0⟩
 ·rcases f.2 i with e| ⟨l,e1,e2⟩
  ·obtain⟨v,h1,h2⟩:=I.pu i d (e▸h)
   exact⟨v,h1,h2.mono (.sub (.refl _) fun a=>f.av)⟩
  ·rw[e2]at h;cases h
   obtain⟨a,vs,h1,h2,h3,h4⟩:=I.ow i l e1
   refine⟨.ref a,h1,?_⟩
   simp only[Rep]
   refine⟨a,vs,rfl,?_,h2,h4.mono (.sub (.refl _) fun a=>f.av)⟩
   rintro(z| ⟨j,l',g1,g2⟩)
   ·exact I.a0 a z h3
   ·have:=I.inj i j l l' a e1 (ow' g1) h1 g2
    subst this
    rw[e2]at g1;cases g1
 ·obtain⟨a,vs,h1,h2,h3,h4⟩:=I.ow i l (ow' h)
  exact⟨a,vs,h1,h2,h3,h4.mono (.sub (.refl _) fun a=>f.av)⟩
 ·have h':ρ[i]? =some (some (.bo l)):=by
   rcases f.2 i with e| ⟨l',_,e2⟩
   ·exact e▸h
   ·rw[e2]at h;cases h
  obtain⟨a,vs,h1,h2,h3,h4⟩:=I.bo i l h'
  exact⟨a,vs,h1,h2,h3,h4.mono (.sub (.refl _) fun a=>f.av)⟩
end
abbrev UE:=Ev→(B→Ev→Prop)→Prop
abbrev UV:=Ev→(D→Ev→Prop)→Prop
abbrev UA:=Ev→(List D→Ev→Prop)→Prop
abbrev UT:=Ev→(Bool→Ev→Prop)→Prop
def lE (K:PySem.W.Frag)(t:UE):TE:=fun σ H Q=> ∃C ρ Q0,EOk K C ρ σ H∧t ρ Q0∧
 ∀b ρ' v H',Q0 b ρ'→Frz ρ ρ'→fF H H'→nE K (Av C ρ' σ) H H' b v→Q v H'
def lA (K:PySem.W.Frag)(t:UA):TA:=fun σ H Q=> ∃C ρ Q0,EOk K C ρ σ H∧t ρ Q0∧
 ∀ds ρ' vs H',Q0 ds ρ'→Frz ρ ρ'→fF H H'→bC K (Av C ρ' σ) H' ds vs→Q vs H'
def lT (K:PySem.W.Frag)(t:UT):TT:=fun σ H Q=> ∃C ρ Q0,EOk K C ρ σ H∧t ρ Q0∧
 ∀b ρ' H',Q0 b ρ'→Frz ρ ρ'→fF H H'→Q b H'
def b50 (K:PySem.W.Frag)(A:AS)(H:Hp):D→V→Prop
 | .tup l,v=> ∃a vs,v= .ref a∧SqT K H a vs∧bC K A H l vs
 | .lst l,v=> ∃a vs,v= .ref a∧H a=some (.lst vs)∧bC K A H l vs
 | .rol l,v=> ∃a vs,v= .ref a∧SqL K H a vs∧bC K A H l vs
 | d,v=>Rep K A H d v
def lV (K:PySem.W.Frag)(t:UV):TE:=fun σ H Q=> ∃C ρ Q0,EOk K C ρ σ H∧t ρ Q0∧
 ∀d ρ' v H',Q0 d ρ'→Frz ρ ρ'→fF H H'→b50 K (Av C ρ' σ) H' d v→Q v H'
def PU (X:Cx)(e:Expr)(t:UE):Prop:=PE X e (lE X.K t)
def PUV (X:Cx)(e:Expr)(t:UV):Prop:=PE X e (lV X.K t)
def PUA (X:Cx)(es:List Expr)(t:UA):Prop:=PA X es (lA X.K t)
def PUT (X:Cx)(e:Expr)(t:UT):Prop:=PT X e (lT X.K t)
def PUW (X:Cx)(e:Expr)(t:UT):Prop:=PW X e (lT X.K t)
section
variable {K:PySem.W.Frag}{A:AS}{H:Hp}
theorem Rep.one: ∀{d:D} {v:V},Rep K A H d v→b50 K A H d v
 | .non,_,h=>h
 | .bl _,_,h=>h
 | .int _,_,h=>h
 | .str _,_,h=>h
 | .ty _,_,h=>h
 | .tup l,v,h=>by
  simp only[Rep]at h
  obtain⟨a,vs,e,c,r⟩:=h
  exact⟨a,vs,e,c.imp And.right id,r⟩
 | .lst l,v,h=>by
  simp only[Rep]at h
  obtain⟨a,vs,e,n,c,r⟩:=h
  exact⟨a,vs,e,c,r⟩
 | .rol l,v,h=>by
  simp only[Rep]at h
  obtain⟨a,vs,e,c,r⟩:=h
  exact⟨a,vs,e,c.imp And.right id,r⟩
 | .obj _ _ _,_,h=>h
 | .adr _,_,h=>h
end
theorem gK {X:Cx}{e:Expr}{t t':TE}(h:PE X e t)(i: ∀σ H Q,t' σ H Q→t σ H Q):PE X e t':=fun pins s σ H Q I q=>h pins s σ H Q I (i σ H Q q)
theorem cE8 {X:Cx}{es:List Expr}{t t':TA}(h:PA X es t)(i: ∀σ H Q,t' σ H Q→t σ H Q):PA X es t':=fun pos pins s σ H Q I q=>h pos pins s σ H Q I (i σ H Q q)
theorem aW8 {X:Cx}{e:Expr}{t t':TT}(h:PT X e t)(i: ∀σ H Q,t' σ H Q→t σ H Q):PT X e t':=fun pins s σ H Q I q=>h pins s σ H Q I (i σ H Q q)
theorem cE9 {X:Cx}{e:Expr}{t t':TT}(h:PW X e t)(i: ∀σ H Q,t' σ H Q→t σ H Q):PW X e t':=fun w pins s σ H Q I q=>h w pins s σ H Q I (i σ H Q q)
section
variable {X:Cx}{a b c e o:Expr}{es oU:List Expr}{pos:Pos}{ta tb tc:UE}
def uC (d:D):UE:=fun ρ Q=>Q (.pu d) ρ
theorem aE {i j pos}:PU X (.Constant (.int i) j pos) (uC (.int i)):=gK pe_int fun σ H Q ⟨C,ρ,Q0,I,h,k⟩=>k _ ρ _ H h (.refl _) (.refl _) (show Rep _ _ _ _ _ by simp only[Rep])
theorem zL {b j pos}:PU X (.Constant (.bool b) j pos) (uC (.bl b)):=gK pe_bl fun σ H Q ⟨C,ρ,Q0,I,h,k⟩=>k _ ρ _ H h (.refl _) (.refl _) (show Rep _ _ _ _ _ by simp only[Rep])
theorem a83 {j pos}:PU X (.Constant .none j pos) (uC .non):=gK pe_non fun σ H Q ⟨C,ρ,Q0,I,h,k⟩=>k _ ρ _ H h (.refl _) (.refl _) (show Rep _ _ _ _ _ by simp only[Rep])
theorem pu_str {x j pos}:PU X (.Constant (.str x) j pos) (uC (.str x)):=gK pe_str fun σ H Q ⟨C,ρ,Q0,I,h,k⟩=>k _ ρ _ H h (.refl _) (.refl _) (show Rep _ _ _ _ _ by simp only[Rep])
def zM (ρ:Ev)(i:Nat)(Q:B→Ev→Prop):Prop:=match ρ[i]? with
 | some (some (.pu d))=>Q (.pu d) ρ
 | some (some (.ow l))=>Q (.pu (.lst l)) (ρ.set i (some (.pu (.lst l))))
 | _=>False
def aG (i:Nat):UE:=fun ρ Q=>zM ρ i Q
theorem aC (i:Nat){x:Str}{pos:Pos}(h:PE X (.Name x pos) (a01 i)):PU X (.Name x pos) (aG i):=gK h fun σ H Q ⟨C,ρ,Q0,I,h,k⟩=>by
 unfold aG zM at h
 split at h
 ·rename_i d e
  obtain⟨v,h1,h2⟩:=I.pu i d e
  exact⟨v,h1,k _ ρ v H h (.refl _) (.refl _) h2⟩
 ·rename_i l e
  obtain⟨_,_,v,h1,h2⟩:=I.freeze e
  exact⟨v,h1,k _ _ v H h (.set e) (.refl _) h2⟩
 ·exact h.elim
def aK2 (ρ:Ev)(i:Nat)(Q:D→Ev→Prop):Prop:=match ρ[i]? with
 | some (some (.pu d))=>Q d ρ
 | some (some (.ow l))=>Q (.lst l) ρ
 | some (some (.bo l))=>Q (.lst l) ρ
 | _=>False
def aS (i:Nat):UV:=fun ρ Q=>aK2 ρ i Q
theorem aP (i:Nat){x:Str}{pos:Pos}(h:PE X (.Name x pos) (a01 i)):PUV X (.Name x pos) (aS i):=gK h fun σ H Q ⟨C,ρ,Q0,I,h,k⟩=>by
 unfold aS aK2 at h
 split at h
 ·rename_i d e
  obtain⟨v,h1,h2⟩:=I.pu i d e
  exact⟨v,h1,k _ ρ v H h (.refl _) (.refl _) h2.one⟩
 ·rename_i l e
  obtain⟨a,vs,h1,h2,h3,h4⟩:=I.ow i l e
  exact⟨_,h1,k _ ρ _ H h (.refl _) (.refl _) ⟨a,vs,rfl,h2,h4⟩⟩
 ·rename_i l e
  obtain⟨a,vs,h1,h2,h3,h4⟩:=I.bo i l e
  exact⟨_,h1,k _ ρ _ H h (.refl _) (.refl _) ⟨a,vs,rfl,I.ext _ _ h3,h4⟩⟩
 ·exact h.elim
def uV (t:UE):UV:=fun ρ Q=>t ρ fun b ρ1=>Q b.d ρ1
theorem EOk.avF {K:PySem.W.Frag}{C:C0}{ρ ρ':Ev}{σ:L2.St}{H:Hp}(I:EOk K C ρ σ H)(f:Frz ρ ρ'){a:Addr}(h:Av C ρ' σ a):H a≠none:=I.avSome (f.av h)
theorem qH (h:PU X e ta):PUV X e (uV ta):=gK h fun σ H Q ⟨C,ρ,Q0,I,h,k⟩=>
 ⟨C,ρ,_,I,h,fun b ρ' v H' q f s r=>k b.d ρ' v H' q f s (r.rep fun a z=>I.avF f z).one⟩
theorem aP5 {x:Str}{v:V}{d:D}{pos:Pos}(h:PE X (.Name x pos) (tC v))(r: ∀A H,Rep X.K A H d v):PU X (.Name x pos) (uC d):=gK h fun σ H Q ⟨C,ρ,Q0,I,h,k⟩=>k _ ρ _ H h (.refl _) (.refl _) (r _ _)
def OpU (X:Cx)(f:Value→Value→Sem Value)(g:D→D→(B→Prop)→Prop):Prop:=
 ∀(A:AS) (H:Hp) (d e:D) (v w:V) (Q0:B→Prop) (Q:VK),(∀a,A a→H a≠none)→Rep X.K A H d v→Rep X.K A H e w→g d e Q0→
  (∀b v' H',Q0 b→fF H H'→nE X.K A H H' b v'→Q v' H')→ ∃r,OpR X f r∧r v w H Q
def uOp (g:D→D→(B→Prop)→Prop)(ta tb:UE):UE:=fun ρ Q=>ta ρ fun x ρ1=>tb ρ1 fun y ρ2=>g x.d y.d fun b=>Q b ρ2
theorem bP5 {f:Value→Value→Sem Value}:OpR X f (fun x y H Q=> ∃r,OpR X f r∧r x y H Q):=fun pins s σ H x y v u Q I rx ry ⟨r,hr,q⟩=>hr pins s σ H x y v u Q I rx ry q
theorem nE.from {K:PySem.W.Frag}{A:AS}{H0 H H':Hp}(s:fF H0 H): ∀{b:B} {v:V},nE K A H H' b v→nE K A H0 H' b v
 | .pu _,_,h=>h
 | .ow _,_,⟨a,vs,e,n,h1,r⟩=>⟨a,vs,e,s.free n,h1,r⟩
 | .bo _,_,h=>h.elim
theorem lOp {f:Value→Value→Sem Value}{g:D→D→(B→Prop)→Prop}(ho:OpU X f g)(σ:L2.St)(H:Hp)(Q:VK)(h:lE X.K (uOp g ta tb) σ H Q) :
  tOp (fun x y H Q=> ∃r,OpR X f r∧r x y H Q) (lE X.K ta) (lE X.K tb) σ H Q:=by
 obtain⟨C,ρ,Q0,I,h,k⟩:=h
 refine⟨C,ρ,_,I,h,fun x ρ1 v H1 q1 f1 s1 r1=> ?_⟩
 have I1:=(I.frz f1).same s1
 refine⟨C,ρ1,_,I1,q1,fun y ρ2 w H2 q2 f2 s2 r2=> ?_⟩
 have I2:=(I1.frz f2).same s2
 have hA: ∀a,Av C ρ2 σ a→H2 a≠none:=fun a z=>I2.avSome z
 refine ho (Av C ρ2 σ) H2 x.d y.d v w _ Q hA ((r1.rep fun a z=>I.avF f1 z).mono (.sub s2 fun a=>f2.av)) (r2.rep fun a z=>I1.avF f2 z) q2 fun b v' H' q s r=> ?_
 exact k b ρ2 v' H' q (f1.trans f2) (s1.trans (s2.trans s)) (r.from (s1.trans s2))
theorem aJ {op:Operator}{g:D→D→(B→Prop)→Prop}(ho:OpU X (binaryOp op) g)(ha:PU X a ta)(hb:PU X b tb):PU X (.BinOp a op b pos) (uOp g ta tb):=
 gK (pe_op bP5 ha hb) (lOp ho)
theorem a84 {op:CmpOp}{g:D→D→(B→Prop)→Prop}(ho:OpU X (compareOp op) g)(ha:PU X a ta)(hb:PU X b tb)(hm:behindInMarks op b=false):PU X (.Compare a [op] [b] pos) (uOp g ta tb):=
 gK (c56 bP5 ha hb hm) (lOp ho)
def isB (Q:Bool→Ev→Prop):B→Ev→Prop:=fun b ρ=>match b with
 | .pu (.bl k)=>Q k ρ
 | _=>False
def cN (t:UE):UT:=fun ρ Q=>t ρ (isB Q)
theorem c68 {t:UE}(σ:L2.St)(H:Hp)(Q:Bool→Hp→Prop)(h:lT X.K (cN t) σ H Q):lE X.K t σ H fun x H'=> ∃k,x= .bl k∧Q k H':=by
 obtain⟨C,ρ,Q0,I,h,k⟩:=h
 refine⟨C,ρ,_,I,h,fun b ρ' v H' q f s r=> ?_⟩
 unfold isB at q
 split at q
 ·rename_i k'
  refine⟨k',?_,k k' ρ' H' q f s⟩
  have r':Rep X.K (Av C ρ' σ) H' (.bl k') v:=r
  simpa only[Rep]using r'
 ·exact q.elim
theorem wS (h:PU X e ta)(he: ∀whole,isTrue e X.env whole=(do let v←whole;standAt e.pos;holding [v] (truthy v)):=by intro _;rfl):PUT X e (cN ta):=
 aW8 (pt_val h he) c68
theorem bE {op:CmpOp}{g:D→D→(B→Prop)→Prop}(ho:OpU X (compareOp op) g)(ha:PU X a ta)(hb:PU X b tb)(hm:behindInMarks op b=false):PUT X (.Compare a [op] [b] pos) (cN (uOp g ta tb)):=
 aW8 (c57 bP5 ha hb hm) fun σ H Q h=>lOp ho σ H _ (c68 σ H Q h)
def bH1 (t u:UT):UT:=fun ρ Q=>t ρ fun c ρ1=>if c=true then u ρ1 Q else Q false ρ1
def uOr (t u:UT):UT:=fun ρ Q=>t ρ fun c ρ1=>if c=true then Q true ρ1 else u ρ1 Q
def aF9 (t:UT):UT:=fun ρ Q=>t ρ fun c ρ1=>Q (!c) ρ1
variable {tA tB:UT}
theorem wT (ha:PUT X a tA):PUW X (.BoolOp .And [a] pos) tA:=c05 ha
theorem uM (ha:PUT X a tA):PUW X (.BoolOp .Or [a] pos) tA:=pw_or1 ha
theorem a66 (ha:PUT X a tA)(hb:PUW X (.BoolOp .And (b::oU) pos) tB):PUW X (.BoolOp .And (a::b::oU) pos) (bH1 tA tB):=
 cE9 (pw_and ha hb) fun σ H Q ⟨C,ρ,Q0,I,h,k⟩=>⟨C,ρ,_,I,h,fun c ρ1 H1 q f s=>by
  cases c with
  | true=>
   rw[if_pos rfl]at q⊢
   exact⟨C,ρ1,Q0,(I.frz f).same s,q,fun b ρ2 H2 q2 f2 s2=>k b ρ2 H2 q2 (f.trans f2) (s.trans s2)⟩
  | false=>
   rw[if_neg Bool.false_ne_true]at q⊢
   exact k _ _ _ q f s⟩
theorem vT (ha:PUT X a tA)(hb:PUW X (.BoolOp .Or (b::oU) pos) tB):PUW X (.BoolOp .Or (a::b::oU) pos) (uOr tA tB):=
 cE9 (pw_or ha hb) fun σ H Q ⟨C,ρ,Q0,I,h,k⟩=>⟨C,ρ,_,I,h,fun c ρ1 H1 q f s=>by
  cases c with
  | true=>
   rw[if_pos rfl]at q⊢
   exact k _ _ _ q f s
  | false=>
   rw[if_neg Bool.false_ne_true]at q⊢
   exact⟨C,ρ1,Q0,(I.frz f).same s,q,fun b ρ2 H2 q2 f2 s2=>k b ρ2 H2 q2 (f.trans f2) (s.trans s2)⟩⟩
theorem PUW.pt (h:PUW X e tA):PUT X e tA:=PW.pt h
theorem oA (ha:PUT X a tA):PUT X (.UnaryOp .Not a pos) (aF9 tA):=
 aW8 (pt_not ha) fun σ H Q ⟨C,ρ,Q0,I,h,k⟩=>⟨C,ρ,_,I,h,fun c ρ1 H1 q f s=>k _ ρ1 H1 q f s⟩
def bB6 (t u:UE):UE:=fun ρ Q=>t ρ fun x ρ1=>isB (fun c ρ1=>if c=true then u ρ1 Q else Q (.pu (.bl false)) ρ1) x ρ1
def uOrV (t u:UE):UE:=fun ρ Q=>t ρ fun x ρ1=>isB (fun c ρ1=>if c=true then Q (.pu (.bl true)) ρ1 else u ρ1 Q) x ρ1
def bP6 (t:UE):UE:=fun ρ Q=>t ρ fun x ρ1=>isB (fun c ρ1=>Q (.pu (.bl (!c))) ρ1) x ρ1
theorem bB7 {Q:Bool→Ev→Prop}{b:B}{ρ:Ev}{K:PySem.W.Frag}{A:AS}{H H':Hp}{v:V}(h:isB Q b ρ)(r:nE K A H H' b v): ∃k,v= .bl k∧Q k ρ:=by
 unfold isB at h
 split at h
 ·rename_i k'
  have r':Rep K A H' (.bl k') v:=r
  exact⟨k',by simpa only[Rep]using r',h⟩
 ·exact h.elim
theorem jE {K:PySem.W.Frag}{A:AS}{H H':Hp}{k:Bool}:nE K A H H' (.pu (.bl k)) (.bl k):=by
 show Rep K A H' (.bl k) (.bl k)
 simp only[Rep]
theorem bP7 {op}(h:PU X a ta):PU X (.BoolOp op [a] pos) ta:=pe_one h
theorem bP8 (ha:PU X a ta)(hb:PU X (.BoolOp .And (b::oU) pos) tb):PU X (.BoolOp .And (a::b::oU) pos) (bB6 ta tb):=
 gK (pe_and ha hb) fun σ H Q ⟨C,ρ,Q0,I,h,k⟩=>⟨C,ρ,_,I,h,fun x ρ1 v H1 q f s r=>by
  obtain⟨c,rfl,q⟩:=bB7 q r
  refine⟨c,rfl,?_⟩
  cases c with
  | true=>
   rw[if_pos rfl]at q⊢
   exact⟨C,ρ1,Q0,(I.frz f).same s,q,fun b ρ2 v H2 q2 f2 s2 r2=>k b ρ2 v H2 q2 (f.trans f2) (s.trans s2) (r2.from s)⟩
  | false=>
   rw[if_neg Bool.false_ne_true]at q⊢
   exact k _ _ _ _ q f s jE⟩
theorem pu_not (ha:PU X a ta):PU X (.UnaryOp .Not a pos) (bP6 ta):=
 gK (pe_not ha) fun σ H Q ⟨C,ρ,Q0,I,h,k⟩=>⟨C,ρ,_,I,h,fun x ρ1 v H1 q f s r=>by
  obtain⟨c,rfl,q⟩:=bB7 q r
  exact⟨c,rfl,k _ _ _ _ q f s jE⟩⟩
def uIf (t:UT)(ta tb:UE):UE:=fun ρ Q=>t ρ fun c ρ1=>if c=true then ta ρ1 Q else tb ρ1 Q
theorem aW9 (hc:PUT X c tA)(ha:PU X a ta)(hb:PU X b tb):PU X (.IfExp c a b pos) (uIf tA ta tb):=
 gK (bN2 hc ha hb) fun σ H Q ⟨C,ρ,Q0,I,h,k⟩=>⟨C,ρ,_,I,h,fun c ρ1 H1 q f s=>by
  have I1:=(I.frz f).same s
  cases c with
  | true=>
   dsimp only at q⊢
   rw[if_pos rfl]at q⊢
   exact⟨C,ρ1,Q0,I1,q,fun b ρ2 v H2 q2 f2 s2 r2=>k b ρ2 v H2 q2 (f.trans f2) (s.trans s2) (r2.from s)⟩
  | false=>
   dsimp only at q⊢
   rw[if_neg Bool.false_ne_true]at q⊢
   exact⟨C,ρ1,Q0,I1,q,fun b ρ2 v H2 q2 f2 s2 r2=>k b ρ2 v H2 q2 (f.trans f2) (s.trans s2) (r2.from s)⟩⟩
def aK:UA:=fun ρ Q=>Q [] ρ
def aD (t:UE)(u:UA):UA:=fun ρ Q=>t ρ fun x ρ1=>u ρ1 fun xs ρ2=>Q (x.d::xs) ρ2
theorem aF:PUA X [] aK:=cE8 b46 fun σ H Q ⟨C,ρ,Q0,I,h,k⟩=>k [] ρ [] H h (.refl _) (.refl _) .nil
theorem aA {t:UA}(ha:PU X e ta)(hr:PUA X es t)(hs:starEach (e::es) X.env=(false,eval e X.env)::starEach es X.env:=by rfl):PUA X (e::es) (aD ta t):=
 cE8 (aO8 ha hr hs) fun σ H Q ⟨C,ρ,Q0,I,h,k⟩=>⟨C,ρ,_,I,h,fun x ρ1 v H1 q1 f1 s1 r1=>by
  have I1:=(I.frz f1).same s1
  refine⟨C,ρ1,_,I1,q1,fun xs ρ2 vs H2 q2 f2 s2 r2=> ?_⟩
  exact k _ ρ2 _ H2 q2 (f1.trans f2) (s1.trans s2) (.cons ((r1.rep fun a z=>I.avF f1 z).mono (.sub s2 fun a=>f2.av)) r2)⟩
def gW (t:UA):UE:=fun ρ Q=>t ρ fun l ρ1=>l.length≤sizeLine∧Q (.pu (.tup l)) ρ1
def i6 (t:UA):UE:=fun ρ Q=>t ρ fun l ρ1=>l.length≤sizeLine∧Q (.ow l) ρ1
theorem d6 {H:Hp}{p:Addr}(h:H p=none)(o:HO):fF H (upd H p o):=fun b u q=>by rw[cB (dF q h)];exact q
theorem gS {K:PySem.W.Frag}{A:AS}{H:Hp}{p:Addr}{l:List D}{vs:List V}(hA: ∀a,A a→H a≠none)(n:H p=none)(r:bC K A H l vs):Rep K A (upd H p (.tup vs)) (.tup l) (.ref p):=by
 simp only[Rep]
 exact⟨p,vs,rfl,.inl ⟨fun z=>hA p z n,.inl hJ⟩,r.mono (.same (d6 n _))⟩
theorem eX {K:PySem.W.Frag}{A:AS}{H H0:Hp}{p:Addr}{l:List D}{vs:List V}(s:fF H0 H)(n:H p=none)(r:bC K A H l vs):nE K A H0 (upd H p (.lst vs)) (.ow l) (.ref p):=
 ⟨p,vs,rfl,s.free n,hJ,r.mono (.fresh (d6 n _) n)⟩
theorem cH {t:UA}{x1}(h:PUA X es t):PU X (.Tuple es x1 pos) (gW t):=
 gK (pe_tup h) fun σ H Q ⟨C,ρ,Q0,I,h,k⟩=>⟨C,ρ,_,I,h,fun l ρ1 vs H1 q f s r=>by
  obtain⟨hz,q⟩:=q
  refine⟨by rw[←r.length];exact hz,fun p n=> ?_⟩
  have I1:=(I.frz f).same s
  exact k _ ρ1 _ _ q f (s.trans (d6 n _)) (gS (fun a z=>I1.avSome z) n r)⟩
theorem cQ {t:UA}(h:PUA X es t):PU X (.List es pos) (i6 t):=
 gK (pe_lst h) fun σ H Q ⟨C,ρ,Q0,I,h,k⟩=>⟨C,ρ,_,I,h,fun l ρ1 vs H1 q f s r=>by
  obtain⟨hz,q⟩:=q
  refine⟨by rw[←r.length];exact hz,fun p n=> ?_⟩
  exact k _ ρ1 _ _ q f (s.trans (d6 n _)) (eX s n r)⟩
abbrev Φ:=List D→(B→Prop)→Prop
def spP (K:PySem.W.Frag)(φ:Φ):Sp:=fun vs H Q _=> ∃A ds Q0,(∀a,A a→H a≠none)∧bC K A H ds vs∧φ ds Q0∧ ∀b v H',Q0 b→fF H H'→nE K A H H' b v→Q v H'
def aM (φ:Φ)(t:UA):UE:=fun ρ Q=>t ρ fun ds ρ1=>φ ds fun b=>Q b ρ1
theorem lCall {φ:Φ}{t:UA}{E:XK}(σ:L2.St)(H:Hp)(Q:VK)(h:lE X.K (aM φ t) σ H Q):bO4 (spP X.K φ) [] E (lA X.K t) σ H Q:=by
 obtain⟨C,ρ,Q0,I,h,k⟩:=h
 refine⟨C,ρ,_,I,h,fun ds ρ1 vs H1 q f s r=> ?_⟩
 have I1:=(I.frz f).same s
 show spP X.K φ (vs++[]) H1 Q E
 rw[List.append_nil]
 exact⟨Av C ρ1 σ,ds,_,fun a z=>I1.avSome z,r,q,fun b v H' q' s' r'=>k b ρ1 v H' q' f (s.trans s') (r'.from s)⟩
theorem c69 {CX:CXT}{k:Nat}{f:Addr}{fd:FuncData}{ps:List Str}{φ:Φ}{E:XK}{x:Str}{p:Pos}{t:UA}(F:kH X.prog X.w X.K X.mg X.base CX k f fd ps (spP X.K φ))(hr:bM k X.A)(hg:Gl X x)(hm:X.mg x=some (.ref f))
  (hk:PySem.W.keepIn X.K (.ref f)=true) (hb:Binds X.K fd ps []) (hx:oW CX X E) (ha:PUA X (e::es) t) (hdb:(x==("__debug__":Str))=false:=by decide) (he:starEach (e::es) X.env=(false,eval e X.env)::starEach es X.env:=by rfl)
  (hpl:(backTo pos (starEach es X.env)).any (·.1)=false:=by rfl):PU X (.Call (.Name x p) (e::es) [] pos) (aM φ t):=
 gK (bB1 F hr hg hm hk hb .nil hx ha hdb he hpl) lCall
theorem bP9 {CX:CXT}{k:Nat}{f:Addr}{fd:FuncData}{ps:List Str}{φ:Φ}{E:XK}{x:Str}{p:Pos}(F:kH X.prog X.w X.K X.mg X.base CX k f fd ps (spP X.K φ))(hr:bM k X.A)(hg:Gl X x)(hm:X.mg x=some (.ref f))
  (hk:PySem.W.keepIn X.K (.ref f)=true) (hb:Binds X.K fd ps []) (hx:oW CX X E) (hdb:(x==("__debug__":Str))=false:=by decide):PU X (.Call (.Name x p) [] [] pos) (aM φ aK):=
 gK (bO6 F hr hg hm hk hb .nil hx hdb) fun σ H Q ⟨C,ρ,Q0,I,h,k⟩=>⟨Av C ρ σ,[],_,fun a z=>I.avSome z,.nil,h,fun b v H' q' s' r'=>k b ρ v H' q' (.refl _) s' r'⟩
def qI (X:Cx)(f:Value)(g:List D→(B→Prop)→Prop):Prop:=
 ∀(A:AS) (H:Hp) (ds:List D) (vs:List V) (Q0:B→Prop) (Q:VK),(∀a,A a→H a≠none)→bC X.K A H ds vs→g ds Q0→
  (∀b v' H',Q0 b→fF H H'→nE X.K A H H' b v'→Q v' H')→ ∃r,j0 X f r∧r vs H Q
theorem callAny {f:Value}:j0 X f (fun xs H Q=> ∃r,j0 X f r∧r xs H Q):=fun pins s σ H xs us Q I rx ⟨r,hr,q⟩=>hr pins s σ H xs us Q I rx q
theorem lCB {f:Value}{g:List D→(B→Prop)→Prop}{t:UA}(hc:qI X f g)(σ:L2.St)(H:Hp)(Q:VK)(h:lE X.K (aM g t) σ H Q):tCB (fun xs H Q=> ∃r,j0 X f r∧r xs H Q) (lA X.K t) σ H Q:=by
 obtain⟨C,ρ,Q0,I,h,k⟩:=h
 refine⟨C,ρ,_,I,h,fun ds ρ1 vs H1 q f s r=> ?_⟩
 have I1:=(I.frz f).same s
 exact hc (Av C ρ1 σ) H1 ds vs _ Q (fun a z=>I1.avSome z) r q fun b v H' q' s' r'=>k b ρ1 v H' q' f (s.trans s') (r'.from s)
theorem dS {id:String}{g:List D→(B→Prop)→Prop}{x:Str}{p:Pos}{t:UA}(hc:qI X (.builtin id) g)(hg:Gl X x)(hm:X.mg x=none)(hv:bootBuiltins x=some (.builtin id))(ha:PUA X (e::es) t)(hn:x≠"__name__":=by decide)(hdb:(x==("__debug__":Str))=false:=by decide)
  (he:starEach (e::es) X.env=(false,eval e X.env)::starEach es X.env:=by rfl) (hpl:(backTo pos (starEach es X.env)).any (·.1)=false:=by rfl):PU X (.Call (.Name x p) (e::es) [] pos) (aM g t):=
 gK (aW4 callAny hg hm hv ha hn hdb he hpl) (lCB hc)
theorem bW {T:String}{g:List D→(B→Prop)→Prop}{x:Str}{p:Pos}{t:UA}(hc:qI X (.type T) g)(hg:Gl X x)(hm:X.mg x=none)(hv:bootBuiltins x=some (.type T))(ha:PUA X (e::es) t)(hn:x≠"__name__":=by decide)(hdb:(x==("__debug__":Str))=false:=by decide)
  (he:starEach (e::es) X.env=(false,eval e X.env)::starEach es X.env:=by rfl) (hpl:(backTo pos (starEach es X.env)).any (·.1)=false:=by rfl):PU X (.Call (.Name x p) (e::es) [] pos) (aM g t):=
 gK (bG8 callAny hg hm hv ha hn hdb he hpl) (lCB hc)
end
structure UD where
 nx:Ev→Prop
 rt:B→Prop
 bk:Ev→Prop:=fun _=>False
 ct:Ev→Prop:=fun _=>False
abbrev US:=UD→Ev→Prop
structure DOk (K:PySem.W.Frag)(C:C0)(D0:UD)(D:aF6):Prop where
 nx: ∀ρ σ H,D0.nx ρ→EOk K C ρ σ H→D.nx σ H
 rt: ∀b v H,D0.rt b→fF C.H0 H→nE K C.A0 C.H0 H b v→D.rt v H
 bk: ∀ρ σ H,D0.bk ρ→EOk K C ρ σ H→D.bk σ H
 ct: ∀ρ σ H,D0.ct ρ→EOk K C ρ σ H→D.ct σ H
def lS (K:PySem.W.Frag)(t:US):TS:=fun D σ H=> ∃C ρ D0,EOk K C ρ σ H∧t D0 ρ∧DOk K C D0 D
def PUS (X:Cx)(st:Stmt)(t:US):Prop:=PS X st (lS X.K t)
def cZ (X:Cx)(sts:List Stmt)(t:US):Prop:=PSs X sts (lS X.K t)
theorem mJ {X:Cx}{st:Stmt}{t t':TS}(h:PS X st t)(i: ∀D σ H,t' D σ H→t D σ H):PS X st t':=fun pins s σ H D I q=>h pins s σ H D I (i D σ H q)
theorem a85 {X:Cx}{st:List Stmt}{t t':TS}(h:PSs X st t)(i: ∀D σ H,t' D σ H→t D σ H):PSs X st t':=fun pins s σ H D I q=>h pins s σ H D I (i D σ H q)
section
variable {X:Cx}{st:Stmt}{sts:List Stmt}{e:Expr}{pos:Pos}{t u:US}{te:UE}{tc:UT}{K:PySem.W.Frag}
def cM:US:=fun D ρ=>D.nx ρ
def aQ (t u:US):US:=fun D ρ=>t {D with nx:=u D} ρ
theorem bX:cZ X [] cM:=a85 c06 fun D σ H ⟨C,ρ,D0,I,h,k⟩=>k.nx ρ σ H h I
theorem aH (h1:PUS X st t)(h2:cZ X sts u):cZ X (st::sts) (aQ t u):=
 a85 (qF h1 h2) fun D σ H ⟨C,ρ,D0,I,h,k⟩=>⟨C,ρ,{D0 with nx:=u D0},I,h,⟨fun ρ' σ' H' q I'=>⟨C,ρ',D0,I',q,k⟩,k.rt,k.bk,k.ct⟩⟩
theorem aL (h1:PUS X st t):cZ X [st] t:=aO5 h1
def cC (t:UE):US:=fun D ρ=>t ρ fun b _=>D.rt b
theorem nE.back {A A':AS}{H0 H H':Hp}(s:fF H0 H)(h: ∀a,A' a→A a): ∀{b:B} {v:V},nE K A H H' b v→nE K A' H0 H' b v
 | .pu _,_,r=>Rep.mono (.sub (.refl _) h) r
 | .ow _,_,⟨a,vs,e,n,h1,r⟩=>⟨a,vs,e,s.free n,h1,r.mono (fun b o nb q=>⟨fun z=>nb (z.imp (h b) id),q⟩)⟩
 | .bo _,_,r=>r.elim
theorem b7 (he:PU X e te):PUS X (.Return (some e) pos) (cC te):=
 mJ (bN3 he) fun D σ H ⟨C,ρ,D0,I,h,k⟩=>⟨C,ρ,_,I,h,fun b ρ' v H' q f s r=>k.rt b v H' q (I.ext.trans s) (r.back I.ext fun a z=> .inl z)⟩
def uRetN:US:=fun D _=>D.rt (.pu .non)
def mK (i:Nat):US:=fun D ρ=>match ρ[i]? with
 | some (some (.pu d))=>D.rt (.pu d)
 | some (some (.ow l))=>D.rt (.ow l)
 | _=>False
theorem j9 (i:Nat){x:Str}{p:Pos}(h:PE X (.Name x p) (a01 i)):PUS X (.Return (some (.Name x p)) pos) (mK i):=
 mJ (bN3 h) fun D σ H ⟨C,ρ,D0,I,h,k⟩=>by
  unfold mK at h
  split at h
  ·rename_i d e
   obtain⟨v,h1,h2⟩:=I.pu i d e
   exact⟨v,h1,k.rt _ v H h I.ext (Rep.mono (.sub (.refl _) fun a z=> .inl z) h2)⟩
  ·rename_i l e
   obtain⟨a,vs,h1,h2,h3,h4⟩:=I.ow i l e
   refine⟨_,h1,k.rt _ _ H h I.ext ⟨a,vs,rfl,h3,h2,h4.mono (fun b o nb q=>⟨fun z=>nb (z.elim .inl fun z=> .inr ?_),q⟩)⟩⟩
   subst z
   exact⟨i,l,e,h1⟩
  ·exact h.elim
def eG (c:UT)(t u:US):US:=fun D ρ=>c ρ fun b ρ1=>if b=true then t D ρ1 else u D ρ1
theorem d7 {c:Expr}{a b:List Stmt}(hc:PUT X c tc)(ha:cZ X a t)(hb:cZ X b u):PUS X (.If c a b pos) (eG tc t u):=
 mJ (cE7 hc ha hb) fun D σ H ⟨C,ρ,D0,I,h,k⟩=>⟨C,ρ,_,I,h,fun c ρ1 H1 q f s=>by
  have I1:=(I.frz f).same s
  cases c with
  | true=>
   dsimp only at q⊢
   rw[if_pos rfl]at q⊢
   exact⟨C,ρ1,D0,I1,q,k⟩
  | false=>
   dsimp only at q⊢
   rw[if_neg Bool.false_ne_true]at q⊢
   exact⟨C,ρ1,D0,I1,q,k⟩⟩
theorem aX0:PUS X st (fun _ _=>False):=mJ bN4 fun D σ H ⟨C,ρ,D0,I,h,k⟩=>h
abbrev UG:=B→Ev→(Ev→Prop)→Prop
def lG (K:PySem.W.Frag)(T:List Nat)(g:UG):TG:=fun v σ H Q=> ∃C ρ b H00 Q0,EOk K C ρ σ H00∧fF H00 H∧nE K (Av C ρ σ) H00 H b v∧g b ρ Q0∧ ∀ρ' σ' H',Q0 ρ'→EOk K C ρ' σ' H'→(∀j:Nat,j ∉ T→σ'[j]? =σ[j]?)→Q σ' H'
def PUG (X:Cx)(e:Expr)(T:List Nat)(g:UG):Prop:=PG X e (lG X.K T g)
theorem cF0 {t t':TG}(h:PG X e t)(i: ∀v σ H Q,t' v σ H Q→t v σ H Q):PG X e t':=fun pins s σ H v u Q I r q=>h pins s σ H v u Q I r (i v σ H Q q)
def bO (i:Nat):UG:=fun b ρ Q=>i<ρ.length∧Q (ρ.set i (some b))
theorem bG (i:Nat)(h:PG X e (wQ i)):PUG X e [i] (bO i):=cF0 h fun v σ H Q ⟨C,ρ,b,H00,Q0,I,s,r,⟨hi,q⟩,k⟩=>
 k _ _ _ q (I.store s r (by rw[←I.len];exact hi)) fun j hj=>get_set_ne fun z=>hj (by simp[z])
abbrev UGs:=List D→Ev→(Ev→Prop)→Prop
def lGs (K:PySem.W.Frag)(T:List Nat)(g:UGs):TGs:=fun vs σ H Q=> ∃C ρ ds Q0,EOk K C ρ σ H∧bC K (Av C ρ σ) H ds vs∧g ds ρ Q0∧ ∀ρ' σ' H',Q0 ρ'→EOk K C ρ' σ' H'→(∀j:Nat,j ∉ T→σ'[j]? =σ[j]?)→Q σ' H'
def c70 (X:Cx)(es:List Expr)(T:List Nat)(g:UGs):Prop:=PGs X es (lGs X.K T g)
def sG:UGs:=fun ds ρ Q=>ds=[]∧Q ρ
theorem Av.store_pu {C:C0}{ρ:Ev}{σ:L2.St}{i:Nat}{d:D}{v:V}{a:Addr}(h:Av C (ρ.set i (some (.pu d))) (σ.set i (some v)) a):Av C ρ σ a:=by
 rcases h with z| ⟨j,l,h1,h2⟩
 ·exact .inl z
 ·rcases aY h1 with⟨rfl,h3,_⟩| ⟨ne,h3⟩
  ·cases h3
  ·rw[get_set_ne ne]at h2
   exact .inr ⟨j,l,h3,h2⟩
theorem bQ0 {es:List Expr}{t t':TGs}(h:PGs X es t)(i: ∀v σ H Q,t' v σ H Q→t v σ H Q):PGs X es t':=fun pins s σ H v u Q I r q=>h pins s σ H v u Q I r (i v σ H Q q)
theorem qY:c70 X [] [] sG:=bQ0 c07 fun vs σ H Q ⟨C,ρ,ds,Q0,I,r,⟨e,q⟩,k⟩=>by
 subst e
 exact⟨r.unnil,k ρ σ H q I fun _ _=>rfl⟩
def fN (i:Nat)(u:UGs):UGs:=fun ds ρ Q=>match ds with
 | d::r=>i<ρ.length∧u r (ρ.set i (some (.pu d))) Q
 | []=>False
theorem fG {es:List Expr}{u:UGs}{T:List Nat}(i:Nat)(h1:PG X e (wQ i))(h2:c70 X es T u)
  (hs:(assignEach (e::es) X.env).map (·.2)=assign e X.env::(assignEach es X.env).map (·.2):=by rfl):c70 X (e::es) (i::T) (fN i u):=
 bQ0 (bN6 h1 h2 hs) fun vs σ H Q ⟨C,ρ,ds,Q0,I,r,g,k⟩=>by
  cases ds with
  | nil=>exact(show False from g).elim
  | cons d dr=>
   obtain⟨hi,g⟩:i<ρ.length∧u dr (ρ.set i (some (.pu d))) Q0:=g
   obtain⟨v,vr,rfl,rv,rr⟩:=r.uncons
   have I1:EOk X.K C (ρ.set i (some (.pu d))) (σ.set i (some v)) H:=I.store (b:= .pu d) (.refl _) rv (by rw[←I.len];exact hi)
   exact⟨v,vr,rfl,C,_,dr,Q0,I1,rr.mono (.sub (.refl _) fun a z=>Av.store_pu z),g,fun ρ' σ' H' q I' hT=>k ρ' σ' H' q I' fun j hj=>(hT j fun z=>hj (List.mem_cons_of_mem _ z)).trans (get_set_ne fun z=>hj (by simp[z]))⟩
def sH (u:UGs):UG:=fun b ρ Q=>match b.d with
 | .tup ds=>u ds ρ Q
 | _=>False
theorem vU {es:List Expr}{u:UGs}{T:List Nat}{n k:Nat}(hc:X.calm=true)(h:c70 X es T u)(hu: ∀ds ρ Q,u ds ρ Q→ds.length=n)
  (hn:(assignEach es X.env).length=n:=by rfl) (hst:(assignEach es X.env).findIdx? (·.1)=none:=by rfl):PUG X (.Tuple es k pos) T (sH u):=
 cF0 (pg_tup hc h hn hst) fun v σ H Q ⟨C,ρ,b,H00,Q0,I,s,r,g,k⟩=>by
  have R:=r.rep fun a z=>I.avSome z
  unfold sH at g
  split at g
  ·rename_i ds e
   rw[e]at R
   simp only[Rep]at R
   obtain⟨a,vs,rfl,c,rs⟩:=R
   exact⟨a,vs,rfl,c.imp And.right id,by rw[←rs.length];exact hu _ _ _ g,C,ρ,ds,Q0,I.same s,rs,g,k⟩
  ·exact g.elim
def bQ1 (t:UE)(g:UG):US:=fun D ρ=>t ρ fun b ρ1=>g b ρ1 D.nx
theorem b51 {tg:Expr}{g:UG}{T:List Nat}(he:PU X e te)(hg:PUG X tg T g)(hs:swapsWithSole [tg] e pos.line X.env=pure false:=by rfl)(hw:swappedStores [tg] e X.env=pure none:=by rfl)
  (h1:(assignEach [tg] X.env).map (·.2)=[assign tg X.env]:=by rfl):PUS X (.Assign [tg] e pos) (bQ1 te g):=
 mJ (bN7 he hg hs hw h1) fun D σ H ⟨C,ρ,D0,I,h,k⟩=>⟨C,ρ,_,I,h,fun b ρ1 v H1 q f s r=>⟨C,ρ1,b,H,D0.nx,I.frz f,s,r,q,fun ρ' σ' H' q I' _=>k.nx ρ' σ' H' q I'⟩⟩
def bK (i:Nat)(t:UE):US:=fun D ρ=>t ρ fun b ρ1=>D.nx (ρ1.set i (some b))
theorem aR {x:Str}{pos':Pos}(i:Nat)(hN:X.N.Nodup)(hi:X.N[i]? =some x)(hx:Loc X.env.scope x)(he:PU X e te)(hs:swapsWith e (some (.Name x pos')) pos.line X.env=pure false:=by rfl)(hf:X.fn x=true∨X.env.scope.names.lookup x=some .local:=by first|exact .inl rfl|exact .inr rfl|assumption)
  (hl: ∀pins σ H s,Inv X pins σ H s→i<σ.length:=by intro pins σ H s I;rw[I.len];decide):PUS X (.Assign [.Name x pos'] e pos) (bK i te):=by
 intro pins s σ H D I q
 refine ps_set hN hi hx he hs hf pins s σ H D I ?_
 obtain⟨C,ρ,D0,J,h,k⟩:=q
 exact⟨C,ρ,_,J,h,fun b ρ1 v H1 q f s1 r=>k.nx _ _ _ q ((J.frz f).store s1 r (hl pins σ H s I))⟩
def uPar (i j:Nat)(ta:UA):US:=fun D ρ=>ta ρ fun ds ρ1=>match ds with
 | [d,d']=>D.nx ((ρ1.set i (some (.pu d))).set j (some (.pu d')))
 | _=>False
def IpU (X:Cx)(op:Operator)(g:D→D→(B→Prop)→Prop):Prop:=
 ∀(A:AS) (H:Hp) (d e:D) (v w:V) (Q0:B→Prop) (Q:VK),(∀a,A a→H a≠none)→Rep X.K A H d v→Rep X.K A H e w→g d e Q0→
  (∀b v' H',Q0 b→fF H H'→nE X.K A H H' b v'→Q v' H')→ ∃r,PIp X op r∧r v w H Q
theorem ipAny {op:Operator}:PIp X op (fun x y H Q=> ∃r,PIp X op r∧r x y H Q):=fun pins s σ H x y v u Q I rx ry ⟨r,hr,q⟩=>hr pins s σ H x y v u Q I rx ry q
def b52 (i:Nat)(g:D→D→(B→Prop)→Prop)(te:UE):US:=fun D ρ=>zM ρ i fun x ρ0=>te ρ0 fun y ρ1=>g x.d y.d fun b=>D.nx (ρ1.set i (some b))
theorem aP6 {x:Str}{pos':Pos}{op:Operator}{g:D→D→(B→Prop)→Prop}(i:Nat)(hN:X.N.Nodup)(hi:X.N[i]? =some x)(hx:Loc X.env.scope x)(he:PU X e te)(ho:IpU X op g)(hf:X.fn x=true∨X.env.scope.names.lookup x=some .local:=by first|exact .inl rfl|exact .inr rfl|assumption)
  (hl: ∀pins σ H s,Inv X pins σ H s→i<σ.length:=by intro pins σ H s I;rw[I.len];decide):PUS X (.AugAssign (.Name x pos') op e pos) (b52 i g te):=by
 intro pins s σ H D I q
 refine ps_aug hN hi hx he ipAny hf pins s σ H D I ?_
 obtain⟨C,ρ,D0,J,h,k⟩:=q
 have go: ∀(d:M.D) (ρ0:Ev) (v:V),Frz ρ ρ0→σ[i]? =some (some v)→Rep X.K (Av C ρ0 σ) H d v→(te ρ0 fun y ρ1=>g d y.d fun b=>D0.nx (ρ1.set i (some b)))→
   tAug i (lE X.K te) (fun x y H Q=> ∃r,PIp X op r∧r x y H Q) D σ H:=fun d ρ0 v f0 h1 r0 h=>by
  have J0:=J.frz f0
  refine⟨v,h1,C,ρ0,_,J0,h,fun y ρ1 w H1 q1 f1 s1 r1=> ?_⟩
  have J1:=(J0.frz f1).same s1
  refine ho (Av C ρ1 σ) H1 d y.d v w _ _ (fun a z=>J1.avSome z) (r0.mono (.sub s1 fun a=>f1.av)) (r1.rep fun a z=>J0.avF f1 z) q1 fun b v' H' q s r=> ?_
  exact k.nx _ _ _ q (J1.store s r (hl pins σ _ _ I))
 unfold b52 zM at h
 split at h
 ·rename_i d e
  obtain⟨v,h1,h2⟩:=J.pu i d e
  exact go d ρ v (.refl _) h1 h2 h
 ·rename_i l e
  obtain⟨_,_,v,h1,h2⟩:=J.freeze e
  exact go (.lst l) _ v (.set e) h1 h2 h
 ·exact h.elim
def aP7 (c:UT)(tb:US):US:=fun D ρ=> ∃W:Nat→Ev→Prop,(∃m,W m ρ)∧ ∀m ρ,W m ρ→
 c ρ fun b ρ1=>if b=true then tb {D with nx:=fun ρ'=> ∃m',m'<m∧W m' ρ',ct:=fun ρ'=> ∃m',m'<m∧W m' ρ',bk:=D.nx} ρ1 else D.nx ρ1
theorem a86 {c:Expr}{body:List Stmt}{tb:US}(hp:PassesOwn (model X.prog X.w) X.A X.env X.xe)(hc:PUT X c tc)(hb:cZ X body tb):PUS X (.While c body [] pos) (aP7 tc tb):=
 mJ (bN9 hp hc hb) fun D σ H ⟨C,ρ,D0,I,⟨W,⟨m0,w0⟩,turn⟩,k⟩=>by
  refine⟨fun m σ H=> ∃ρ,EOk X.K C ρ σ H∧W m ρ,⟨m0,ρ,I,w0⟩,?_⟩
  rintro m σ H ⟨ρ,I,w⟩
  refine⟨C,ρ,_,I,turn m ρ w,fun b ρ1 H1 q f s=> ?_⟩
  have I1:=(I.frz f).same s
  cases b with
  | true=>
   dsimp only at q⊢
   rw[if_pos rfl]at q⊢
   refine⟨fun σ' H'=> ∃m',m'<m∧ ∃ρ',EOk X.K C ρ' σ' H'∧W m' ρ',fun σ' H' z=>z,C,ρ1,_,I1,q,⟨?_,k.rt,k.nx,?_⟩⟩
   ·rintro ρ' σ' H' ⟨m',hm,w'⟩ I'
    exact⟨m',hm,ρ',I',w'⟩
   ·rintro ρ' σ' H' ⟨m',hm,w'⟩ I'
    exact⟨m',hm,ρ',I',w'⟩
  | false=>
   dsimp only at q⊢
   rw[if_neg Bool.false_ne_true]at q⊢
   exact k.nx _ _ _ q I1
end
abbrev UI:=Ev→(Nat→(Nat→D)→Ev→Prop)→Prop
structure b53 (K:PySem.W.Frag)(A:AS)(H:Hp)(J:It)(n:Nat)(it:Nat→D):Prop where
 go: ∀A' H' i,jD A H A' H'→i<n→J.go i H'
 yld: ∀A' H' i x H'',jD A H A' H'→(∀a,A' a→H' a≠none)→i<n→J.yld i H' x H''→fF H' H''∧Rep K A' H'' (it i) x
 stop: ∀A' H',jD A H A' H'→J.stop n H'
def lI (K:PySem.W.Frag)(t:UI):TI:=fun σ H R=> ∃C ρ Q0,EOk K C ρ σ H∧t ρ Q0∧
 ∀n it ρ' J H',Q0 n it ρ'→Frz ρ ρ'→fF H H'→b53 K (Av C ρ' σ) H' J n it→R J H'
def PUI (X:Cx)(tg iter:Expr)(t:UI):Prop:=PI X tg iter (lI X.K t)
def i7 (ui:UI)(g:UG)(tb:US):US:=fun D ρ=>ui ρ fun n it ρ1=> ∃Pv:Nat→Ev→Prop,Pv 0 ρ1∧
 (∀i ρ,i<n→Pv i ρ→g (.pu (it i)) ρ fun ρ2=>tb {D with nx:=Pv (i+1),ct:=Pv (i+1),bk:=D.nx} ρ2)∧ ∀ρ,Pv n ρ→D.nx ρ
noncomputable def C0.rz (C:C0) (ρ:Ev) (σ:L2.St) (H:Hp):C0:=C.raise ρ σ H fun _=>Classical.propDecidable _
section
variable {X:Cx}{e:Expr}{pos:Pos}{te:UE}{K:PySem.W.Frag}{C:C0}{ρ ρ':Ev}{σ σ':L2.St}{H H':Hp}
theorem EOk.rz (I:EOk K C ρ σ H):EOk K (C.rz ρ σ H) ρ σ H∧fF C.H0 (C.rz ρ σ H).H0:=I.raise
theorem c71 (I':EOk K (C.rz ρ σ H) ρ' σ' H'):jD (Av C ρ σ) H (Av (C.rz ρ σ H) ρ' σ') H':=fun b o nb e=>by
 have e0:(C.rz ρ σ H).H0 b=some o:=by
  show @ite _ (Own ρ σ b) (Classical.propDecidable _) none (H b)=some o
  rw[if_neg (fun z=>nb (.inr z))]
  exact e
 refine⟨?_,I'.ext b o e0⟩
 rintro(z| ⟨i,l,h1,h2⟩)
 ·exact nb (.inl z)
 ·obtain⟨a,vs,h3,h4,h5,_⟩:=I'.ow i l h1
  rw[h2]at h3;cases h3
  rw[e0]at h5;cases h5
theorem dG {tg iter:Expr}{body:List Stmt}{ui:UI}{g:UG}{T:List Nat}{tb:US}(hp:PassesOwn (model X.prog X.w) X.A X.env X.xe)(hc:X.calm=true)(hi:PUI X tg iter ui)(hg:PUG X tg T g)(hb:cZ X body tb)
  (hs: ∀x,foldedSetIterable iter X.env x=pure x:=by intro _;rfl):PUS X (.For tg iter body [] pos) (i7 ui g tb):=
 mJ (ps_for hp hc hi hg hb hs) fun D σ H ⟨C,ρ,D0,I,h,k⟩=>⟨C,ρ,_,I,h,fun n it ρ1 J H1 q f s ok=>by
  obtain⟨Pv,p0,turn,fin⟩:=q
  have I1:=(I.frz f).same s
  obtain⟨Ir,sub⟩:=I1.rz
  refine⟨fun i m σ' H'=>m=n-i∧i≤n∧ ∃ρ',EOk X.K (C.rz ρ1 σ H1) ρ' σ' H'∧Pv i ρ',⟨n,rfl,Nat.zero_le _,ρ1,Ir,p0⟩,?_⟩
  rintro i m σ' H' ⟨rfl,hi,ρ',I',p'⟩
  have P:=c71 I'
  have lo: ∀ρ2 σ2 H2,EOk X.K (C.rz ρ1 σ H1) ρ2 σ2 H2→EOk X.K C ρ2 σ2 H2:=fun ρ2 σ2 H2 J2=>J2.lower sub rfl I.a0
  by_cases hlt:i<n
  ·refine .inr ⟨ok.go _ _ i P hlt,fun σ2 H2=> ∃ρ2,EOk X.K (C.rz ρ1 σ H1) ρ2 σ2 H2∧Pv (i+1) ρ2,fun σ2 H2 z=>⟨n-(i+1),by omega,rfl,hlt,z⟩,fun x H2 y=> ?_⟩
   obtain⟨s2,r2⟩:=ok.yld _ _ i x H2 P (fun a z=>I'.avSome z) hlt y
   refine⟨C.rz ρ1 σ H1,ρ',.pu (it i),H',_,I',s2,r2,turn i ρ' hlt p',fun ρ2 σ2 H3 q I3 _=>⟨C.rz ρ1 σ H1,ρ2,_,I3,q,⟨?_,?_,?_,?_⟩⟩⟩
   ·exact fun ρ3 σ3 H4 q I4=>⟨ρ3,I4,q⟩
   ·exact fun b v H4 q s4 r4=>k.rt b v H4 q (sub.trans s4) (r4.from sub)
   ·exact fun ρ3 σ3 H4 q I4=>k.nx ρ3 σ3 H4 q (lo _ _ _ I4)
   ·exact fun ρ3 σ3 H4 q I4=>⟨ρ3,I4,q⟩
  ·have e:i=n:=by omega
   subst e
   exact .inl ⟨ok.stop _ _ P,k.nx _ _ _ (fin ρ' p') (lo _ _ _ I')⟩⟩
def jR:D→Option (List D)
 | .tup l=>some l
 | .lst l=>some l
 | .rol l=>some l
 | _=>none
def eO (t:UE):UI:=fun ρ Q=>t ρ fun b ρ1=>match jR b.d with
 | some l=>Q l.length (fun i=>l.getD i .non) ρ1
 | none=>False
theorem pi_any {l:Expr}{tl:TE}{tg:Expr}(hl:PE X l tl):PI X tg l (fun σ H R=>tl σ H fun x H1=> ∃a,x= .ref a∧((∃xs,SqL X.K H1 a xs∧R (Itl X.K a) H1)∨ ∃xs,SqT X.K H1 a xs∧R (Itt X.K a) H1)):=by
 intro pins s σ H R I h
 refine thn (hl pins s σ H _ I h) fun v s1 ⟨x,H1,I1,r1,q1⟩=> ?_
 obtain⟨a,e,q⟩:=q1
 subst e
 cases r1
 rcases q with⟨xs,hq,q⟩| ⟨xs,hq,q⟩
 ·obtain⟨its,rv,p,hz⟩:=I1.list hq
  refine wpAny_pyIter_list p.isList ?_
  refine⟨s1.heap.objs.size,[s1.heap.objs.size],_,_,H1,rfl,I1.kept (t':=s1.toks) fun b o e=>Heap.get?_push_of_some _ e,bF9 a _,⟨_,Heap.get?_push_size _ rfl,rfl,rfl⟩,fun b hb=> ?_,q⟩
  have e:b=s1.heap.objs.size:=by simpa using hb
  subst e
  exact I1.fpOk (Nat.le_refl _) (I1.hok.fresh (Nat.le_refl _))
 ·obtain⟨its,rv,p,hz⟩:=I1.tuple hq
  refine wpAny_pyIter_tuple (show s1.heap.IsTuple a its.toArray from p) ?_
  refine⟨s1.heap.objs.size,[s1.heap.objs.size],_,_,H1,rfl,I1.kept (t':=s1.toks) fun b o e=>Heap.get?_push_of_some _ e,b38 a _,⟨_,Heap.get?_push_size _ rfl,rfl,rfl⟩,fun b hb=> ?_,q⟩
  have e:b=s1.heap.objs.size:=by simpa using hb
  subst e
  exact I1.fpOk (Nat.le_refl _) (I1.hok.fresh (Nat.le_refl _))
theorem a87 {tg iter:Expr}{t t':TI}(h:PI X tg iter t)(i: ∀σ H R,t' σ H R→t σ H R):PI X tg iter t':=fun pins s σ H R I q=>h pins s σ H R I (i σ H R q)
theorem aK3 {A:AS}{a:Addr}{vs:List V}{l:List D}(c:(¬A a∧Rd H a (.lst vs))∨KL K a vs)(r:bC K A H l vs):b53 K A H (Itl K a) l.length (fun i=>l.getD i .non):=by
 have sq: ∀A' H',jD A H A' H'→SqL K H' a vs:=fun A' H' P=>by
  rcases c with⟨n,c⟩|c
  ·exact .inl (Rd.pres P n c).2
  ·exact .inr c
 have get: ∀i,i<l.length→ ∃x,vs[i]? =some x∧Rep K A H (l.getD i .non) x:=fun i hi=>r.get (by rw[List.getD_eq_getElem?_getD,List.getElem?_eq_getElem hi];rfl)
 refine⟨fun A' H' i P hi=> ?_,fun A' H' i x H'' P hA hi y=> ?_,fun A' H' P=>⟨vs,sq _ _ P,by rw[r.length];exact Nat.le_refl _⟩⟩
 ·obtain⟨x,e,_⟩:=get i hi
  exact⟨vs,x,sq _ _ P,e⟩
 ·obtain⟨x',e,r'⟩:=get i hi
  obtain⟨rfl,y⟩:=y
  have:=y vs (sq _ _ P)
  rw[e]at this;cases this
  exact⟨.refl _,r'.mono P⟩
theorem bQ2 {A:AS}{a:Addr}{vs:List V}{l:List D}(c:(¬A a∧Rd H a (.tup vs))∨KT K a vs)(r:bC K A H l vs):b53 K A H (Itt K a) l.length (fun i=>l.getD i .non):=by
 have sq: ∀A' H',jD A H A' H'→SqT K H' a vs:=fun A' H' P=>by
  rcases c with⟨n,c⟩|c
  ·exact .inl (Rd.pres P n c).2
  ·exact .inr c
 have get: ∀i,i<l.length→ ∃x,vs[i]? =some x∧Rep K A H (l.getD i .non) x:=fun i hi=>r.get (by rw[List.getD_eq_getElem?_getD,List.getElem?_eq_getElem hi];rfl)
 refine⟨fun A' H' i P hi=> ?_,fun A' H' i x H'' P hA hi y=> ?_,fun A' H' P=>⟨vs,sq _ _ P,by rw[r.length];exact Nat.le_refl _⟩⟩
 ·obtain⟨x,e,_⟩:=get i hi
  exact⟨vs,x,sq _ _ P,e⟩
 ·obtain⟨x',e,r'⟩:=get i hi
  obtain⟨rfl,y⟩:=y
  have:=y vs (sq _ _ P)
  rw[e]at this;cases this
  exact⟨.refl _,r'.mono P⟩
theorem gL {tg:Expr}(h:PU X e te):PUI X tg e (eO te):=a87 (pi_any h) fun σ H R ⟨C,ρ,Q0,I,h,k⟩=>⟨C,ρ,_,I,h,fun b ρ1 v H1 q f s r=>by
 have rr:=r.rep fun a z=>I.avF f z
 generalize b.d=d at q rr
 cases d with
 | tup l=>
  simp only[Rep]at rr
  obtain⟨a,vs,rfl,c,rs⟩:=rr
  exact⟨a,rfl,.inr ⟨vs,c.imp And.right id,k _ _ ρ1 _ H1 q f s (bQ2 c rs)⟩⟩
 | lst l=>
  simp only[Rep]at rr
  obtain⟨a,vs,rfl,n,c,rs⟩:=rr
  exact⟨a,rfl,.inl ⟨vs,.inl (.inl c),k _ _ ρ1 _ H1 q f s (aK3 (.inl ⟨n,.inl c⟩) rs)⟩⟩
 | rol l=>
  simp only[Rep]at rr
  obtain⟨a,vs,rfl,c,rs⟩:=rr
  exact⟨a,rfl,.inl ⟨vs,c.imp And.right id,k _ _ ρ1 _ H1 q f s (aK3 c rs)⟩⟩
 | _=>exact(show False from q).elim⟩
theorem a88 {A:AS}{lo:Int}{n:Nat}:b53 K A H (Itr lo n) n (fun i=> .int (lo+i)):=
 ⟨fun _ _ _ _ h=>h,fun _ _ i x H'' _ _ _ ⟨e,y⟩=>by subst e;subst y;exact⟨.refl _,by simp only[Rep]⟩,fun _ _ _=>Nat.le_refl n⟩
def eJ (ta:UA):UI:=fun ρ Q=>ta ρ fun ds ρ1=>match ds with
 | [.int j]=>(-(2^62)≤j∧j<2^62)∧Q j.toNat (fun i=> .int (0+i)) ρ1
 | _=>False
def a89 (ta:UA):UI:=fun ρ Q=>ta ρ fun ds ρ1=>match ds with
 | [.int i,.int j]=>(-(2^62)≤i∧i<2^62∧ -(2^62)≤j∧j<2^62)∧Q (j-i).toNat (fun k=> .int (i+k)) ρ1
 | _=>False
theorem bB {A:AS}{i:Int}{v:V}(h:Rep K A H (.int i) v):v= .int i:=by simpa only[Rep]using h
theorem cI {tg a:Expr}{ta:UA}{p:Pos}(hg:Gl X "range")(hm:X.mg "range"=none)(ha:PUA X [a] ta)(hs:starEach [a] X.env=[(false,eval a X.env)]:=by rfl):PUI X tg (.Call (.Name "range" p) [a] [] pos) (eJ ta):=
 a87 (bG0 hg hm ha hs) fun σ H R ⟨C,ρ,Q0,I,h,k⟩=>⟨C,ρ,_,I,h,fun ds ρ1 vs H1 q f s r=>by
  split at q
  ·rename_i j
   obtain⟨v,vr,rfl,rv,rr⟩:=r.uncons
   have:=rr.unnil
   subst this
   have:=bB rv
   subst this
   obtain⟨⟨h1,h2⟩,q⟩:=q
   exact⟨j,rfl,h1,h2,k _ _ ρ1 _ H1 q f s a88⟩
  ·exact q.elim⟩
theorem yA {tg a b:Expr}{ta:UA}{p:Pos}(hg:Gl X "range")(hm:X.mg "range"=none)(ha:PUA X [a,b] ta)(hs:starEach [a,b] X.env=[(false,eval a X.env),(false,eval b X.env)]:=by rfl)(hs2:starEach [b] X.env=[(false,eval b X.env)]:=by rfl) :
  PUI X tg (.Call (.Name "range" p) [a,b] [] pos) (a89 ta):=
 a87 (bG1 hg hm ha hs hs2) fun σ H R ⟨C,ρ,Q0,I,h,k⟩=>⟨C,ρ,_,I,h,fun ds ρ1 vs H1 q f s r=>by
  split at q
  ·rename_i i j
   obtain⟨v,vr,rfl,rv,rr⟩:=r.uncons
   obtain⟨w,wr,rfl,rw',rr'⟩:=rr.uncons
   have:=rr'.unnil
   subst this
   have:=bB rv
   subst this
   have:=bB rw'
   subst this
   obtain⟨hb,q⟩:=q
   exact⟨i,j,rfl,hb,k _ _ ρ1 _ H1 q f s a88⟩
  ·exact q.elim⟩
end
section
variable {X:Cx}{a b e o:Expr}{es:List Expr}{pos:Pos}{ta tb te ti:UE}{K:PySem.W.Frag}{C:C0}{ρ ρ':Ev}{σ σ':L2.St}{H H':Hp}{A:AS}
theorem Frz.ow {i:Nat}{l:List D}(f:Frz ρ ρ')(h:ρ'[i]? =some (some (.ow l))):ρ[i]? =some (some (.ow l)):=by
 rcases f.2 i with q| ⟨l',_,q⟩
 ·exact q▸h
 ·rw[q]at h;cases h
def mL (ρ:Ev)(i:Nat)(Q:List D→Prop):Prop:=match ρ[i]? with
 | some (some (.ow l))=>Q l
 | _=>False
theorem iR {i:Nat}{Q:List D→Prop}(h:mL ρ i Q): ∃l,ρ[i]? =some (some (.ow l))∧Q l:=by
 unfold mL at h
 split at h
 ·rename_i l e
  exact⟨l,e,h⟩
 ·exact h.elim
def yB (i:Nat)(t:UE):US:=fun D ρ=>mL ρ i fun _=>t ρ fun b ρ1=>mL ρ1 i fun l=>l.length<sizeLine∧D.nx (ρ1.set i (some (.ow (l++[b.d]))))
theorem iS {x:Str}{p apos cpos:Pos}(i:Nat)(hx:PE X (.Name x p) (a01 i))(he:PU X e te)
  (hbase:attributeBase (.Name x p) "append" X.env (eval (.Name x p) X.env)=eval (.Name x p) X.env:=by rfl)
  (hfew:((backTo cpos (starEach [e] X.env)).all (fun x=> !x.1)&&(backToKw cpos (keywordEach [] X.env)).all (fun x=>x.1.isSome)
   &&decide ([e].length+([]:List Keyword).length+(if([]:List Keyword).isEmpty then 0 else 1)<30))=true:=by rfl)
  (hline:(apos.endLine==cpos.line)=true:=by rfl) (hs:starEach [e] X.env=(false,eval e X.env)::starEach [] X.env:=by rfl) (hplain:(backTo cpos (starEach [] X.env)).any (·.1)=false:=by rfl)
  (hw:swapsWith (.Call (.Attribute (.Name x p) "append" apos) [e] [] cpos) none pos.line X.env=pure false:=by rfl) :
  PUS X (.Expr (.Call (.Attribute (.Name x p) "append" apos) [e] [] cpos) pos) (yB i te):=
 mJ (aO6 (pe_bm PySem.F.plainAttrs_list PySem.F.slot_list_append PySem.F.type_list_append aK0 hx (aO8 he b46 hs) hbase hfew hline hs hplain) hw) fun D σ H ⟨C,ρ,D0,I,h,k⟩=>by
  obtain⟨l,hl,h⟩:=iR h
  obtain⟨a,vs,h1,h2,h3,h4⟩:=I.ow i l hl
  refine⟨.ref a,h1,.inl ⟨rfl,vs,SqL.of h2⟩,C,ρ,_,I,h,fun b ρ1 v H1 q f s r=> ?_⟩
  obtain⟨l',hl',hz,q⟩:=iR q
  have e:=f.ow hl'
  rw[hl]at e;cases e
  have I1:=(I.frz f).same s
  obtain⟨a',vs',g1,g2,g3,g4⟩:=I1.ow i l hl'
  rw[h1]at g1;cases g1
  refine⟨a,vs',v,rfl,rfl,g2,by rw[←g4.length];exact hz,k.nx _ _ _ q ?_⟩
  exact I1.write hl' h1 (g4.append (.cons (r.rep fun a z=>I.avF f z) .nil))
def aK4 (i:Nat)(t ti:UE):US:=fun D ρ=>t ρ fun b ρ1=>mL ρ1 i fun _=>ti ρ1 fun j ρ2=>mL ρ2 i fun l=>match j.d with
 | .int k=>(match ixN l.length k with
  | some n=>D.nx (ρ2.set i (some (.ow (l.set n b.d))))
  | none=>False)
 | _=>False
theorem qZ {x:Str}{p tpos:Pos}{ix:Expr}(i:Nat)(hx:PE X (.Name x p) (a01 i))(he:PU X e te)(hi:PU X ix ti)
  (ha: ∀v,assign (.Subscript (.Name x p) ix tpos) X.env v=(do
   let ov←holding [v] (eval (.Name x p) X.env)
   let iv←holding [v,ov] (eval ix X.env)
   standAt tpos
   holding [v,ov,iv] (setItem ov iv v)
   release [v,ov,iv] []):=by intro _;rfl)
  (hs:swapsWithSole [.Subscript (.Name x p) ix tpos] e pos.line X.env=pure false:=by rfl) (hw:swappedStores [.Subscript (.Name x p) ix tpos] e X.env=pure none:=by rfl)
  (h1:(assignEach [.Subscript (.Name x p) ix tpos] X.env).map (·.2)=[assign (.Subscript (.Name x p) ix tpos) X.env]:=by rfl):PUS X (.Assign [.Subscript (.Name x p) ix tpos] e pos) (aK4 i te ti):=
 mJ (bN7 he (pg_sub hx hi aW7 ha) hs hw h1) fun D σ H ⟨C,ρ,D0,I,h,k⟩=>⟨C,ρ,_,I,h,fun b ρ1 v H1 q f s r=>by
  obtain⟨l,hl,q⟩:=iR q
  have I1:=(I.frz f).same s
  obtain⟨a,vs,h1,h2,h3,h4⟩:=I1.ow i l hl
  refine⟨.ref a,h1,C,ρ1,_,I1,q,fun j ρ2 w H2 q2 f2 s2 r2=> ?_⟩
  obtain⟨l',hl',q2⟩:=iR q2
  have e:=f2.ow hl'
  rw[hl]at e;cases e
  have I2:=(I1.frz f2).same s2
  obtain⟨a',vs',g1,g2,g3,g4⟩:=I2.ow i l hl'
  rw[h1]at g1;cases g1
  have rj:=r2.rep fun a z=>I1.avF f2 z
  generalize j.d=dj at q2 rj
  split at q2
  ·rename_i kk
   have:=bB rj
   subst this
   split at q2
   ·rename_i n hn
    refine⟨a,vs',kk,n,rfl,rfl,g2,by rw[←g4.length];exact hn,k.nx _ _ _ q2 ?_⟩
    exact I2.write hl' h1 (g4.set n ((r.rep fun a z=>I.avF f z).mono (.sub s2 fun a=>f2.av)))
   ·exact q2.elim
  ·exact q2.elim⟩
def gIx (d i:D)(Q:D→Prop):Prop:=match jR d,i with
 | some l,.int k=>(match atI l k with
  | some x=>Q x
  | none=>False)
 | _,_=>False
def uIx (t:UV)(ti:UE):UE:=fun ρ Q=>t ρ fun d ρ1=>ti ρ1 fun i ρ2=>gIx d i.d fun x=>Q (.pu x) ρ2
theorem bC.atI {l:List D}{vs:List V}{k:Int}{x:D}(r:bC K A H l vs)(h:atI l k=some x): ∃v,L2.atI vs k=some v∧Rep K A H x v:=by
 unfold L2.atI at h⊢
 cases e:ixN l.length k with
 | none=>rw[e]at h;cases h
 | some j=>
  rw[e]at h
  rw[←r.length,e]
  exact r.get h
theorem b50.mono {A':AS}(s:fF H H')(h: ∀a,A' a→A a): ∀{d:D} {v:V},b50 K A H d v→b50 K A' H' d v
 | .non,_,r=>Rep.mono (.sub s h) r
 | .bl _,_,r=>Rep.mono (.sub s h) r
 | .int _,_,r=>Rep.mono (.sub s h) r
 | .str _,_,r=>Rep.mono (.sub s h) r
 | .ty _,_,r=>Rep.mono (.sub s h) r
 | .tup _,_,⟨a,vs,e,c,r⟩=>⟨a,vs,e,c.imp (fun c=>c.imp (s _ _) fun⟨o,z⟩=>⟨o,s _ _ z⟩) id,r.mono (.sub s h)⟩
 | .lst _,_,⟨a,vs,e,c,r⟩=>⟨a,vs,e,s _ _ c,r.mono (.sub s h)⟩
 | .rol _,_,⟨a,vs,e,c,r⟩=>⟨a,vs,e,s.seq c,r.mono (.sub s h)⟩
 | .obj _ _ _,_,r=>Rep.mono (.sub s h) r
 | .adr _,_,r=>Rep.mono (.sub s h) r
theorem b50.seq {d:D}{v:V}{l:List D}(r:b50 K A H d v)(h:jR d=some l): ∃a vs,v= .ref a∧(SqL K H a vs∨SqT K H a vs)∧bC K A H l vs:=by
 cases d with
 | tup l'=>cases h;obtain⟨a,vs,e,c,r⟩:=r;exact⟨a,vs,e,.inr c,r⟩
 | lst l'=>cases h;obtain⟨a,vs,e,c,r⟩:=r;exact⟨a,vs,e,.inl (SqL.of c),r⟩
 | rol l'=>cases h;obtain⟨a,vs,e,c,r⟩:=r;exact⟨a,vs,e,.inl c,r⟩
 | _=>cases h
theorem c72 {d i:D}{Q:D→Prop}(h:gIx d i Q): ∃l k x,jR d=some l∧i= .int k∧atI l k=some x∧Q x:=by
 unfold gIx at h
 split at h
 ·rename_i l k e
  split at h
  ·rename_i x ex
   exact⟨l,k,x,e,rfl,ex,h⟩
  ·exact h.elim
 ·exact h.elim
theorem b9 {t:UV}(ha:PUV X a t)(hb:PU X b ti)(hs:bB4 b):PU X (.Subscript a b pos) (uIx t ti):=
 gK (pe_ix ix_seq ha hb hs) fun σ H Q ⟨C,ρ,Q0,I,h,k⟩=>⟨C,ρ,_,I,h,fun d ρ1 v H1 q f s r=>by
  have I1:=(I.frz f).same s
  refine⟨C,ρ1,_,I1,q,fun i ρ2 w H2 q2 f2 s2 r2=> ?_⟩
  obtain⟨l,kk,x,e1,e2,e3,q2⟩:=c72 q2
  have ri:=r2.rep fun a z=>I1.avF f2 z
  rw[e2]at ri
  have:=bB ri
  subst this
  obtain⟨a,vs,rfl,c,rs⟩:=(r.mono (A':=Av C ρ2 σ) s2 fun a=>f2.av).seq e1
  obtain⟨u,e4,r4⟩:=rs.atI e3
  have fin:=k (.pu x) ρ2 u H2 q2 (f.trans f2) (s.trans s2) r4
  rcases c with c|c
  ·exact .inl ⟨a,vs,kk,u,rfl,rfl,c,e4,fin⟩
  ·exact .inr (.inl ⟨a,vs,kk,u,rfl,rfl,c,e4,fin⟩)⟩
abbrev UO:=Ev→(Option Int→Ev→Prop)→Prop
def lO (K:PySem.W.Frag)(t:UO):TO:=fun σ H Q=> ∃C ρ Q0,EOk K C ρ σ H∧t ρ Q0∧ ∀i ρ' H',Q0 i ρ'→Frz ρ ρ'→fF H H'→Q i H'
def PUO (X:Cx)(e:Option Expr)(t:UO):Prop:=PO X e (lO X.K t)
theorem cF1 {e:Option Expr}{t t':TO}(h:PO X e t)(i: ∀σ H Q,t' σ H Q→t σ H Q):PO X e t':=fun pins s σ H Q I q=>h pins s σ H Q I (i σ H Q q)
def gX:UO:=fun ρ Q=>Q none ρ
def iE (t:UE):UO:=fun ρ Q=>t ρ fun b ρ1=>match b.d with
 | .int i=>Q (some i) ρ1
 | _=>False
theorem j2:PUO X none gX:=cF1 c63 fun σ H Q ⟨C,ρ,Q0,I,h,k⟩=>k _ _ _ h (.refl _) (.refl _)
theorem eP (h:PU X e te):PUO X (some e) (iE te):=cF1 (c64 h) fun σ H Q ⟨C,ρ,Q0,I,h,k⟩=>⟨C,ρ,_,I,h,fun b ρ1 v H1 q f s r=>by
 have r':=r.rep fun a z=>I.avF f z
 generalize b.d=d at q r'
 split at q
 ·exact⟨_,bB r',k _ _ _ q f s⟩
 ·exact q.elim⟩
def cutD (l:List D)(lo hi:Option Int):List D:=(l.drop (HT.sIx l.length 0 lo)).take (HT.sIx l.length l.length hi-HT.sIx l.length 0 lo)
theorem bC.cut {l:List D}{vs:List V}(r:bC K A H l vs)(lo hi:Option Int):bC K A H (cutD l lo hi) (aW6 vs lo hi):=by
 unfold cutD aW6
 rw[r.length]
 exact(r.drop _).take _
def gSl (d:D)(lo hi:Option Int)(Q:B→Prop):Prop:=match d with
 | .tup l=> ¬(HT.sIx l.length 0 lo=0∧HT.sIx l.length l.length hi=l.length)∧Q (.pu (.tup (cutD l lo hi)))
 | .lst l=>Q (.ow (cutD l lo hi))
 | .rol l=>Q (.ow (cutD l lo hi))
 | _=>False
def uSl (t:UV)(tl th:UO):UE:=fun ρ Q=>t ρ fun d ρ1=>tl ρ1 fun lo ρ2=>th ρ2 fun hi ρ3=>gSl d lo hi fun b=>Q b ρ3
theorem hV {t:UV}{tl th:UO}{lo hi:Option Expr}{p2:Pos}(he:PUV X e t)(hl:PUO X lo tl)(hu:PUO X hi th):PU X (.Subscript e (.Slice lo hi none p2) pos) (uSl t tl th):=
 gK (aW5 (bB5.or bP0) he hl hu) fun σ H Q ⟨C,ρ,Q0,I,h,k⟩=>⟨C,ρ,_,I,h,fun d ρ1 v H1 q f s r=>by
  have I1:=(I.frz f).same s
  refine⟨C,ρ1,_,I1,q,fun l2 ρ2 H2 q2 f2 s2=> ?_⟩
  have I2:=(I1.frz f2).same s2
  refine⟨C,ρ2,_,I2,q2,fun h3 ρ3 H3 q3 f3 s3=> ?_⟩
  have I3:=(I2.frz f3).same s3
  have s13:=s2.trans s3
  have sAll:=s.trans s13
  have fAll:=f.trans (f2.trans f3)
  have r':=r.mono (A':=Av C ρ3 σ) s13 fun a z=>f2.av (f3.av z)
  cases d with
  | tup l=>
   obtain⟨hw,q3⟩:=q3
   obtain⟨a,vs,rfl,c,rs⟩:=r'
   exact .inr ⟨a,vs,rfl,c,by rw[←rs.length];exact hw,fun p n=>k _ ρ3 _ _ q3 fAll (sAll.trans (d6 n _)) (gS (fun a z=>I3.avSome z) n (rs.cut l2 h3))⟩
  | lst l=>
   obtain⟨a,vs,rfl,c,rs⟩:=r'
   exact .inl ⟨a,vs,rfl,SqL.of c,fun p n=>k _ ρ3 _ _ q3 fAll (sAll.trans (d6 n _)) (eX sAll n (rs.cut l2 h3))⟩
  | rol l=>
   obtain⟨a,vs,rfl,c,rs⟩:=r'
   exact .inl ⟨a,vs,rfl,c,fun p n=>k _ ρ3 _ _ q3 fAll (sAll.trans (d6 n _)) (eX sAll n (rs.cut l2 h3))⟩
  | _=>exact(show False from q3).elim⟩
def Sm (i:Int):Prop:=i.natAbs<2^9000
theorem Sm.log {i:Int}(h:Sm i):i.natAbs.log2<9000:=by
 by_cases z:i.natAbs=0
 ·rw[z];decide
 ·exact(Nat.log2_lt z).mpr h
def eS (d e:D)(Q:B→Prop):Prop:=match d,e with
 | .int i,.int j=>Q (.pu (.int (i+j)))
 | .lst l,.lst m=>l.length+m.length≤sizeLine∧Q (.ow (l++m))
 | .tup l,.tup m=>l.length+m.length≤sizeLine∧Q (.pu (.tup (l++m)))
 | _,_=>False
theorem bQ3:OpR X (binaryOp .Add) (fun x y H Q=> ∃a b ys,x= .ref a∧y= .ref b∧SqT X.K H a []∧SqT X.K H b ys∧Q (.ref b) H):=by
 intro pins s σ H x y v u Q I rx ry h
 obtain⟨a,b,ys,rfl,rfl,ha,hb,q⟩:=h
 cases rx
 cases ry
 obtain⟨its,r1,p1,_⟩:=I.tuple ha
 obtain⟨its2,r2,p2,_⟩:=I.tuple hb
 have e:its=[]:=by
  have:=r1.length
  exact List.length_eq_zero_iff.mp this.symm
 subst e
 obtain⟨⟨cls,dd,data,sl⟩,ho,hc,n,hd⟩:=id p1
 obtain⟨⟨cls2,dd2,data2,sl2⟩,ho2,hc2,n2,hd2⟩:=id p2
 simp only at hc hd hc2 hd2
 subst hc hd hc2 hd2
 exact concat_meets ⟨_,ho,rfl⟩ ⟨_,ho2,rfl⟩ noFill_tuple_add seq_tuple_add PySem.F.slot_tuple_add PySem.F.entry_tuple_add (PySem.F.args_tuple_add_2 _ _) (tuple_addW0 a b _ its2.toArray n n2 dd dd2 sl sl2 rfl) ⟨ho,ho2,⟨.ref b,H,I,rfl,q⟩⟩
theorem v5 {i:Int}:nE K A H H' (.pu (.int i)) (.int i):=by
 show Rep K A H' (.int i) (.int i)
 simp only[Rep]
theorem bT:OpU X (binaryOp .Add) eS:=by
 intro A H d e v w Q0 Q hA r1 r2 g k
 unfold eS at g
 split at g
 ·rename_i i j
  exact⟨_,op_add,i,j,bB r1,bB r2,k _ _ H g (.refl _) v5⟩
 ·rename_i l m
  simp only[Rep]at r1 r2
  obtain⟨a,vs,rfl,n1,c1,rs1⟩:=r1
  obtain⟨b,ws,rfl,n2,c2,rs2⟩:=r2
  exact⟨_,op_cat,a,b,vs,ws,rfl,rfl,c1,c2,by rw[←rs1.length,←rs2.length];exact g.1,fun p n=>k _ _ _ g.2 (d6 n _) (eX (.refl _) n (rs1.append rs2))⟩
 ·rename_i l m
  simp only[Rep]at r1 r2
  obtain⟨a,vs,rfl,c1,rs1⟩:=r1
  obtain⟨b,ws,rfl,c2,rs2⟩:=r2
  obtain⟨hz,g⟩:=g
  by_cases hn:l=[]
  ·subst hn
   have e1:vs=[]:=rs1.unnil
   subst e1
   refine⟨_,bQ3,a,b,ws,rfl,rfl,c1.imp And.right id,c2.imp And.right id,k _ _ H g (.refl _) ?_⟩
   show Rep X.K A H (.tup m) (.ref b)
   simp only[Rep]
   exact⟨b,ws,rfl,c2,rs2⟩
  refine⟨_,c65,a,b,vs,ws,rfl,rfl,c1.imp And.right id,c2.imp And.right id,fun z=>hn ?_,by rw[←rs1.length,←rs2.length];exact hz,fun z=> ?_,fun z p n=> ?_⟩
  ·have:=rs1.length
   rw[z]at this
   exact List.length_eq_zero_iff.mp this
  ·have e2:=rs2.length
   rw[z]at e2
   have e3:m=[]:=List.length_eq_zero_iff.mp e2
   subst e3
   rw[List.append_nil]at g
   refine k _ _ H g (.refl _) ?_
   show Rep X.K A H (.tup l) (.ref a)
   simp only[Rep]
   exact⟨a,vs,rfl,c1,rs1⟩
  ·exact k _ _ _ g (d6 n _) (gS hA n (rs1.append rs2))
 ·exact g.elim
def gI2 (f:Int→Int→(B→Prop)→Prop)(d e:D)(Q:B→Prop):Prop:=match d,e with
 | .int i,.int j=>f i j Q
 | _,_=>False
theorem mU {f:Int→Int→(B→Prop)→Prop}{d e:D}{Q:B→Prop}(h:gI2 f d e Q): ∃i j,d= .int i∧e= .int j∧f i j Q:=by
 unfold gI2 at h
 split at h
 ·exact⟨_,_,rfl,rfl,h⟩
 ·exact h.elim
def gSub:D→D→(B→Prop)→Prop:=gI2 fun i j Q=>Q (.pu (.int (i-j)))
theorem bF:OpU X (binaryOp .Sub) gSub:=by
 intro A H d e v w Q0 Q hA r1 r2 g k
 obtain⟨i,j,rfl,rfl,g⟩:=mU g
 exact⟨_,op_sub,i,j,bB r1,bB r2,k _ _ H g (.refl _) v5⟩
theorem bB8 {i:Int}(h:Sm i):Builtin.Int.intBits i≤2^20:=Nat.le_trans (PyProof.Rows.intBits_le h) (by decide)
def dE (d e:D)(Q:B→Prop):Prop:=match d,e with
 | .int i,.int j=>(b40 i j∨(Sm i∧Sm j))∧Q (.pu (.int (i*j)))
 | .lst l,.int k=>(-(2^63)≤k∧k<2^63∧l.length*k.toNat≤sizeLine)∧Q (.ow (List.replicate k.toNat l).flatten)
 | _,_=>False
theorem c73:OpR X (binaryOp .Mult) (rI (fun i j=>b40 i j∨(Sm i∧Sm j)) fun i j=> .int (i*j)):=opI fun _ _ _ _ _ _ _ hc q=>mul_int q (hc.elim b40.ok fun h=> .of_bits (bB8 h.1) (bB8 h.2))
theorem bH:OpU X (binaryOp .Mult) dE:=by
 intro A H d e v w Q0 Q hA r1 r2 g k
 unfold dE at g
 split at g
 ·rename_i i j
  exact⟨_,c73,i,j,bB r1,bB r2,g.1,k _ _ H g.2 (.refl _) v5⟩
 ·rename_i l kk
  have:=bB r2
  subst this
  simp only[Rep]at r1
  obtain⟨a,vs,rfl,n1,c1,rs1⟩:=r1
  obtain⟨⟨h1,h2,h3⟩,g⟩:=g
  exact⟨_,op_rep,a,kk,vs,rfl,rfl,c1,h1,h2,by rw[←rs1.length];exact h3,fun p n=>k _ _ _ g (d6 n _) (eX (.refl _) n (rs1.rep _))⟩
 ·exact g.elim
def aG0:D→D→(B→Prop)→Prop:=gI2 fun i j Q=>(j≠0∧Sm j)∧Q (.pu (.int (i.fdiv j)))
def jQ:D→D→(B→Prop)→Prop:=gI2 fun i j Q=>j≠0∧Q (.pu (.int (i.fmod j)))
theorem c74:OpR X (binaryOp .FloorDiv) (rI (fun _ j=>j≠0∧Sm j) fun i j=> .int (i.fdiv j)):=opI fun _ _ _ _ _ _ _ hc q=>floordiv_int hc.1 q (.inl (PyProof.noPylong_of_log2 hc.2.log))
theorem vV:OpU X (binaryOp .FloorDiv) aG0:=by
 intro A H d e v w Q0 Q hA r1 r2 g k
 obtain⟨i,j,rfl,rfl,g⟩:=mU g
 exact⟨_,c74,i,j,bB r1,bB r2,g.1,k _ _ H g.2 (.refl _) v5⟩
theorem eM:OpU X (binaryOp .Mod) jQ:=by
 intro A H d e v w Q0 Q hA r1 r2 g k
 obtain⟨i,j,rfl,rfl,g⟩:=mU g
 exact⟨_,c55,i,j,bB r1,bB r2,g.1,k _ _ H g.2 (.refl _) v5⟩
def r6:D→D→(B→Prop)→Prop:=gI2 fun i j Q=>c54 i j∧Q (.pu (.int (i^j.toNat)))
theorem iF:OpU X (binaryOp .Pow) r6:=by
 intro A H d e v w Q0 Q hA r1 r2 g k
 obtain⟨i,j,rfl,rfl,g⟩:=mU g
 exact⟨_,op_pow,i,j,bB r1,bB r2,g.1,k _ _ H g.2 (.refl _) v5⟩
def nF (p:Int→Int→Bool):D→D→(B→Prop)→Prop:=gI2 fun i j Q=>Q (.pu (.bl (p i j)))
theorem aP8 {op:CmpOp}{p:Int→Int→Bool}(ho:OpR X (compareOp op) (rI0 fun i j=> .bl (p i j))):OpU X (compareOp op) (nF p):=by
 intro A H d e v w Q0 Q hA r1 r2 g k
 obtain⟨i,j,rfl,rfl,g⟩:=mU g
 exact⟨_,ho,i,j,bB r1,bB r2,k _ _ H g (.refl _) jE⟩
theorem aX1:OpU X (compareOp .Lt) (nF fun i j=>decide (i<j)):=aP8 op_lt
theorem cF2:OpU X (compareOp .LtE) (nF fun i j=>decide (i≤j)):=aP8 op_le
theorem aX2:OpU X (compareOp .Gt) (nF fun i j=>decide (j<i)):=aP8 op_gt
theorem cF3:OpU X (compareOp .GtE) (nF fun i j=>decide (j≤i)):=aP8 op_ge
def gH (neg:Bool)(d e:D)(Q:B→Prop):Prop:=match d,e with
 | .int i,.int j=>Q (.pu (.bl (neg ^^ decide (i=j))))
 | .bl i,.bl j=>Q (.pu (.bl (neg ^^ decide (i=j))))
 | .str i,.str j=>Q (.pu (.bl (neg ^^ decide (i=j))))
 | _,_=>False
theorem oB {b:Bool}{v:V}(h:Rep K A H (.bl b) v):v= .bl b:=by simpa only[Rep]using h
theorem wU {b:Str}{v:V}(h:Rep K A H (.str b) v):v= .str b:=by simpa only[Rep]using h
theorem fS:OpU X (compareOp .Eq) (gH false):=by
 intro A H d e v w Q0 Q hA r1 r2 g k
 unfold gH at g
 split at g
 ·rw[bB r1,bB r2]
  exact⟨_,bO0,rfl,k _ _ H g (.refl _) (by rw[a63,Bool.false_xor,Bool.beq_eq_decide_eq];exact jE)⟩
 ·rw[oB r1,oB r2]
  exact⟨_,bO0,rfl,k _ _ H g (.refl _) (by rw[aO7,Bool.false_xor,Bool.beq_eq_decide_eq];exact jE)⟩
 ·rw[wU r1,wU r2]
  exact⟨_,bO0,rfl,k _ _ H g (.refl _) (by rw[a64,Bool.false_xor,Bool.beq_eq_decide_eq];exact jE)⟩
 ·exact g.elim
theorem aK5:OpU X (compareOp .NotEq) (gH true):=by
 intro A H d e v w Q0 Q hA r1 r2 g k
 unfold gH at g
 split at g
 ·rw[bB r1,bB r2]
  exact⟨_,bO1,rfl,k _ _ H g (.refl _) (by rw[a63,Bool.true_xor,Bool.beq_eq_decide_eq];exact jE)⟩
 ·rw[oB r1,oB r2]
  exact⟨_,bO1,rfl,k _ _ H g (.refl _) (by rw[aO7,Bool.true_xor,Bool.beq_eq_decide_eq];exact jE)⟩
 ·rw[wU r1,wU r2]
  exact⟨_,bO1,rfl,k _ _ H g (.refl _) (by rw[a64,Bool.true_xor,Bool.beq_eq_decide_eq];exact jE)⟩
 ·exact g.elim
end
section
variable {X:Cx}{a b e o:Expr}{es:List Expr}{pos:Pos}{ta tb te ti:UE}{K:PySem.W.Frag}{C:C0}{ρ ρ':Ev}{σ σ':L2.St}{H H':Hp}{A:AS}
def lD (t:UE):UE:=fun ρ Q=>t ρ fun b ρ1=>match b.d with
 | .int i=>Q (.pu (.int (-i))) ρ1
 | _=>False
theorem fH (h:PU X a ta):PU X (.UnaryOp .USub a pos) (lD ta):=
 gK (pe_un un_neg h) fun σ H Q ⟨C,ρ,Q0,I,h,k⟩=>⟨C,ρ,_,I,h,fun b ρ1 v H1 q f s r=>by
  have r':=r.rep fun a z=>I.avF f z
  generalize b.d=d at q r'
  split at q
  ·exact⟨_,bB r',k _ _ _ _ q f s v5⟩
  ·exact q.elim⟩
theorem b54:IpU X .Add (gI2 fun i j Q=>Q (.pu (.int (i+j)))):=by
 intro A H d e v w Q0 Q hA r1 r2 g k
 obtain⟨i,j,rfl,rfl,g⟩:=mU g
 exact⟨_,ip_add,i,j,bB r1,bB r2,k _ _ H g (.refl _) v5⟩
theorem iu_sub:IpU X .Sub (gI2 fun i j Q=>Q (.pu (.int (i-j)))):=by
 intro A H d e v w Q0 Q hA r1 r2 g k
 obtain⟨i,j,rfl,rfl,g⟩:=mU g
 exact⟨_,bN8,i,j,bB r1,bB r2,k _ _ H g (.refl _) v5⟩
def g1 (f:D→(B→Prop)→Prop)(ds:List D)(Q:B→Prop):Prop:=match ds with
 | [d]=>f d Q
 | _=>False
def g2 (f:D→D→(B→Prop)→Prop)(ds:List D)(Q:B→Prop):Prop:=match ds with
 | [d,e]=>f d e Q
 | _=>False
theorem vW {f:D→(B→Prop)→Prop}{ds:List D}{Q:B→Prop}{vs:List V}(h:g1 f ds Q)(r:bC K A H ds vs): ∃d v,ds=[d]∧vs=[v]∧Rep K A H d v∧f d Q:=by
 unfold g1 at h
 split at h
 ·obtain⟨v,vr,rfl,rv,rr⟩:=r.uncons
  have:=rr.unnil
  subst this
  exact⟨_,v,rfl,rfl,rv,h⟩
 ·exact h.elim
theorem b55 {f:D→D→(B→Prop)→Prop}{ds:List D}{Q:B→Prop}{vs:List V}(h:g2 f ds Q)(r:bC K A H ds vs): ∃d e v w,ds=[d,e]∧vs=[v,w]∧Rep K A H d v∧Rep K A H e w∧f d e Q:=by
 unfold g2 at h
 split at h
 ·obtain⟨v,vr,rfl,rv,rr⟩:=r.uncons
  obtain⟨w,wr,rfl,rw',rr'⟩:=rr.uncons
  have:=rr'.unnil
  subst this
  exact⟨_,_,v,w,rfl,rfl,rv,rw',h⟩
 ·exact h.elim
def c75 (f:Int→(B→Prop)→Prop)(d:D)(Q:B→Prop):Prop:=match d with
 | .int i=>f i Q
 | _=>False
theorem bQ4 {f:Int→(B→Prop)→Prop}{d:D}{Q:B→Prop}(h:c75 f d Q): ∃i,d= .int i∧f i Q:=by
 unfold c75 at h
 split at h
 ·exact⟨_,rfl,h⟩
 ·exact h.elim
def b56:List D→(B→Prop)→Prop:=g1 (c75 fun i Q=>Q (.pu (.int (if i<0 then -i else i))))
theorem aP9:qI X (.builtin "abs") b56:=by
 intro A H ds vs Q0 Q hA r g k
 obtain⟨d,v,rfl,rfl,rv,g⟩:=vW g r
 obtain⟨i,rfl,g⟩:=bQ4 g
 exact⟨_,bO2,i,by rw[bB rv],k _ _ H g (.refl _) v5⟩
def gMax:List D→(B→Prop)→Prop:=g2 (gI2 fun i j Q=>Q (.pu (.int (if j>i then j else i))))
theorem cu_max (hc:X.calm=true):qI X (.builtin "max") gMax:=by
 intro A H ds vs Q0 Q hA r g k
 obtain⟨d,e,v,w,rfl,rfl,rv,rw',g⟩:=b55 g r
 obtain⟨i,j,rfl,rfl,g⟩:=mU g
 exact⟨_,bG3 hc,i,j,by rw[bB rv,bB rw'],k _ _ H g (.refl _) v5⟩
def gMin:List D→(B→Prop)→Prop:=g2 (gI2 fun i j Q=>Q (.pu (.int (if j<i then j else i))))
theorem cu_min (hc:X.calm=true):qI X (.builtin "min") gMin:=by
 intro A H ds vs Q0 Q hA r g k
 obtain⟨d,e,v,w,rfl,rfl,rv,rw',g⟩:=b55 g r
 obtain⟨i,j,rfl,rfl,g⟩:=mU g
 exact⟨_,bG4 hc,i,j,by rw[bB rv,bB rw'],k _ _ H g (.refl _) v5⟩
def aQ0:List D→(B→Prop)→Prop:=g1 fun d Q=>match d with
 | .int i=>Q (.pu (.int i))
 | .bl k=>Q (.pu (.int (if k then 1 else 0)))
 | _=>False
theorem cu_int:qI X (.type "int") aQ0:=by
 intro A H ds vs Q0 Q hA r g k
 obtain⟨d,v,rfl,rfl,rv,g⟩:=vW g r
 cases d with
 | int i=>exact⟨_,aJ4,.inl ⟨i,by rw[bB rv],k _ _ H g (.refl _) v5⟩⟩
 | bl c=>exact⟨_,aJ4,.inr ⟨c,by rw[oB rv],k _ _ H g (.refl _) v5⟩⟩
 | _=>exact(show False from g).elim
def bY:List D→(B→Prop)→Prop:=g1 fun d Q=>match jR d with
 | some l=>Q (.pu (.tup l))
 | none=>False
theorem dH:qI X (.type "tuple") bY:=by
 intro A H ds vs Q0 Q hA r g k
 obtain⟨d,v,rfl,rfl,rv,g⟩:=vW g r
 cases d with
 | tup l=>
  have rv':=rv
  simp only[Rep]at rv
  obtain⟨a,vs,rfl,c,rs⟩:=rv
  exact⟨_,oX,a,vs,rfl,.inr ⟨c.imp And.right id,k _ _ H g (.refl _) rv'⟩⟩
 | lst l=>
  simp only[Rep]at rv
  obtain⟨a,vs,rfl,n,c,rs⟩:=rv
  exact⟨_,oX,a,vs,rfl,.inl ⟨SqL.of c,fun p n=>k _ _ _ g (d6 n _) (gS hA n rs)⟩⟩
 | rol l=>
  simp only[Rep]at rv
  obtain⟨a,vs,rfl,c,rs⟩:=rv
  exact⟨_,oX,a,vs,rfl,.inl ⟨c.imp And.right id,fun p n=>k _ _ _ g (d6 n _) (gS hA n rs)⟩⟩
 | _=>exact(show False from g).elim
def wV:List D→(B→Prop)→Prop:=g1 fun d Q=>match jR d with
 | some l=>Q (.ow l)
 | none=>False
theorem aQ1:qI X (.type "list") wV:=by
 intro A H ds vs Q0 Q hA r g k
 obtain⟨d,v,rfl,rfl,rv,g⟩:=vW g r
 cases e:jR d with
 | none=>simp only[e]at g
 | some l=>
  simp only[e]at g
  obtain⟨a,vs,rfl,c,rs⟩:=rv.one.seq e
  exact⟨_,aP3,a,vs,rfl,c,fun p n=>k _ _ _ g (d6 n _) (eX (.refl _) n rs)⟩
def iD (t:UV):UE:=fun ρ Q=>t ρ fun d ρ1=>match jR d with
 | some l=>Q (.pu (.int l.length)) ρ1
 | none=>False
theorem dD {t:UV}{p:Pos}(ha:PUV X e t)(hg:Gl X "len")(hm:X.mg "len"=none)(hs:starEach [e] X.env=(false,eval e X.env)::starEach [] X.env:=by rfl)
  (hpl:(backTo pos (starEach [] X.env)).any (·.1)=false:=by rfl):PU X (.Call (.Name "len" p) [e] [] pos) (iD t):=
 gK (aW4 aP2 hg hm PySem.boot_len (aO8 ha b46 hs) (by decide) (by decide) hs hpl) fun σ H Q ⟨C,ρ,Q0,I,h,k⟩=>⟨C,ρ,_,I,h,fun d ρ1 v H1 q f s r=>by
  cases e:jR d with
  | none=>simp only[e]at q
  | some l=>
   simp only[e]at q
   obtain⟨a,vs,rfl,c,rs⟩:=r.seq e
   exact⟨a,vs,rfl,c,k _ _ _ _ q f s (by rw[rs.length];exact v5)⟩⟩
theorem vX {x:Value}{T:String}{prog:Program}{w:World}{A:Around}{E:Value→Shared→Prop}{s:Shared}{Q:Value→Shared→Prop}
  {P:(Result→Shared→Prop)→Shared→Prop} (hm:Meets (Builtin.«isinstance» ⟨[x,.type T],[]⟩) (fun _ R s=>P R s)) (h:P (fun r s'=>match r with| .ok (.ret v)=>Q v s'| .ok _=>False| .error e=>E e s') s) :
  wpAny (model prog w) A (call (.builtin "isinstance") [x,.type T]) Q E s:=
 call_function_any kind_isinstance plain_isinstance entry_isinstance (args_isinstance _ _) (hm _ _ _ _ _ h)
theorem rep_ty {T:String}{v:V}(h:Rep K A H (.ty T) v):v= .ty T:=by simpa only[Rep]using h
def rIsi (K:PySem.W.Frag):List V→Hp→VK→Prop:=fun xs H Q=> ∃x T k,xs=[x,.ty T]∧Q (.bl k) H∧
 ((∃i,x= .int i∧((T="int"∧k=true)∨((T="bool"∨T="tuple"∨T="list")∧k=false)))∨(∃c,x= .bl c∧(T="int"∨T="bool")∧k=true)∨
  (∃a ys,x= .ref a∧SqT K H a ys∧((T="tuple"∧k=true)∨((T="int"∨T="list")∧k=false)))∨(∃a ys,x= .ref a∧SqL K H a ys∧((T="list"∧k=true)∨((T="int"∨T="tuple")∧k=false))))
theorem tyT (T:String)(h:T="int"∨T="bool"∨T="tuple"∨T="list"):typeOf (.type T)=pure (.type "type"):=by
 rcases h with rfl|rfl|rfl|rfl<;>first|rfl|decide
theorem nG:j0 X (.builtin "isinstance") (rIsi X.K):=by
 intro pins s σ H xs us Q I r h
 obtain⟨x,T,k,rfl,q,h⟩:=h
 obtain⟨u,w',rfl,rx,ry⟩:=vals2 r
 have e:w'=Value.type T:=ry
 subst e
 rcases h with⟨i,rfl,h⟩| ⟨c,rfl,h,rfl⟩| ⟨a,ys,rfl,hs,h⟩| ⟨a,ys,rfl,hs,h⟩
 ·obtain⟨t,rfl⟩:=rx
  rcases h with⟨rfl,rfl⟩| ⟨h,rfl⟩
  ·exact call_isinstance_yes (typeIs_int s i t) (tyT _ (by simp)) PyProof.Rows.sub_int_int ⟨.bl true,H,I,rfl,q⟩
  ·rcases h with rfl|rfl|rfl
   ·exact vX (isinstance_false_int (by decide) (tyT _ (by simp)) PyProof.Rows.sub_int_bool) ⟨.bl false,H,I.tok _,rfl,q⟩
   ·exact vX (isinstance_false_int (by decide) (tyT _ (by simp)) PyProof.Rows.sub_int_tuple) ⟨.bl false,H,I.tok _,rfl,q⟩
   ·exact vX (isinstance_false_int (by decide) (tyT _ (by simp)) PyProof.Rows.sub_int_list) ⟨.bl false,H,I.tok _,rfl,q⟩
 ·cases rx
  rcases h with rfl|rfl
  ·exact call_isinstance_yes (PySem.typeIs_bool s c) (tyT _ (by simp)) PyProof.Rows.sub_bool_int ⟨.bl true,H,I,rfl,q⟩
  ·exact call_isinstance_yes (PySem.typeIs_bool s c) (tyT _ (by simp)) PyProof.Rows.sub_bool_bool ⟨.bl true,H,I,rfl,q⟩
 ·cases rx
  obtain⟨its,rv,p,hz⟩:=I.tuple hs
  obtain⟨o,ho,hc,_⟩:=id p
  rcases h with⟨rfl,rfl⟩| ⟨h,rfl⟩
  ·exact call_isinstance_yes p.typeIs (tyT _ (by simp)) PyProof.Rows.sub_tuple_tuple ⟨.bl true,H,I,rfl,q⟩
  ·rcases h with rfl|rfl
   ·exact vX (isinstance_false_tuple (by decide) (tyT _ (by simp)) PyProof.Rows.sub_tuple_int) ⟨⟨o,ho,hc⟩,.bl false,H,I.tok _,rfl,q⟩
   ·exact vX (isinstance_false_tuple (by decide) (tyT _ (by simp)) PyProof.Rows.sub_tuple_list) ⟨⟨o,ho,hc⟩,.bl false,H,I.tok _,rfl,q⟩
 ·cases rx
  obtain⟨its,rv,p,hz⟩:=I.list hs
  obtain⟨o,n,ho,hc,_⟩:=id p
  rcases h with⟨rfl,rfl⟩| ⟨h,rfl⟩
  ·exact call_isinstance_yes p.isList.typeIs (tyT _ (by simp)) PyProof.Rows.sub_list_list ⟨.bl true,H,I,rfl,q⟩
  ·rcases h with rfl|rfl
   ·exact vX (isinstance_false_list (by decide) (tyT _ (by simp)) PyProof.Rows.sub_list_int) ⟨⟨o,ho,hc⟩,.bl false,H,I.tok _,rfl,q⟩
   ·exact vX (isinstance_false_list (by decide) (tyT _ (by simp)) PyProof.Rows.sub_list_tuple) ⟨⟨o,ho,hc⟩,.bl false,H,I.tok _,rfl,q⟩
def bH2:List D→(B→Prop)→Prop:=g2 fun d e Q=>match e with
 | .ty T=>(match d with
  | .int _=>if T="int" then Q (.pu (.bl true))else if T="bool"∨T="tuple"∨T="list" then Q (.pu (.bl false))else False
  | .bl _=>if T="int"∨T="bool" then Q (.pu (.bl true))else False
  | .tup _=>if T="tuple" then Q (.pu (.bl true))else if T="int"∨T="list" then Q (.pu (.bl false))else False
  | .lst _=>if T="list" then Q (.pu (.bl true))else if T="int"∨T="tuple" then Q (.pu (.bl false))else False
  | _=>False)
 | _=>False
theorem aQ2:qI X (.builtin "isinstance") bH2:=by
 intro A H ds vs Q0 Q hA r g k
 obtain⟨d,e,v,w,rfl,rfl,rv,rw',g⟩:=b55 g r
 have no: ∀{c:Bool},Q0 (.pu (.bl c))→Q (.bl c) H:=fun z=>k _ _ H z (.refl _) jE
 cases e with
 | ty T=>
  rw[rep_ty rw']
  cases d with
  | int i=>
   rw[bB rv]
   by_cases h1:T="int"
   ·simp only[h1,if_true]at g
    exact⟨_,nG,_,T,true,rfl,no g,.inl ⟨i,rfl,.inl ⟨h1,rfl⟩⟩⟩
   ·by_cases h2:T="bool"∨T="tuple"∨T="list"
    ·simp only[h1,h2,if_true,if_false]at g
     exact⟨_,nG,_,T,false,rfl,no g,.inl ⟨i,rfl,.inr ⟨h2,rfl⟩⟩⟩
    ·simp only[h1,h2,if_false]at g
  | bl c=>
   rw[oB rv]
   by_cases h1:T="int"∨T="bool"
   ·simp only[h1,if_true]at g
    exact⟨_,nG,_,T,true,rfl,no g,.inr (.inl ⟨c,rfl,h1,rfl⟩)⟩
   ·simp only[h1,if_false]at g
  | tup l=>
   obtain⟨a,vs,rfl,c,rs⟩:=rv.one
   by_cases h1:T="tuple"
   ·simp only[h1,if_true]at g
    exact⟨_,nG,_,T,true,rfl,no g,.inr (.inr (.inl ⟨a,vs,rfl,c,.inl ⟨h1,rfl⟩⟩))⟩
   ·by_cases h2:T="int"∨T="list"
    ·simp only[h1,h2,if_true,if_false]at g
     exact⟨_,nG,_,T,false,rfl,no g,.inr (.inr (.inl ⟨a,vs,rfl,c,.inr ⟨h2,rfl⟩⟩))⟩
    ·simp only[h1,h2,if_false]at g
  | lst l=>
   obtain⟨a,vs,rfl,c,rs⟩:=rv.one
   by_cases h1:T="list"
   ·simp only[h1,if_true]at g
    exact⟨_,nG,_,T,true,rfl,no g,.inr (.inr (.inr ⟨a,vs,rfl,SqL.of c,.inl ⟨h1,rfl⟩⟩))⟩
   ·by_cases h2:T="int"∨T="tuple"
    ·simp only[h1,h2,if_true,if_false]at g
     exact⟨_,nG,_,T,false,rfl,no g,.inr (.inr (.inr ⟨a,vs,rfl,SqL.of c,.inr ⟨h2,rfl⟩⟩))⟩
    ·simp only[h1,h2,if_false]at g
  | _=>exact(show False from g).elim
 | _=>exact(show False from g).elim
theorem bB9 {x:Str}{T:String}{p:Pos}(hg:Gl X x)(hm:X.mg x=none)(hv:bootBuiltins x=some (.type T))(hn:x≠"__name__":=by decide)(hd:(x==("__debug__":Str))=false:=by decide):PU X (.Name x p) (uC (.ty T)):=
 aP5 (c03 (v:= .ty T) hg hm hv rfl hn hd) fun A H=>by simp only[Rep]
def init (N:List Str)(ds:List D):Ev:=ds.map (fun d=>some (.pu d))++List.replicate (N.length-ds.length) none
theorem sS {N:List Str}{ds:List D}{i:Nat}{z:B}(h:(init N ds)[i]? =some (some z)): ∃d,z= .pu d∧ds[i]? =some d:=by
 unfold init at h
 by_cases hi:i<ds.length
 ·rw[List.getElem?_append_left (by simpa using hi),List.getElem?_map]at h
  cases e:ds[i]? with
  | none=>rw[e]at h;cases h
  | some d=>rw[e]at h;cases h;exact⟨d,rfl,rfl⟩
 ·rw[List.getElem?_append_right (by simpa using hi),List.getElem?_replicate]at h
  split at h<;>cases h
theorem aQ3 {N:List Str}{ds:List D}{vs:List V}(hA: ∀a,A a→H a≠none)(r:bC K A H ds vs):EOk K ⟨H,A⟩ (init N ds) (L2.start N vs) H:=by
 have own: ∀a,¬Own (init N ds) (L2.start N vs) a:=fun a ⟨i,l,h1,_⟩=>by
  obtain⟨d,e,_⟩:=sS h1
  cases e
 refine⟨?_,fun i d h=> ?_,fun i l h=> ?_,fun i j l l' a h=> ?_,fun i l h=> ?_,.refl _,hA⟩
 ·unfold init L2.start
  simp[r.length]
 ·obtain⟨d',e,e2⟩:=sS h
  cases e
  obtain⟨v,h1,h2⟩:=r.get e2
  refine⟨v,?_,h2.mono (.sub (.refl _) fun a z=>z.elim id fun z=>absurd z (own a))⟩
  unfold L2.start
  have hv:i<vs.length:=(List.getElem?_eq_some_iff.mp h1).1
  rw[List.getElem?_append_left (by simpa using hv),List.getElem?_map,h1]
  rfl
 ·obtain⟨d',e,_⟩:=sS h
  cases e
 ·obtain⟨d',e,_⟩:=sS h
  cases e
 ·obtain⟨d',e,_⟩:=sS h
  cases e
theorem aQ4 {P:Program}{w:World}{K:PySem.W.Frag}{mg:Str→Option Value}{base:Heap}{x qual:Str}{st:Stmt}{f:Addr}{fd:FuncData}{N ps:List Str}{k:Nat}{φ:Φ}(F:Fun K x qual st f fd)(S:aU N ps (aB st))
  (len: ∀ds Q,φ ds Q→ds.length=ps.length)
  (body: ∀(cdv:Value) (A:Around) (outer:List Env) (s:Shared) (H:Hp) (E:XK),bM k (A.deeper (envOfC qual (aB st) s.heap.objs.size f cdv))→
   ∃t,cZ (cL CX0 P w K mg base N qual (aB st) f cdv A outer s H E).nox (aI st) t∧ ∀ds Q,φ ds Q→t {nx:=fun _=>Q (.pu .non),rt:=Q} (init N ds)) :
  kH P w K mg base CX0 (k+1) f fd ps (spP K φ):=by
 refine F.ok S (fun vs H Q E h=> ?_) (fun cdv A outer s H vs Q E hr h=> ?_)
 ·obtain⟨A,ds,Q0,_,r,h,_⟩:=h
  rw[←r.length]
  exact len ds Q0 h
 ·obtain⟨A',ds,Q0,hA,r,h,q⟩:=h
  obtain⟨t,ht,hq⟩:=body cdv A outer s H E hr
  refine⟨_,ht,⟨H,A'⟩,init N ds,_,aQ3 hA r,hq ds Q0 h,⟨fun ρ σ H' z I=> ?_,fun b v H' z s r=>q b v H' z s r,fun _ _ _ z=>z.elim,fun _ _ _ z=>z.elim⟩⟩
  exact q _ _ H' z I.ext (show Rep _ _ _ _ _ by simp only[Rep])
end
structure Fn (P:Program)(w:World)(K:PySem.W.Frag)(mg:Str→Option Value)(base:Heap)(x:Str)(ps:List Str)(k:Nat)(φ:Φ):Prop where
 ex: ∃f fd,kH P w K mg base CX0 k f fd ps (spP K φ)∧Binds K fd ps []∧PySem.W.keepIn K (.ref f)=true∧mg x=some (.ref f)
section
variable {X:Cx}{e:Expr}{es:List Expr}{pos:Pos}
theorem aZ {k k':Nat}{ps:List Str}{φ:Φ}{x:Str}{p:Pos}{t:UA}(F:Fn X.prog X.w X.K X.mg X.base x ps k φ)(hr:bM k' X.A)(hk:k≤k')(hg:Gl X x)(ha:PUA X (e::es) t)(hdb:(x==("__debug__":Str))=false:=by decide)
  (he:starEach (e::es) X.env=(false,eval e X.env)::starEach es X.env:=by rfl) (hpl:(backTo pos (starEach es X.env)).any (·.1)=false:=by rfl):PU X (.Call (.Name x p) (e::es) [] pos) (aM φ t):=by
 obtain⟨f,fd,G,b,kp,m⟩:=F.ex
 exact c69 (E:=E0) G (hr.mono hk) hg m kp b (fun _ _ _ _ _ _ _ h=>h.elim) ha hdb he hpl
theorem bQ5 {k k':Nat}{ps:List Str}{φ:Φ}{x:Str}{p:Pos}(F:Fn X.prog X.w X.K X.mg X.base x ps k φ)(hr:bM k' X.A)(hk:k≤k')(hg:Gl X x)(hdb:(x==("__debug__":Str))=false:=by decide):PU X (.Call (.Name x p) [] [] pos) (aM φ aK):=by
 obtain⟨f,fd,G,b,kp,m⟩:=F.ex
 exact bP9 (E:=E0) G (hr.mono hk) hg m kp b (fun _ _ _ _ _ _ _ h=>h.elim) hdb
theorem il {n i:Nat}(hn:X.N.length=n)(h:i<n): ∀pins σ H s,Inv X pins σ H s→i<σ.length:=fun _ _ _ _ I=>by rw[I.len,hn];exact h
end
theorem Fn.mk' {P:Program}{w:World}{K:PySem.W.Frag}{mg:Str→Option Value}{base:Heap}{x qual:Str}{st:Stmt}{f:Addr}{fd:FuncData}{N ps:List Str}{k:Nat}{φ:Φ}(F:Fun K x qual st f fd)(m:mg x=some (.ref f))(b:Binds K fd ps [])(S:aU N ps (aB st))
  (len: ∀ds Q,φ ds Q→ds.length=ps.length) {t:US}
  (der: ∀(cdv:Value) (A:Around) (outer:List Env) (s:Shared) (H:Hp) (E:XK),bM k (A.deeper (envOfC qual (aB st) s.heap.objs.size f cdv))→cZ (cL CX0 P w K mg base N qual (aB st) f cdv A outer s H E).nox (aI st) t)
  (rd: ∀ds Q,φ ds Q→t {nx:=fun _=>Q (.pu .non),rt:=Q} (init N ds)):Fn P w K mg base x ps (k+1) φ:=
 ⟨f,fd,aQ4 F S len fun cdv A outer s H E hr=>⟨t,der cdv A outer s H E hr,rd⟩,b,F.kp,m⟩
def aK6:Φ:=fun ds Q=> ∃ns:List Int,ds=[.rol (ns.map .int)]∧ns.length≤63∧Q (.pu (.bl true))
theorem aK7 {K:PySem.W.Frag}{A:AS}{H:Hp}: ∀ns:List Int,bC K A H (ns.map .int) (ns.map V.int)
 | []=> .nil
 | n::ns=> .cons (by simp only[Rep]) (aK7 ns)
theorem law_sp {K:PySem.W.Frag}{H:Hp}{a:Addr}{ns:List Int}(hl:ns.length≤63)(hS:SqL K H a (ns.map V.int)):spP K aK6 [.ref a] H (fun v _=>v= .bl true) (fun _ _ _=>False):=by
 refine⟨fun _=>False,[.rol (ns.map .int)],fun b=>b= .pu (.bl true),fun _ z=>z.elim,.cons ?_ .nil,⟨ns,rfl,hl,rfl⟩,fun b v H' q s r=> ?_⟩
 ·simp only[Rep]
  exact⟨a,_,rfl,hS.imp (fun z=>⟨fun z=>z,z⟩) id,aK7 ns⟩
 ·subst q
  have r':Rep K (fun _=>False) H' (.bl true) v:=r
  exact oB r'
theorem walkM {l:PySem.W.OpenLaw}{k:Nat}{x:Str}{q:Program}{loose:List Str}{XP:(Str→Option Value)→Heap→Prop}{YP:World→Heap→Prop}{d:DefRec}{K:Params→PySem.W.Frag}(hn:l.most=some 63)(hdf:d.params.defaults=[])(hr:bM k callerA)
  (hY: ∀(w:World) (h:Heap),YP w h→(K w.params).In h)
  (F: ∀(w:World) (mg:Str→Option Value) (fa:Addr) (h:Heap),(K w.params).In h→h.Ns mainGlobals mg→mg d.name=some (.ref fa)→
   ∃fd:FuncData,(∀(s:Shared) (u:Value),BindsTo s fd ⟨[u],[]⟩ [(x,u)])∧ ∀base:Heap,(K w.params).In base→base.Ns mainGlobals mg→kH l.prog w (K w.params) mg base CX0 k fa fd [x] (spP (K w.params) aK6)) :
  PySem.W.WalkO q loose XP YP l.row.toRowW d [] (fun f vs=>PySem.call f vs):=
 L2.walk_of (n:=63) (k:=k) (x:=x) (CX:=fun _=>CX0) (sp:=fun w=>spP (K w.params) aK6) hn (by decide) hdf hr hY F (fun _ _ a ns hl _ hS=>law_sp hl hS) fun _ _ _ _ _ z=>z
end M
end
section
namespace L2
open PySem PySem.Spec PyProof.Rows
def bQ (X:Cx)(N:List Str)(scope:Scope)(cl:List (Str×Addr))(C:Addr)(s:Shared)(H:Hp)(fp:List Addr)(pins:List (Addr×Obj)):Cx where
 prog:=X.prog
 w:=X.w
 K:=X.K
 mg:=X.mg
 base:=X.base
 A:=X.A
 N:=N
 s₀:=s
 H₀:=H
 env:=compEnvC scope cl C X.env
 outer:=X.stack
 stack:=X.stack
 ex:=fp
 fn:=fun x=>scope.names.lookup x==some .cell
 calm:=X.calm
 pn:=X.pn++pins
 xe:=fun _ _=>False
theorem r8 {env:Env}: ∀(names:List (Str×NameKind)),(∀y∈names,y.2= .free→ ∃c,env.cells.lookup y.1=some c)→ ∀cs:List (Str×Addr),(∀x c,cs.lookup x=some c→env.cells.lookup x=some c)→
  ∃cl,(forIn names cs fun(x:Str×NameKind) r=>(do if(x.2==NameKind.free)=true then do let c←cellOf env x.1;pure (ForInStep.yield ((x.1,c)::r))else pure (ForInStep.yield r)):Sem (List (Str×Addr)))=pure cl∧
   (∀x c,cl.lookup x=some c→env.cells.lookup x=some c)∧(∀x c,cs.lookup x=some c→ ∃c',cl.lookup x=some c')∧ ∀y∈names,y.2= .free→ ∃c,cl.lookup y.1=some c
 | [],_,cs,hcs=>⟨cs,rfl,hcs,fun x c h=>⟨c,h⟩,fun y hy=>by simp at hy⟩
 | (n,k)::r,h,cs,hcs=>by
  have hr: ∀y∈r,y.2= .free→ ∃c,env.cells.lookup y.1=some c:=fun y hy=>h y (List.mem_cons_of_mem _ hy)
  by_cases hk:k= .free
  ·subst hk
   obtain⟨c,hc⟩:=h (n,.free) List.mem_cons_self rfl
   have e1:cellOf env n=pure c:=by unfold cellOf;rw[hc]
   have hcs': ∀x c',List.lookup x ((n,c)::cs)=some c'→env.cells.lookup x=some c':=fun x c' q=>by
    rw[List.lookup_cons]at q
    split at q
    ·rename_i e
     have:x=n:=by simpa using e
     subst this
     cases q;exact hc
    ·exact hcs x c' q
   obtain⟨cl,h1,h2,h3,h4⟩:=r8 r hr ((n,c)::cs) hcs'
   have hn: ∃c',cl.lookup n=some c':=h3 n c (by rw[List.lookup_cons];simp)
   refine⟨cl,?_,h2,fun x c' q=> ?_,fun y hy hf=> ?_⟩
   ·rw[List.forIn_cons]
    show(do let c←cellOf env n;pure (ForInStep.yield ((n,c)::cs))) >>= _=_
    rw[e1]
    exact h1
   ·by_cases z:x=n
    ·subst z;exact hn
    ·refine h3 x c' ?_
     rw[List.lookup_cons]
     have:(x==n)=false:=by simpa using z
     rw[this];exact q
   ·rcases List.mem_cons.mp hy with rfl|hy
    ·exact hn
    ·exact h4 y hy hf
  ·obtain⟨cl,h1,h2,h3,h4⟩:=r8 r hr cs hcs
   refine⟨cl,?_,h2,h3,fun y hy hf=> ?_⟩
   ·rw[List.forIn_cons]
    have:(k==NameKind.free)=false:=by simpa using hk
    show(if(k==NameKind.free)=true then _ else _) >>= _=_
    rw[this]
    exact h1
   ·rcases List.mem_cons.mp hy with rfl|hy
    ·exact absurd hf hk
    ·exact h4 y hy hf
structure dX (env:Env)(XN N:List Str)(cap:List (Option Nat))(scope:Scope):Prop where
 kind:scope.kind= .function
 owns: ∀y∈scope.names,y.2= .cell→scope.names.lookup y.1=some .cell
 freeK: ∀y∈scope.names,y.2= .free→scope.names.lookup y.1=some .free
 names: ∀y∈scope.names,y.2= .local→scope.names.lookup y.1=some .local
 frees: ∀y∈scope.names,y.2= .free→env.kindOf y.1=some .cell∨env.kindOf y.1=some .free
 caps: ∀(i j:Nat) (x:Str),N[i]? =some x→cap[i]? =some (some j)→XN[j]? =some x∧(x,NameKind.free)∈scope.names∧scope.names.lookup x=some .free
 len:cap.length=N.length
def oC (σ:L2.St)(cap:List (Option Nat))(last:Nat)(D:Addr):L2.St:=(cap.map fun c=>c.bind fun j=>(σ[j]?).join).set last (some (.ref D))
theorem sT {env:Env}{x:Str}{k:NameKind}: ∀{names:List (Str×NameKind)},names.lookup x=some k→
  (names.map fun(n,k)=>if(k==NameKind.free&&env.scope.kind== .function&&env.kindOf n==some .cell)then(n,NameKind.cell)else(n,k)).lookup x=
   some (if(k==NameKind.free&&env.scope.kind== .function&&env.kindOf x==some .cell)then NameKind.cell else k)
 | [],h=>by simp at h
 | (n,k')::r,h=>by
  rw[List.map_cons]
  rw[List.lookup_cons]at h
  dsimp only
  by_cases e:(x==n)=true
  ·have e':x=n:=by simpa using e
   subst e'
   rw[e]at h
   cases h
   split<;>simp
  ·have e2:(x==n)=false:=by simpa using e
   rw[e2]at h
   have ih:=sT (env:=env) h
   split
   ·rw[List.lookup_cons,e2];exact ih
   ·rw[List.lookup_cons,e2];exact ih
theorem jS {env:Env}{x:Str}{k:NameKind}: ∀{names:List (Str×NameKind)},(names.map fun(n,k)=>if(k==NameKind.free&&env.scope.kind== .function&&env.kindOf n==some .cell)then(n,NameKind.cell)else(n,k)).lookup x=some k→
  ∃k',names.lookup x=some k'∧(x,k')∈names∧(k=k'∨k'= .free)
 | [],h=>by simp at h
 | (n,k')::r,h=>by
  rw[List.map_cons]at h
  dsimp only at h
  by_cases e:(x==n)=true
  ·have e':x=n:=by simpa using e
   subst e'
   refine⟨k',by rw[List.lookup_cons,e],List.mem_cons_self,?_⟩
   split at h
   ·rename_i c
    right
    simp only[Bool.and_eq_true,beq_iff_eq]at c
    exact c.1.1
   ·rw[List.lookup_cons,e]at h
    cases h;exact .inl rfl
  ·have e2:(x==n)=false:=by simpa using e
   have h':(r.map fun(n,k)=>if(k==NameKind.free&&env.scope.kind== .function&&env.kindOf n==some .cell)then(n,NameKind.cell)else(n,k)).lookup x=some k:=by
    split at h
    ·rw[List.lookup_cons,e2]at h;exact h
    ·rw[List.lookup_cons,e2]at h;exact h
   obtain⟨k2,h1,h2,h3⟩:=jS h'
   exact⟨k2,by rw[List.lookup_cons,e2];exact h1,List.mem_cons_of_mem _ h2,h3⟩
theorem yC {x:Str}{c:Addr}: ∀(names:List (Str×NameKind)) (h:Heap) (acc:List (Str×Addr)),(cellsFrom h.objs.size names acc).lookup x=some c→
  acc.lookup x=some c∨(h.objs.size≤c∧(x,NameKind.cell)∈names∧(pushCells h names).IsCell c none)
 | [],_,_,e=> .inl e
 | (y,k)::r,h,acc,e=>by
  unfold cellsFrom at e
  unfold pushCells
  by_cases hk:(k==NameKind.cell)=true
  ·rw[if_pos hk]at e⊢
   have hk':k= .cell:=by simpa using hk
   have sz:(h.push {cls:= .type "cell",data:= .cell none}).objs.size=h.objs.size+1:=Heap.size_push ..
   rw[←sz]at e
   rcases yC r _ _ e with q| ⟨q1,q2,q3⟩
   ·rw[List.lookup_cons]at q
    split at q
    ·rename_i e1
     have:x=y:=by simpa using e1
     subst this
     cases q
     exact .inr ⟨Nat.le_refl _,by rw[hk'];exact List.mem_cons_self,⟨_,pushCells_keeps _ _ _ _ (Heap.get?_push_size _ rfl),rfl⟩⟩
    ·exact .inl q
   ·exact .inr ⟨by omega,List.mem_cons_of_mem _ q2,q3⟩
  ·rw[if_neg hk]at e⊢
   rcases yC r h acc e with q| ⟨q1,q2,q3⟩
   ·exact .inl q
   ·exact .inr ⟨q1,List.mem_cons_of_mem _ q2,q3⟩
theorem yD: ∀(names:List (Str×NameKind)) (n:Nat) (acc:List (Str×Addr)),(∀x c,acc.lookup x=some c→c<n)→(∀x y c,acc.lookup x=some c→acc.lookup y=some c→x=y)→
  ∀x y c,(cellsFrom n names acc).lookup x=some c→(cellsFrom n names acc).lookup y=some c→x=y
 | [],_,_,_,hi=>hi
 | (z,k)::r,n,acc,hl,hi=>by
  unfold cellsFrom
  by_cases hk:(k==NameKind.cell)=true
  ·rw[if_pos hk]
   refine yD r (n+1) _ (fun x c e=> ?_) (fun x y c e1 e2=> ?_)
   ·rw[List.lookup_cons]at e
    split at e
    ·cases e;exact Nat.lt_succ_self n
    ·exact Nat.lt_succ_of_lt (hl x c e)
   ·rw[List.lookup_cons]at e1 e2
    split at e1
    ·rename_i q1
     cases e1
     split at e2
     ·rename_i q2
      exact(by simpa using q1:x=z).trans (by simpa using q2:y=z).symm
     ·exact absurd (hl y _ e2) (Nat.lt_irrefl _)
    ·split at e2
     ·cases e2
      exact absurd (hl x _ e1) (Nat.lt_irrefl _)
     ·exact hi x y c e1 e2
  ·rw[if_neg hk]
   exact yD r n acc hl hi
theorem n6 {x:Str}{c:Addr}: ∀(names:List (Str×NameKind)) (n:Nat) (acc:List (Str×Addr)),((x,NameKind.cell)∈names∨ ∀c,acc.lookup x=some c→n≤c)→(cellsFrom n names acc).lookup x=some c→n≤c
 | [],_,_,h,e=>by
  rcases h with h|h
  ·simp at h
  ·exact h c e
 | (z,k)::r,n,acc,h,e=>by
  unfold cellsFrom at e
  by_cases hk:(k==NameKind.cell)=true
  ·rw[if_pos hk]at e
   have hk':k= .cell:=by simpa using hk
   rcases h with h|h
   ·rcases List.mem_cons.mp h with h|h
    ·cases h
     have:n≤c:=by
      by_cases q: ∃c',(cellsFrom (n+1) r ((x,n)::acc)).lookup x=some c'∧(x,NameKind.cell)∈r
      ·obtain⟨c',e',m⟩:=q
       have:=n6 (c:=c) r (n+1) _ (.inl m) e
       omega
      ·have nm:(x,NameKind.cell) ∉ r:=fun m=>q ⟨c,e,m⟩
       have:=cells_keep r (n+1) ((x,n)::acc) nm
       rw[this,List.lookup_cons]at e
       simp at e
       exact Nat.le_of_eq e
     exact this
    ·have:=n6 (c:=c) r (n+1) _ (.inl h) e
     omega
   ·by_cases q:(x,NameKind.cell)∈r
    ·have:=n6 (c:=c) r (n+1) _ (.inl q) e
     omega
    ·have:=cells_keep r (n+1) ((z,n)::acc) q
     rw[this,List.lookup_cons]at e
     split at e
     ·cases e;exact Nat.le_refl _
     ·exact h c e
  ·rw[if_neg hk]at e
   refine n6 (c:=c) r n acc (h.imp (fun m=> ?_) id) e
   rcases List.mem_cons.mp m with m|m
   ·cases m;exact absurd (by decide) hk
   ·exact m
where
 cells_keep {x:Str}: ∀(names:List (Str×NameKind)) (n:Nat) (acc:List (Str×Addr)),(x,NameKind.cell) ∉ names→(cellsFrom n names acc).lookup x=acc.lookup x
 | [],_,_,_=>rfl
 | (z,k)::r,n,acc,h=>by
  unfold cellsFrom
  by_cases hk:(k==NameKind.cell)=true
  ·rw[if_pos hk]
   have hk':k= .cell:=by simpa using hk
   rw[cells_keep r (n+1) _ fun m=>h (List.mem_cons_of_mem _ m),List.lookup_cons]
   split
   ·rename_i e
    have:x=z:=by simpa using e
    subst this
    exact absurd (by rw[hk'];exact List.mem_cons_self) h
   ·rfl
  ·rw[if_neg hk]
   exact cells_keep r n acc fun m=>h (List.mem_cons_of_mem _ m)
theorem cells_keep {x:Str}(names:List (Str×NameKind))(n:Nat)(acc:List (Str×Addr))(h:(x,NameKind.cell) ∉ names):(cellsFrom n names acc).lookup x=acc.lookup x:=n6.cells_keep names n acc h
theorem aQ5 {M:Model}{A:Around}{E:Value→Shared→Prop}{s:Shared}{scope:Scope}{globals:Addr}{cl:List (Str×Addr)}{qual:Str}{env0:Env}{Q:Env→Shared→Prop}
  (hQ:Q {scope:=scope,locals:=s.heap.objs.size,globals:=globals,cells:=cellsFrom (s.heap.objs.size+1) scope.names cl,qual:=qual,func:=none,code:=env0.code,frame:=env0.frame,builtins:=env0.builtins} {s with heap:=pushCells (s.heap.push {cls:= .type "dict",data:= .dict #[]}) scope.names}) :
  wpAny M A (newFunctionEnv scope globals cl [] qual none .none (some env0)) Q E s:=by
 simp only[newFunctionEnv,Option.isSome_some,if_true]
 refine wpAny_bind (wpAny_alloc ?_)
 refine wpAny_bind (wpAny_layCells _ (fun name kind cells=>by cases hkc:kind==NameKind.cell<;>simp[hkc]) _ _ _ _ ?_)
 rw[show({s with heap:=s.heap.push {cls:= .type "dict",data:= .dict #[]}}:Shared).heap.objs.size=s.heap.objs.size+1 from Heap.size_push ..]
 rw[List.forIn_nil]
 exact wpAny_bind (wpAny_pure (wpAny_pure hQ))
section
variable {X:Cx}{pins:List (Addr×Obj)}{σ:L2.St}{H:Hp}{s:Shared}{N:List Str}{cap:List (Option Nat)}{scope:Scope}
theorem aX3 {fp:List Addr}{last:Nat}{D:Addr}{cl0 cl:List (Str×Addr)}{h1:Heap}{m0:Str→Option Value}{tk:Nat}(S:dX X.env X.N N cap scope)(I:Inv X pins σ H s)(hf: ∀b∈fp,xZ X pins H b)(hfs: ∀b∈fp,b<s.heap.objs.size)
  (hcl: ∀x c,cl0.lookup x=some c→X.env.cells.lookup x=some c) (hcl2: ∀y∈scope.names,y.2= .free→ ∃c,cl0.lookup y.1=some c) (hN: ∀x,N[last]? =some x→scope.names.lookup x=none)
  (hns:h1.Ns s.heap.objs.size m0) (hk: ∀b o,s.heap.get? b=some o→h1.get? b=some o)
  (c1: ∀x c,cl.lookup x=some c→cl0.lookup x=some c∨(s.heap.objs.size<c∧h1.IsCell c none)) (c2: ∀x y c,cl.lookup x=some c→cl.lookup y=some c→x=y)
  (c3: ∀x,(x,NameKind.free)∈scope.names→cl.lookup x=cl0.lookup x) (c4: ∀x,scope.names.lookup x=some .cell→ ∃c,cl.lookup x=some c) (c5: ∀x c,scope.names.lookup x=some .cell→cl.lookup x=some c→s.heap.objs.size≤c) :
  Inv (bQ X N scope cl s.heap.objs.size s H fp pins) [] (oC σ cap last D) H {s with heap:=h1,toks:=tk}:=by
 have sz:X.base.objs.size≤s.heap.objs.size:=Nat.le_trans I.ok.bsz I.sz
 have kindF: ∀x,(bQ X N scope cl s.heap.objs.size s H fp pins).env.kindOf x=some .cell∨(bQ X N scope cl s.heap.objs.size s H fp pins).env.kindOf x=some .free→(x,NameKind.free)∈scope.names∨scope.names.lookup x=some .cell:=fun x h=>by
  have: ∃k,(k= .cell∨k= .free)∧(relabel scope X.env).names.lookup x=some k:=by
   rcases h with h|h
   ·exact⟨_,.inl rfl,h⟩
   ·exact⟨_,.inr rfl,h⟩
  obtain⟨k,hk,h⟩:=this
  obtain⟨k',h1,h2,h3⟩:=jS h
  rcases h3 with rfl|rfl
  ·rcases hk with rfl|rfl
   ·exact .inr (S.owns _ h2 rfl)
   ·exact .inl h2
  ·exact .inl h2
 have cne: ∀x c,cl.lookup x=some c→ ∀b∈fp,c≠b:=fun x c h b hb=>by
  rcases c1 x c h with q| ⟨q,_⟩
  ·exact(hf b hb).2.2.2.2.1 x c (hcl x c q)
  ·exact fun z=>by subst z;exact absurd (Nat.lt_trans q (hfs c hb)) (Nat.lt_irrefl _)
 refine⟨⟨I.ok.mod,S.kind,I.ok.glob,I.ok.blt,Nat.le_refl _,c2,fun x h=> ?_,fun x c h e=> ?_,I.ok.hd,I.ok.frames,.inl rfl,fun b hb=> ?_,I.bs,sz,fun b o e hb=> ?_,fun b hb=> ?_,I.stack,I.stkFree⟩,
  rfl,I.bare,Un.kept hk,⟨m0,hns,fun i x v e1 e2 e3=> ?_⟩,fun x c h=> ?_,I.hok.fresh (Nat.le_refl _),fun x c h=> ?_,fun p hp=> ?_,I.hok.kept hk,?_⟩
 ·rcases kindF x h with q|q
  ·obtain⟨c,e⟩:=hcl2 _ q rfl
   exact⟨c,(c3 x q).trans e⟩
  ·exact c4 x q
 ·exact c5 x c (by simpa using(show(scope.names.lookup x==some NameKind.cell)=true from h)) e
 ·exact⟨Nat.ne_of_lt (hfs b hb),fun x c h=>cne x c h b hb⟩
 ·rcases(hf b hb).2.2.2.1 with z|z
  ·exact I.ok.noex b o e z
  ·have:=Heap.lt_size e
   exact absurd (Nat.lt_of_lt_of_le this (Nat.le_trans I.ok.bsz z)) (Nat.lt_irrefl _)
 ·intro z
  rcases List.mem_cons.mp (I.stkSub b z)with z|z
  ·exact(hf b hb).2.1 z
  ·exact(hf b hb).2.2.1 z
 ·have e1':N[i]? =some x:=e1
  unfold oC at e2
  by_cases hl:last=i
  ·subst hl
   have z:=hN x e1'
   rcases e3 with e3|e3|e3
   ·obtain⟨k',h1,_⟩:=jS (show(relabel scope X.env).names.lookup x=_ from e3)
    rw[z]at h1;cases h1
   ·obtain⟨k',h1,_⟩:=jS (show(relabel scope X.env).names.lookup x=_ from e3)
    rw[z]at h1;cases h1
   ·obtain⟨k',h1,_⟩:=jS (show(relabel scope X.env).names.lookup x=_ from e3)
    rw[z]at h1;cases h1
  ·rw[M.get_set_ne hl,List.getElem?_map]at e2
   cases e4:cap[i]? with
   | none=>rw[e4]at e2;cases e2
   | some c=>
    rw[e4]at e2
    cases c with
    | none=>cases e2
    | some j=>
     have e2':(σ[j]?).join=some v:=by simpa using e2
     have e5:σ[j]? =some (some v):=by
      cases q:σ[j]? with
      | none=>rw[q]at e2';cases e2'
      | some w=>rw[q]at e2';cases w with
       | none=>cases e2'
       | some w'=>cases e2';rfl
     obtain⟨a1,a2,a3⟩:=S.caps i j x e1' e4
     have kx:=S.frees _ a2 rfl
     obtain⟨m,hn,hl'⟩:=I.loc
     have vis:Vis X.env.scope x:=by
      rcases kx with kx|kx
      ·exact .inr (.inl kx)
      ·exact .inr (.inr kx)
     obtain⟨u,r,l⟩:=hl' j x v a1 e5 vis
     refine⟨u,r,.inr ⟨?_,?_⟩⟩
     ·have q:=sT (env:=X.env) a3
      show(relabel scope X.env).names.lookup x=_∨(relabel scope X.env).names.lookup x=_
      unfold relabel
      dsimp only
      rw[q]
      split
      ·exact .inl rfl
      ·exact .inr rfl
     ·rcases l with⟨l,_⟩| ⟨_,c,hc,hcell⟩
      ·rcases kx with kx|kx<;>·rw[kx]at l;cases l
      ·obtain⟨c',hc'⟩:=hcl2 _ a2 rfl
       have:=hcl x c' hc'
       rw[hc]at this;cases this
       obtain⟨o,ho,hd⟩:=hcell
       exact⟨c,(c3 x a2).trans hc',o,hk _ _ ho,hd⟩
 ·rcases c1 x c h with q| ⟨_,q⟩
  ·obtain⟨v,o,ho,hd⟩:=I.cell x c (hcl x c q)
   exact⟨v,o,hk _ _ ho,hd⟩
  ·exact⟨_,q⟩
 ·rcases c1 x c h with q| ⟨q,_⟩
  ·exact I.freeC x c (hcl x c q)
  ·exact I.hok.fresh (Nat.le_of_lt q)
 ·have hp':p∈X.pn++pins:=by
   have:p∈(X.pn++pins)++[]:=hp
   simpa using this
  obtain⟨a1,a2,a3,a4,a5⟩:=I.pin p hp'
  refine⟨hk _ _ a1,a2,Nat.ne_of_lt (Heap.lt_size a1),fun z=> ?_,a5⟩
  rcases List.mem_cons.mp (I.stkSub p.1 z)with z|z
  ·exact a3 z
  ·exact a4 z
 ·unfold oC
  rw[List.length_set,List.length_map]
  exact S.len
theorem aK8 {fp:List Addr}{cl:List (Str×Addr)}{C:Addr}{σ':L2.St}{H':Hp}{s':Shared}{h2:Heap}{pins':List (Addr×Obj)}(I:Inv X pins σ H s)(hf: ∀b∈fp,xZ X pins H b)(hC:s.heap.objs.size≤C)
  (I':Inv (bQ X N scope cl C s H fp pins) pins' σ' H' s') (hs:Heap.SameBut C s'.heap h2):Inv X pins σ H' {s' with heap:=h2}:=by
 have nC: ∀b o,s.heap.get? b=some o→b≠C:=fun b o e z=>by
  subst z
  exact absurd (Nat.lt_of_lt_of_le (Heap.lt_size e) hC) (Nat.lt_irrefl _)
 have get: ∀b,b≠C→h2.get? b=s'.heap.get? b:=fun b hb=>hs.2 b hb
 have U:=I'.base
 have u:Un (frs X.stack) fp H H' s.heap h2:=by
  refine⟨fun b o e n h1 hx=> ?_,fun b o e n h1 hx=> ?_,U.free,fun b o e hx=> ?_,U.tups,U.frzs,U.tbls⟩
  ·rw[get b (nC b o e)];exact U.keep b o e n h1 hx
  ·rw[get b (nC b o e)];exact U.slot b o e n h1 hx
  ·rw[get b (nC b o e)];exact U.there b o e hx
 have fC:H' C=none:=I'.free
 have hok:HOk X.prog X.w H' h2:=fun a o e=>by
  have na:a≠C:=fun z=>by subst z;rw[fC]at e;cases e
  refine(I'.hok a o e).stay (fun b u hb q=> ?_) (fun _ q=>q) fun _ _ q=>q
  have nb:b≠C:=by
   rcases hb with rfl|hb
   ·exact na
   ·exact fun z=>by subst z;rw[fC]at hb;cases hb
  rw[get b nb];exact q
 obtain⟨hh,gg,dd,tt,oo⟩:=s'
 have eo:oo=s.os:=I'.os
 subst eo
 have fin:=I.call (h':=h2) (g':=gg) (d':=dd) (t':=tt) (ch:=fp) u hok I'.bare fun b hb=>⟨(hf b hb).2.2.2.1,(hf b hb).2.1,(hf b hb).2.2.2.2.1,(hf b hb).2.2.2.2.2⟩
 exact fin
end
theorem sU {prog:Program}{w:World}{A:Around}{R:Result→Shared→Prop}{s:Shared}{elt target iter:Expr}{ifs:List Expr}{scope:Scope}{pos:Pos}{it acc:Value}{env:Env}(I:Nat→Shared→Prop)
  (turn: ∀n s,I n s→wpAny (model prog w) A (pyNext it) (fun r s₁=>match r with
   | none=>R (.ok .next) s₁
   | some v=>wpAny (model prog w) A (letOwnedTupleGo target it v) (fun _ s₂=>wpAny (model prog w) A (assign target env v) (fun _ s₂=>
     wpAny (model prog w) A (forIn ifs true fun c r=>if r=true then do let ok←isTrue c env (eval c env);pure (ForInStep.yield ok)else pure (ForInStep.yield r)) (fun ok s₃=>
      if ok=true then wpAny (model prog w) A (eval elt env) (fun x s₄=>
       wpAny (model prog w) A (call (.builtin "list.append") [acc,x]) (fun _ s₅=> ∃m,m<n∧I m s₅) (notedBy (model prog w) A env fun e s'=>R (.error e) s') s₄) (notedBy (model prog w) A env fun e s'=>R (.error e) s') s₃
      else ∃m,m<n∧I m s₃) (notedBy (model prog w) A env fun e s'=>R (.error e) s') s₂) (notedBy (model prog w) A env fun e s'=>R (.error e) s') s₂) (notedBy (model prog w) A env fun e s'=>R (.error e) s') s₁) (notedBy (model prog w) A env fun e s'=>R (.error e) s') s)
  (n:Nat) (h:I n s):codeAny (model prog w) A (.compLoop (.ListComp elt [⟨target,iter,ifs,0⟩] scope pos) 0 it acc env) R s:=by
 refine codeAny_loop rfl I (fun n s hI=> ?_) n h
 show wpAny _ A ((compTurn (.ListComp elt [⟨target,iter,ifs,0⟩] scope pos) 0 it acc env).onRaise (fun x=>do noteFrame x env;theTreesLotGoes x)) _ _ s
 refine wpAny_noted ?_
 rw[compTurn_list]
 refine wpAny_bind (wpAny_standAt (wpAny_bind (wpAny_mono (turn n s hI) (fun r s₁ h₁=> ?_) fun _ _ h'=>h')))
 cases r with
 | none=>exact wpAny_pure h₁
 | some v=>
  refine wpAny_bind (wpAny_mono h₁ (fun _ s₂ h₂=>wpAny_bind (wpAny_mono h₂ (fun _ s₂ h₂=>wpAny_bind (wpAny_mono h₂ (fun ok s₃ h₃=> ?_) fun _ _ h'=>h')) fun _ _ h'=>h')) fun _ _ h'=>h')
  cases ok with
  | false=>exact wpAny_pure ⟨rfl,h₃⟩
  | true=>
   exact wpAny_bind (wpAny_bind (wpAny_mono h₃ (fun x s₄ h₄=>wpAny_bind (wpAny_mono h₄ (fun _ s₅ h₅=>wpAny_pure (wpAny_pure ⟨rfl,h₅⟩)) fun _ _ h'=>h')) fun _ _ h'=>h'))
def PTs (X:Cx)(ifs:List Expr)(t:TT):Prop:=
 ∀(pins:List (Addr×Obj)) (s:Shared) (σ:L2.St) (H:Hp) (Q:Bool→Hp→Prop),Inv X pins σ H s→t σ H Q→
  wpAny (model X.prog X.w) X.A (forIn ifs true fun c r=>if r=true then do let ok←isTrue c X.env (eval c X.env);pure (ForInStep.yield ok)else pure (ForInStep.yield r)) (TP X pins σ Q) X.xe s
theorem c76 {X:Cx}:PTs X [] (fun _ H Q=>Q true H):=fun pins s σ H Q I h=>wpAny_tests_nil ⟨H,I,h⟩
theorem c77 {X:Cx}{c:Expr}{t:TT}(h:PT X c t):PTs X [c] t:=fun pins s σ H Q I q=>wpAny_tests_one (h pins s σ H Q I q)
def bC0 (cap:List (Option Nat))(last:Nat)(wi:TI)(g:TG)(tt:TT)(te:TE):TE:=fun σ H Q=>wi σ H fun J H1=> ∀D,H1 D=none→ ∃W:Nat→Nat→L2.St→Hp→Prop,(∃m,W 0 m (oC σ cap last D) (upd H1 D (.lst [])))∧ ∀i m σ' H',W i m σ' H'→
 (J.stop i H'∧Q (.ref D) H')∨(J.go i H'∧ ∃Nx:L2.St→Hp→Prop,(∀σ2 H2,Nx σ2 H2→ ∃m',m'<m∧W (i+1) m' σ2 H2)∧ ∀x H2,J.yld i H' x H2→g x σ' H2 fun σ3 H3=>tt σ3 H3 fun c H4=>
  if c=true then te σ3 H4 fun y H5=> ∃ys,H5 D=some (.lst ys)∧ys.length<sizeLine∧Nx σ3 (upd H5 D (.lst (ys++[y])))else Nx σ3 H4)
theorem aK9 {X:Cx}{RR:Value→Addr→Result→Shared→Prop}{elt iter tg:Expr}{ifs:List Expr}{scope:Scope}{pos:Pos}{N:List Str}{cap:List (Option Nat)}{last:Nat}{wi:TI}{g:TG}{tt:TT}{te:TE}(hc:X.calm=true)(hi:PI X tg iter wi)(S:dX X.env X.N N cap scope)
  (hN: ∀x,N[last]? =some x→scope.names.lookup x=none)
  (hg: ∀cl C s H fp pins,PG (bQ X N scope cl C s H fp pins) tg g) (ht: ∀cl C s H fp pins,PTs (bQ X N scope cl C s H fp pins) ifs tt) (he: ∀cl C s H fp pins,PE (bQ X N scope cl C s H fp pins) elt te)
  {pins:List (Addr×Obj)} {s:Shared} {σ:L2.St} {H:Hp} {Q:VK} {cl:List (Str×Addr)} (I:Inv X pins σ H s) (h:bC0 cap last wi g tt te σ H Q) (hcl: ∀x c,cl.lookup x=some c→X.env.cells.lookup x=some c) (hcl2: ∀y∈scope.names,y.2= .free→ ∃c,cl.lookup y.1=some c)
  (fin: ∀(D:Addr) (fp:List Addr) (H3:Hp) (s3:Shared) (σ':L2.St) (H':Hp) (s':Shared),Inv X pins σ H3 s3→(∀b∈fp,xZ X pins H3 b)→Inv (bQ X N scope (cellsFrom (s3.heap.objs.size+1) scope.names cl) s3.heap.objs.size s3 H3 fp pins) [] σ' H' s'→Q (.ref D) H'→RR (.ref D) s3.heap.objs.size (.ok .next) s') :
  wpAny (model X.prog X.w) X.A (eval iter X.env) (fun x s₁=>wpAny (model X.prog X.w) X.A (pyIter x) (fun it s₂=>wpAny (model X.prog X.w) X.A (newList []) (fun acc s₃=>
   wpAny (model X.prog X.w) X.A (newFunctionEnv scope X.env.globals cl [] X.env.qual none .none (some X.env)) (fun cenv s₄=>
    codeAny (model X.prog X.w) X.A (.compStart (.ListComp elt [⟨tg,iter,ifs,0⟩] scope pos) 0 it acc {cenv with scope:=relabel scope X.env}) (RR acc cenv.locals) s₄) X.xe s₃) X.xe s₂) X.xe s₁) X.xe s:=by
 refine thn (hi pins s σ H _ I h) fun xv s1 h1=>thn h1 fun it s2 h2=> ?_
 obtain⟨ita,fp,tn,J,H2,rfl,I2,T,st2,f2,q⟩:=h2
 refine wpAny_newObj_type ?_ (by show 0≤sizeLine;decide)
 have fD:H2 s2.heap.objs.size=none:=I2.hok.fresh (Nat.le_refl _)
 obtain⟨W,⟨m0,w0⟩,turn⟩:=q s2.heap.objs.size fD
 have I3:Inv X pins σ (upd H2 s2.heap.objs.size (.lst [])) {s2 with heap:=s2.heap.push {cls:= .type "list",data:= .seq ([]:List Value).toArray}}:=I2.lnew (t':=s2.toks) .nil (Nat.zero_le _)
 have fpne: ∀b∈fp,b≠s2.heap.objs.size:=fun b hb=>by
  obtain⟨o,ho,_⟩:=T.obj 0 _ st2 b hb
  exact Nat.ne_of_lt (Heap.lt_size ho)
 have f3: ∀b∈fp,xZ X pins (upd H2 s2.heap.objs.size (.lst [])) b:=fun b hb=>⟨by rw[cB (fpne b hb)];exact(f2 b hb).1,(f2 b hb).2⟩
 have k23: ∀b o,s2.heap.get? b=some o→(s2.heap.push {cls:= .type "list",data:= .seq ([]:List Value).toArray}).get? b=some o:=fun b o e=>Heap.get?_push_of_some _ e
 have st3:tn 0 (s2.heap.push {cls:= .type "list",data:= .seq ([]:List Value).toArray}):=T.keep 0 _ _ st2 fun b hb o e=>k23 b o e
 have fps: ∀b∈fp,b< (s2.heap.push {cls:= .type "list",data:= .seq ([]:List Value).toArray}).objs.size:=fun b hb=>by
  obtain⟨o,ho,_⟩:=T.obj 0 _ st3 b hb
  exact Heap.lt_size ho
 generalize hS3:({s2 with heap:=s2.heap.push {cls:= .type "list",data:= .seq ([]:List Value).toArray}}:Shared)=s3 at I3
 have hh3:s3.heap=s2.heap.push {cls:= .type "list",data:= .seq ([]:List Value).toArray}:=by rw[←hS3]
 rw[←hh3]at st3 fps
 refine aQ5 ?_
 have sz3:(s3.heap.push {cls:= .type "dict",data:= .dict #[]}).objs.size=s3.heap.objs.size+1:=Heap.size_push ..
 have hns₁:(pushCells (s3.heap.push {cls:= .type "dict",data:= .dict #[]}) scope.names).Ns s3.heap.objs.size (fun _=>none):=(Heap.Ns.new s3.heap (.type "dict")).keeps (pushCells_keeps _ _)
 have k34: ∀b o,s3.heap.get? b=some o→(pushCells (s3.heap.push {cls:= .type "dict",data:= .dict #[]}) scope.names).get? b=some o:=fun b o e=>pushCells_keeps _ _ _ _ (Heap.get?_push_of_some _ e)
 have I4:=aX3 (tk:=s3.toks) (last:=last) (D:=s2.heap.objs.size) (cl:=cellsFrom (s3.heap.objs.size+1) scope.names cl) S I3 f3 fps hcl hcl2 hN hns₁ k34
  (fun x c e=>by
   rw[←sz3]at e
   rcases yC _ _ _ e with q| ⟨q1,_,q3⟩
   ·exact .inl q
   ·exact .inr ⟨by omega,q3⟩)
  (yD _ _ _ (fun x c e=>by
   obtain⟨v,q⟩:=I3.cell x c (hcl x c e)
   exact Nat.lt_succ_of_lt q.lt) fun x y c e1 e2=>I3.ok.inj x y c (hcl x c e1) (hcl y c e2))
  (fun x m=>cells_keep _ _ _ fun m'=>by
   have h1:=S.owns _ m' rfl
   have h2:=S.freeK _ m rfl
   rw[h1]at h2;cases h2)
  (fun x e=>Option.isSome_iff_exists.mp (PySem.W.cellsFrom_some _ _ _ (.inl e)))
  (fun x c e1 e2=>by
   have:=n6 scope.names (s3.heap.objs.size+1) cl (.inl (PySem.mem_of_lookup e1)) e2
   omega)
 have st4:tn 0 (pushCells (s3.heap.push {cls:= .type "dict",data:= .dict #[]}) scope.names):=T.keep 0 _ _ st3 fun b hb o e=>k34 b o e
 generalize hcl':cellsFrom (s3.heap.objs.size+1) scope.names cl=cl' at I4
 have loop:codeAny (model X.prog X.w) X.A (.compLoop (.ListComp elt [⟨tg,iter,ifs,0⟩] scope pos) 0 (.ref ita) (.ref s2.heap.objs.size) (compEnvC scope cl' s3.heap.objs.size X.env))
   (RR (.ref s2.heap.objs.size) s3.heap.objs.size) {s3 with heap:=pushCells (s3.heap.push {cls:= .type "dict",data:= .dict #[]}) scope.names,toks:=s3.toks}:=by
  have stat: ∀{H':Hp},(∀b∈fp,H' b=none)→ ∀b∈fp,xZ (bQ X N scope cl' s3.heap.objs.size s3 (upd H2 s2.heap.objs.size (.lst [])) fp pins) [] H' b:=fun {H'} hn b hb=>by
   refine⟨hn b hb,Nat.ne_of_lt (fps b hb),fun z=> ?_,.inl hb,fun x c e=>(I4.ok.exf b hb).2 x c e,fun p hp=> ?_⟩
   ·rcases List.mem_cons.mp (I3.stkSub b z)with z|z
    ·exact(f3 b hb).2.1 z
    ·exact(f3 b hb).2.2.1 z
   ·have:p∈(X.pn++pins)++[]:=hp
    exact(f3 b hb).2.2.2.2.2 p (by simpa using this)
  have hcb:(bQ X N scope cl' s3.heap.objs.size s3 (upd H2 s2.heap.objs.size (.lst [])) fp pins).calm=true:=hc
  refine sU (fun n s'=> ∃i σ' H',Inv (bQ X N scope cl' s3.heap.objs.size s3 (upd H2 s2.heap.objs.size (.lst [])) fp pins) [] σ' H' s'∧tn i s'.heap∧(∀b∈fp,H' b=none)∧W i n σ' H') ?_ m0 ⟨0,_,_,I4,st4,fun b hb=>(f3 b hb).1,w0⟩
  rintro n s5 ⟨i,σ5,H5,I5,st5,fr5,w5⟩
  rcases turn i n σ5 H5 w5 with⟨stop,qn⟩| ⟨go,Nx,hNx,step⟩
  ·refine wpAny_mono (T.done (bQ X N scope cl' s3.heap.objs.size s3 (upd H2 s2.heap.objs.size (.lst [])) fp pins) rfl rfl rfl hcb i [] s5 σ5 H5 (fun _ _=>False) I5 (stat fr5) st5 stop) (fun r s6 hr=> ?_) (fun _ _ z=>z.elim)
   obtain⟨rfl,I6⟩:=hr
   exact fin _ fp _ s3 σ5 H5 s6 I3 f3 (hcl'▸I6) qn
  ·refine wpAny_mono (T.item (bQ X N scope cl' s3.heap.objs.size s3 (upd H2 s2.heap.objs.size (.lst [])) fp pins) rfl rfl rfl hcb i [] s5 σ5 H5 (fun _ _=>False) I5 (stat fr5) st5 go) (fun r s6 hr=> ?_) (fun _ _ z=>z.elim)
   obtain⟨u,rfl,h6⟩:=hr
   refine wpAny_mono h6 (fun _ s7 h7=> ?_) (fun _ _ z=>z.elim)
   obtain⟨x,H7,I7,r7,y7,st7,fr7⟩:=h7
   have I7':=I7.pinned (stat fr7) (T.obj _ _ st7)
   refine wpAny_mono (hg _ _ _ _ _ _ _ s7 σ5 H7 x u _ I7' r7 (step x H7 y7)) (fun _ s8 h8=> ?_) (fun _ _ z=>False.elim z)
   obtain⟨σ8,H8,I8,q8⟩:=h8
   have again: ∀{σ9:L2.St} {H9:Hp} {s9:Shared},Inv (bQ X N scope cl' s3.heap.objs.size s3 (upd H2 s2.heap.objs.size (.lst [])) fp pins) ([]++a80 fp s7.heap) σ9 H9 s9→Nx σ9 H9→ ∃m,m<n∧ ∃i σ' H',Inv (bQ X N scope cl' s3.heap.objs.size s3 (upd H2 s2.heap.objs.size (.lst [])) fp pins) [] σ' H' s9∧tn i s9.heap∧(∀b∈fp,H' b=none)∧W i m σ' H':=fun {σ9 H9 s9} I9 n9=>by
    obtain⟨m',hm,w9⟩:=hNx σ9 H9 n9
    refine⟨m',hm,i+1,σ9,H9,I9.unpinned,T.keep _ _ _ st7 fun b hb o e=>(I9.pin (b,o) (List.mem_append_right _ (List.mem_append_right _ (qX hb e)))).1,fun b hb=> ?_,w9⟩
    obtain⟨o,e,d⟩:=T.obj _ _ st7 b hb
    exact(I9.pin (b,o) (List.mem_append_right _ (List.mem_append_right _ (qX hb e)))).2.1
   refine wpAny_mono (ht _ _ _ _ _ _ _ s8 σ8 H8 _ I8 q8) (fun c s9 h9=> ?_) (fun _ _ z=>False.elim z)
   obtain⟨H9,I9,q9⟩:=h9
   cases c with
   | false=>exact again I9 q9
   | true=>
    rw[if_pos rfl]at q9⊢
    refine wpAny_mono (he _ _ _ _ _ _ _ s9 σ8 H9 _ I9 q9) (fun v s10 h10=> ?_) (fun _ _ z=>False.elim z)
    obtain⟨y,H10,I10,r10,ys,e10,z10,q10⟩:=h10
    refine wpAny_mono (aK0 (X:=(bQ X N scope cl' s3.heap.objs.size s3 (upd H2 s2.heap.objs.size (.lst [])) fp pins)) _ s10 σ8 H10 (.ref s2.heap.objs.size) [y] (.ref s2.heap.objs.size) [v] (fun v H=>v= .non∧Nx σ8 H) I10 rfl (.cons r10 .nil) ⟨_,ys,y,rfl,rfl,e10,z10,rfl,q10⟩) (fun _ s11 h11=> ?_) (fun _ _ z=>False.elim z)
    obtain⟨_,H11,I11,_,_,q11⟩:=h11
    exact again I11 q11
 exact codeAny_compStart_list loop (T.self _ 0 _ _ _ st4 loop)
theorem vE {X:Cx}{N:List Str}{cap:List (Option Nat)}{scope:Scope}{pins:List (Addr×Obj)}{s:Shared}{σ:L2.St}{H:Hp}(S:dX X.env X.N N cap scope)(I:Inv X pins σ H s) :
  ∃cl,closureFor scope X.env=pure cl∧(∀x c,cl.lookup x=some c→X.env.cells.lookup x=some c)∧ ∀y∈scope.names,y.2= .free→ ∃c,cl.lookup y.1=some c:=by
 obtain⟨cl,h1,h2,_,h4⟩:=r8 (env:=X.env) scope.names (fun y hy hf=>I.ok.has y.1 (S.frees y hy hf)) [] (fun x c q=>by simp at q)
 refine⟨cl,?_,h2,h4⟩
 have e:closureFor scope X.env=(forIn scope.names [] fun(x:Str×NameKind) r=>(do if(x.2==NameKind.free)=true then do let c←cellOf X.env x.1;pure (ForInStep.yield ((x.1,c)::r))else pure (ForInStep.yield r)):Sem (List (Str×Addr))) >>= fun r=>pure r:=by
  rfl
 rw[e,h1]
 rfl
theorem c78 {X:Cx}{elt iter tg:Expr}{ifs:List Expr}{scope:Scope}{pos:Pos}{N:List Str}{cap:List (Option Nat)}{last:Nat}{wi:TI}{g:TG}{tt:TT}{te:TE}(hc:X.calm=true)(hi:PI X tg iter wi)(S:dX X.env X.N N cap scope)
  (hN: ∀x,N[last]? =some x→scope.names.lookup x=none)
  (hg: ∀cl C s H fp pins,PG (bQ X N scope cl C s H fp pins) tg g) (ht: ∀cl C s H fp pins,PTs (bQ X N scope cl C s H fp pins) ifs tt) (he: ∀cl C s H fp pins,PE (bQ X N scope cl C s H fp pins) elt te)
  (hs: ∀x,foldedSetIterable iter X.env x=pure x:=by intro _;rfl):PE X (.ListComp elt [⟨tg,iter,ifs,0⟩] scope pos) (bC0 cap last wi g tt te):=by
 intro pins s σ H Q I h
 rw[eval_ListComp]
 obtain⟨cl,hcl0,hcl,hcl2⟩:=vE S I
 refine wpAny_comprehension_free (use:=none) rfl hs hcl0 S.kind S.names ?_
 refine aK9 (RR:=fun acc C=>compPost (model X.prog X.w) X.A X.xe none (EP X pins σ Q) acc C) hc hi S hN hg ht he I h hcl hcl2 fun D fp H3 s3 σ' H' s' I3 f3 I' q=> ?_
 obtain⟨m6,hn6,_⟩:=I'.loc
 exact⟨m6,hn6,fun h' hs'=>⟨.ref D,H',aK8 I3 f3 (Nat.le_refl _) I' hs',rfl,q⟩⟩
theorem b57 {X:Cx}{elt iter tg:Expr}{ifs:List Expr}{scope:Scope}{pos spos py:Pos}{y:Str}{i:Nat}{N:List Str}{cap:List (Option Nat)}{last:Nat}{wi:TI}{g:TG}{tt:TT}{te:TE}(hc:X.calm=true)(hi:PI X tg iter wi)(S:dX X.env X.N N cap scope)
  (hN: ∀x,N[last]? =some x→scope.names.lookup x=none)
  (hg: ∀cl C s H fp pins,PG (bQ X N scope cl C s H fp pins) tg g) (ht: ∀cl C s H fp pins,PTs (bQ X N scope cl C s H fp pins) ifs tt) (he: ∀cl C s H fp pins,PE (bQ X N scope cl C s H fp pins) elt te)
  (hy:PG X (.Name y py) (wQ i)) (hsw:swapsWith (.ListComp elt [⟨tg,iter,ifs,0⟩] scope pos) (some (.Name y py)) spos.line X.env=pure true:=by rfl)
  (hs: ∀x,foldedSetIterable iter X.env x=pure x:=by intro _;rfl):PS X (.Assign [.Name y py] (.ListComp elt [⟨tg,iter,ifs,0⟩] scope pos) spos) (c08 (bC0 cap last wi g tt te) (wQ i)):=by
 intro pins s σ H D I h
 rw[exec_Assign_Name_used _ _ _ _ hsw]
 refine wpAny_bind (wpAny_standAt (wpAny_bind ?_))
 obtain⟨cl,hcl0,hcl,hcl2⟩:=vE S I
 show wpAny _ X.A (do let _←comprehension (.ListComp elt [⟨tg,iter,ifs,0⟩] scope pos) scope X.env _ (newList []) false (eval iter X.env) (some (assign (.Name y py) X.env))) _ _ s
 refine wpAny_bind (wpAny_mono (wpAny_comprehension_free (use:=some (assign (.Name y py) X.env)) (Q:=fun _ s'=>SP X pins D .next s') rfl hs hcl0 S.kind S.names ?_) (fun _ s' hq=>wpAny_pure (wpAny_pure hq)) fun _ _ e=>e)
 refine aK9 (RR:=fun acc C=>compPost (model X.prog X.w) X.A X.xe (some (assign (.Name y py) X.env)) (fun _ s'=>SP X pins D .next s') acc C) hc hi S hN hg ht he I h hcl hcl2 fun D' fp H3 s3 σ' H' s' I3 f3 I' q=> ?_
 obtain⟨m6,hn6,_⟩:=I'.loc
 obtain⟨o6,es6,ep6,ho6,rest6⟩:=id hn6
 have J:Inv X pins σ H' s':=aK8 (h2:=s'.heap) I3 f3 (Nat.le_refl _) I' (.refl ..)
 have fC:H' s3.heap.objs.size=none:=I'.free
 have neL:s3.heap.objs.size≠X.env.locals:=Nat.ne_of_gt I3.lt
 have neF:s3.heap.objs.size ∉ X.fs:=I3.nofs (Nat.le_refl _)
 have neC: ∀x c,X.env.cells.lookup x=some c→c≠s3.heap.objs.size:=fun x c e z=>by
  obtain⟨v,qq⟩:=I3.cell x c e
  exact absurd (Nat.lt_of_lt_of_le qq.lt (by rw[z];exact Nat.le_refl _)) (Nat.lt_irrefl _)
 have neP: ∀p∈X.pn++pins,p.1≠s3.heap.objs.size:=fun p hp z=>by
  have:=Heap.lt_size (I3.pin p hp).1
  rw[z]at this
  exact Nat.lt_irrefl _ this
 have nd: ∀v,o6.data≠ .cell v:=fun v z=>by
  have:o6.data= .dict es6 ep6:=rest6.1
  rw[this]at z;cases z
 have J':Inv X (pins++[(s3.heap.objs.size,o6)]) σ H' s':=J.pins_of fun p hp=>(List.mem_append.mp hp).elim (fun z=>J.pin p (List.mem_append_right _ z)) fun z=>by
  have e:p=(s3.heap.objs.size,o6):=by simpa using z
  subst e
  exact⟨ho6,fC,neL,neF,nd⟩
 show wpAny _ X.A (assign (.Name y py) X.env (.ref D')) _ _ _
 refine thn (hy _ s' σ H' (.ref D') (.ref D') D.nx J' rfl q) fun _ s7 ⟨σ7,H7,I7,q7⟩=> ?_
 obtain⟨e7,n7,_⟩:=I7.pin (s3.heap.objs.size,o6) (List.mem_append_right _ (List.mem_append_right _ (by simp)))
 refine⟨m6,⟨o6,es6,ep6,e7,rest6⟩,fun h' hs'=> ?_⟩
 have I8:=I7.unpinned
 exact⟨σ7,H7,I8.turned (t':=s7.toks) (fun b o hb e=>(hs'.2 b hb).trans e) n7 neL (.inr (Nat.le_trans I3.sz (Nat.le_refl _))) neC neP,q7⟩
end L2
namespace M
open PySem PySem.Spec PyProof.Rows L2
def c79:B→B
 | .pu d=> .pu d
 | .ow l=> .bo l
 | .bo l=> .bo l
def mM (ρ:Ev)(cap:List (Option Nat))(last:Nat):Ev:=(cap.map fun c=>c.bind fun j=>((ρ[j]?).join).map c79).set last (some (.ow []))
def c80 (ρ:Ev)(j:Nat):Ev:=match ρ[j]? with
 | some (some (.ow l))=>ρ.set j (some (.pu (.lst l)))
 | _=>ρ
def vY:Ev→List Nat→Ev
 | ρ,[]=>ρ
 | ρ,j::js=>vY (c80 ρ j) js
theorem bQ6 (ρ:Ev)(j:Nat):Frz ρ (c80 ρ j):=by
 unfold c80
 split
 ·rename_i l e
  exact .set e
 ·exact .refl _
theorem aX4: ∀(js:List Nat) (ρ:Ev),Frz ρ (vY ρ js)
 | [],ρ=> .refl _
 | j::js,ρ=>(bQ6 ρ j).trans (aX4 js _)
def dQ (js:List Nat)(cap:List (Option Nat))(last:Nat)(ui:UI)(g:UG)(tt:UT)(te:UE):UE:=fun ρ Q=>ui ρ fun n it ρ1=> ∃Pv:Nat→Ev→Prop,Pv 0 (mM (vY ρ1 js) cap last)∧
 (∀i ρ',i<n→Pv i ρ'→g (.pu (it i)) ρ' fun ρ2=>tt ρ2 fun c ρ3=>if c=true then te ρ3 fun b ρ4=>mL ρ4 last fun l=>l.length<sizeLine∧Pv (i+1) (ρ4.set last (some (.ow (l++[b.d]))))else Pv (i+1) ρ3)∧
 ∀ρ',Pv n ρ'→mL ρ' last fun l=>Q (.ow l) (vY ρ1 js)
section
variable {X:Cx}{K:PySem.W.Frag}{C:C0}{ρ ρ':Ev}{σ σ':L2.St}{H H':Hp}
theorem cap_ok {cap:List (Option Nat)}{last:Nat}{Dn:Addr}(I:EOk K C ρ σ H)(hl:last<cap.length)(n:H Dn=none) :
  EOk K ⟨H,Av C ρ σ⟩ (mM ρ cap last) (oC σ cap last Dn) (upd H Dn (.lst [])):=by
 have pu: ∀(i:Nat) (z:B),last≠i→(mM ρ cap last)[i]? =some (some z)→ ∃(j:Nat) (z':B),cap[i]? =some (some j)∧z=c79 z'∧ρ[j]? =some (some z'):=fun i z ne h=>by
  unfold mM at h
  rw[get_set_ne ne,List.getElem?_map]at h
  cases e4:cap[i]? with
  | none=>rw[e4]at h;cases h
  | some c=>
   rw[e4]at h
   cases c with
   | none=>cases h
   | some j=>
    have h':((ρ[j]?).join).map c79=some z:=by simpa using h
    cases q:ρ[j]? with
    | none=>rw[q]at h';cases h'
    | some w=>
     rw[q]at h'
     cases w with
     | none=>cases h'
     | some w'=>cases h';exact⟨j,w',rfl,rfl,q⟩
 have sgm: ∀(i j:Nat) (v:V),last≠i→cap[i]? =some (some j)→σ[j]? =some (some v)→(oC σ cap last Dn)[i]? =some (some v):=fun i j v e e1 h1=>by
  unfold oC
  rw[get_set_ne e,List.getElem?_map,e1]
  show some ((σ[j]?).join)=_
  rw[h1]
  rfl
 have atl:(mM ρ cap last)[last]? =some (some (.ow [])):=by
  unfold mM
  exact gG (by rw[List.length_map];exact hl)
 have sal:(oC σ cap last Dn)[last]? =some (some (.ref Dn)):=by
  unfold oC
  exact gG (by rw[List.length_map];exact hl)
 have noOw: ∀(i:Nat) (l:List D),last≠i→(mM ρ cap last)[i]? ≠some (some (.ow l)):=fun i l e h=>by
  obtain⟨j,z',_,z,_⟩:=pu i _ e h
  cases z'<;>cases z
 have own: ∀a,Own (mM ρ cap last) (oC σ cap last Dn) a→a=Dn:=fun a ⟨i,l,h1,h2⟩=>by
  by_cases e:last=i
  ·subst e
   rw[sal]at h2;cases h2;rfl
  ·exact absurd h1 (noOw i l e)
 have P:jD (Av C ρ σ) H (Av ⟨H,Av C ρ σ⟩ (mM ρ cap last) (oC σ cap last Dn)) (upd H Dn (.lst [])):=fun b o nb e=>by
  have ne:b≠Dn:=fun z=>by subst z;rw[n]at e;cases e
  refine⟨?_,by rw[cB ne];exact e⟩
  rintro(z|z)
  ·exact nb z
  ·exact ne (own b z)
 refine⟨by unfold mM oC;rw[List.length_set,List.length_set,List.length_map,List.length_map],fun i d h=> ?_,fun i l h=> ?_,fun i j l l' a h1 h2 h3 h4=> ?_,fun i l h=> ?_,d6 n _,fun a z=>I.avSome z⟩
 ·by_cases e:last=i
  ·subst e
   rw[atl]at h;cases h
  ·obtain⟨j,z',e1,z,e2⟩:=pu i _ e h
   cases z' with
   | pu d'=>
    cases z
    obtain⟨v,h1,h2⟩:=I.pu j d e2
    exact⟨v,sgm i j v e e1 h1,h2.mono P⟩
   | ow l=>cases z
   | bo l=>cases z
 ·by_cases e:last=i
  ·subst e
   rw[atl]at h;cases h
   exact⟨Dn,[],sal,hJ,n,.nil⟩
  ·exact absurd h (noOw i l e)
 ·have e1:last=i:=Decidable.byContradiction fun e=>absurd h1 (noOw i l e)
  have e2:last=j:=Decidable.byContradiction fun e=>absurd h2 (noOw j l' e)
  exact e1.symm.trans e2
 ·by_cases e:last=i
  ·subst e
   rw[atl]at h;cases h
  ·obtain⟨j,z',e1,z,e2⟩:=pu i _ e h
   cases z' with
   | pu d'=>cases z
   | ow l'=>
    cases z
    obtain⟨a,vs,h1,h2,h3,h4⟩:=I.ow j l e2
    exact⟨a,vs,sgm i j _ e e1 h1,.inr ⟨j,l,e2,h1⟩,h2,h4.mono P⟩
   | bo l'=>
    cases z
    obtain⟨a,vs,h1,h2,h3,h4⟩:=I.bo j l e2
    exact⟨a,vs,sgm i j _ e e1 h1,.inl h2,I.ext _ _ h3,h4.mono P⟩
theorem cF4 {js:List Nat}{cap:List (Option Nat)}{last:Nat}{ui:UI}{g:UG}{T:List Nat}{tt:UT}{te:UE}(hl:last<cap.length)(hT:last ∉ T)(σ:L2.St)(H:Hp)(Q:VK)(h:lE K (dQ js cap last ui g tt te) σ H Q) :
  bC0 cap last (lI K ui) (lG K T g) (lT K tt) (lE K te) σ H Q:=by
 obtain⟨C,ρ,Q0,I,h,k⟩:=h
 refine⟨C,ρ,_,I,h,fun n it ρ1 J H1 q f s ok Dn nD=> ?_⟩
 obtain⟨Pv,p0,turn,fin⟩:=q
 have fz:=aX4 js ρ1
 have I1:EOk K C (vY ρ1 js) σ H1:=((I.frz f).same s).frz fz
 generalize vY ρ1 js=ρ2 at fz I1 p0 fin
 have P12: ∀{A':AS} {H':Hp},jD (Av C ρ2 σ) H1 A' H'→jD (Av C ρ1 σ) H1 A' H':=fun p b o nb e=>p b o (fun z=>nb (fz.av z)) e
 have I2:=cap_ok I1 hl nD
 have own0: ∀{ρ':Ev} {σ':L2.St} {H':Hp},EOk K ⟨H1,Av C ρ2 σ⟩ ρ' σ' H'→jD (Av C ρ2 σ) H1 (Av ⟨H1,Av C ρ2 σ⟩ ρ' σ') H':=fun {ρ' σ' H'} J' b o nb e=>by
  refine⟨?_,J'.ext b o e⟩
  rintro(z| ⟨i,l,h1,h2⟩)
  ·exact nb z
  ·obtain⟨a,vs,h3,h4,h5,_⟩:=J'.ow i l h1
   rw[h2]at h3;cases h3
   have e':(⟨H1,Av C ρ2 σ⟩:C0).H0 b=some o:=e
   rw[h5]at e';cases e'
 have sal:(oC σ cap last Dn)[last]? =some (some (.ref Dn)):=by
  unfold oC
  exact gG (by rw[List.length_map];exact hl)
 refine⟨fun i m σ' H'=>m=n-i∧i≤n∧σ'[last]? =some (some (.ref Dn))∧ ∃ρ',EOk K ⟨H1,Av C ρ2 σ⟩ ρ' σ' H'∧Pv i ρ',⟨n,rfl,Nat.zero_le _,sal,_,I2,p0⟩,?_⟩
 rintro i m σ' H' ⟨rfl,hi,hlast,ρ',J',p'⟩
 have P:=P12 (own0 J')
 by_cases hlt:i<n
 ·refine .inr ⟨ok.go _ _ i P hlt,fun σ2 H2=>σ2[last]? =some (some (.ref Dn))∧ ∃ρ3,EOk K ⟨H1,Av C ρ2 σ⟩ ρ3 σ2 H2∧Pv (i+1) ρ3,fun σ2 H2 z=>⟨n-(i+1),by omega,rfl,hlt,z⟩,fun x H2 y=> ?_⟩
  obtain⟨s2,r2⟩:=ok.yld _ _ i x H2 P (fun a z=>J'.avSome z) hlt y
  refine⟨_,ρ',.pu (it i),H',_,J',s2,r2,turn i ρ' hlt p',fun ρ3 σ3 H3 q3 J3 same3=> ?_⟩
  have l3:σ3[last]? =some (some (.ref Dn)):=(same3 last hT).trans hlast
  refine⟨_,ρ3,_,J3,q3,fun c ρ4 H4 q4 f4 s4=> ?_⟩
  have J4:=(J3.frz f4).same s4
  cases c with
  | false=>
   dsimp only at q4⊢
   rw[if_neg Bool.false_ne_true]at q4⊢
   exact⟨l3,ρ4,J4,q4⟩
  | true=>
   dsimp only at q4⊢
   rw[if_pos rfl]at q4⊢
   refine⟨_,ρ4,_,J4,q4,fun b ρ5 v H5 q5 f5 s5 r5=> ?_⟩
   have J5:=(J4.frz f5).same s5
   obtain⟨l,hl5,hz,q5⟩:=iR q5
   obtain⟨a,vs,g1,g2,g3,g4⟩:=J5.ow last l hl5
   rw[l3]at g1;cases g1
   refine⟨vs,g2,by rw[←g4.length];exact hz,l3,_,J5.write hl5 l3 (g4.append (.cons (r5.rep fun a z=>J4.avF f5 z) .nil)),q5⟩
 ·have e:i=n:=by omega
  subst e
  obtain⟨l,hl5,q5⟩:=iR (fin ρ' p')
  obtain⟨a,vs,g1,g2,g3,g4⟩:=J'.ow last l hl5
  rw[hlast]at g1;cases g1
  refine .inl ⟨ok.stop _ _ P,k _ _ _ _ q5 (f.trans fz) (s.trans J'.ext) ⟨Dn,vs,rfl,s.free nD,g2,?_⟩⟩
  refine g4.mono fun b o nb e=>⟨?_,e⟩
  rintro(z|z)
  ·exact nb (.inl z)
  ·subst z
   exact nb (.inr ⟨last,l,hl5,hlast⟩)
theorem eT: ∀{X:Cx},PTs X [] (lT X.K fun ρ Q=>Q true ρ):=fun {X} pins s σ H Q I ⟨C,ρ,Q0,J,h,k⟩=>c76 pins s σ H Q I (k _ ρ H h (.refl _) (.refl _))
theorem c81 {c:Expr}{t:UT}(h:PUT X c t):PTs X [c] (lT X.K t):=c77 h
theorem c82 {elt iter tg:Expr}{ifs:List Expr}{scope:Scope}{pos:Pos}{N:List Str}{js:List Nat}{cap:List (Option Nat)}{last:Nat}{ui:UI}{g:UG}{T:List Nat}{tt:UT}{te:UE}(hc:X.calm=true)(hi:PUI X tg iter ui)(S:dX X.env X.N N cap scope)
  (hN: ∀x,N[last]? =some x→scope.names.lookup x=none) (hl:last<cap.length) (hT:last ∉ T)
  (hg: ∀cl C s H fp pins,PUG (bQ X N scope cl C s H fp pins) tg T g) (ht: ∀cl C s H fp pins,PTs (bQ X N scope cl C s H fp pins) ifs (lT X.K tt)) (he: ∀cl C s H fp pins,PU (bQ X N scope cl C s H fp pins) elt te)
  (hs: ∀x,foldedSetIterable iter X.env x=pure x:=by intro _;rfl):PU X (.ListComp elt [⟨tg,iter,ifs,0⟩] scope pos) (dQ js cap last ui g tt te):=
 gK (c78 (g:=lG X.K T g) (tt:=lT X.K tt) (te:=lE X.K te) hc hi S hN hg ht he hs) (cF4 hl hT)
theorem b58 {elt iter tg:Expr}{ifs:List Expr}{scope:Scope}{pos spos py:Pos}{y:Str}{N:List Str}{js:List Nat}{cap:List (Option Nat)}{last:Nat}{ui:UI}{g:UG}{T:List Nat}{tt:UT}{te:UE}(i:Nat)(hc:X.calm=true)(hi:PUI X tg iter ui)(S:dX X.env X.N N cap scope)
  (hN: ∀x,N[last]? =some x→scope.names.lookup x=none) (hl:last<cap.length) (hT:last ∉ T)
  (hg: ∀cl C s H fp pins,PUG (bQ X N scope cl C s H fp pins) tg T g) (ht: ∀cl C s H fp pins,PTs (bQ X N scope cl C s H fp pins) ifs (lT X.K tt)) (he: ∀cl C s H fp pins,PU (bQ X N scope cl C s H fp pins) elt te)
  (hy:PG X (.Name y py) (wQ i)) (hi': ∀pins σ H s,Inv X pins σ H s→i<σ.length) (hsw:swapsWith (.ListComp elt [⟨tg,iter,ifs,0⟩] scope pos) (some (.Name y py)) spos.line X.env=pure true:=by rfl)
  (hs: ∀x,foldedSetIterable iter X.env x=pure x:=by intro _;rfl):PUS X (.Assign [.Name y py] (.ListComp elt [⟨tg,iter,ifs,0⟩] scope pos) spos) (bK i (dQ js cap last ui g tt te)):=by
 intro pins s σ H D I q
 refine b57 (g:=lG X.K T g) (tt:=lT X.K tt) (te:=lE X.K te) hc hi S hN hg ht he hy hsw hs pins s σ H D I ?_
 obtain⟨C,ρ,D0,J,h,k⟩:=q
 exact cF4 hl hT σ H _ ⟨C,ρ,_,J,h,fun b ρ1 v H1 q f s1 r=>k.nx _ _ _ q ((J.frz f).store s1 r (hi' pins σ H s I))⟩
end
end M
end
section
namespace L2
open PySem PySem.Spec PyProof.Rows
section
variable {X:Cx}
theorem c83 {bs:List Bool}: ∀{its:List Value},Vals (bs.map V.bl) its→LSm.BoolsAre its bs:=by
 induction bs with
 | nil=>intro its r;cases r;exact .nil
 | cons b bs ih=>
  intro its r
  cases r with
  | cons r1 r2=>
   cases r1
   exact .cons b (ih r2)
theorem b59 (hc:X.calm=true):j0 X (.builtin "all") (fun xs H Q=> ∃(p:Addr) (bs:List Bool),xs=[.ref p]∧SqL X.K H p (bs.map V.bl)∧Q (.bl (bs.all id)) H):=by
 intro pins s σ H xs us Q I r h
 obtain⟨p,bs,rfl,hq,q⟩:=h
 obtain⟨u,rfl,rx⟩:=vals1 r
 cases rx
 obtain⟨its,rv,pl,hz⟩:=I.list hq
 have ba:=c83 rv
 refine call_all_walk (wpAny_pyIter_list pl.isList ?_)
 have hne:p≠s.heap.objs.size:=by
  obtain⟨o,n,e,_⟩:=pl
  exact Nat.ne_of_lt (Heap.lt_size e)
 refine⟨s.heap.objs.size,_,_,_,_,_,fun i=>(bs[i]?).getD true,rfl,Walks.list (A:=X.A.in1) (I.ok.hd hc) s.heap.objs.size p (fun z=>hne z) its.toArray,⟨⟨_,Heap.get?_push_size _ rfl,rfl,rfl⟩,pl.isList.push _⟩,?_,fun h' tk hk=> ?_⟩
 ·intro i v s' Q' E' hP hQ
  obtain⟨b,hb,rfl⟩:=ba.get i v (by simpa using hP)
  refine wpAny_truthy_bool ?_
  have e:(fun i=>(bs[i]?).getD true) i=b:=by simp[hb]
  dsimp only at hQ
  rw[hb]at hQ
  exact hQ
 ·have e:=LSm.range_all bs
  have hl:=ba.length
  have e2:its.toArray.size=bs.length:=by rw[List.size_toArray,hl]
  rw[e2,e]
  exact⟨.bl (bs.all id),H,I.kept fun b o e=>hk b o (by simpa using Nat.ne_of_lt (Heap.lt_size e)) (Heap.get?_push_of_some _ e),rfl,q⟩
theorem b60 (hc:X.calm=true):j0 X (.builtin "sum") (fun xs H Q=> ∃(p:Addr) (ns:List Int),xs=[.ref p]∧SqL X.K H p (ns.map V.int)∧Q (.int ns.sum) H):=by
 intro pins s σ H xs us Q I r h
 obtain⟨p,ns,rfl,hq,q⟩:=h
 obtain⟨u,rfl,rx⟩:=vals1 r
 cases rx
 obtain⟨its,rv,pl,hz⟩:=I.list hq
 have hi:IntsAre its ns:=by simpa using intsAre_of rv
 obtain⟨xs,hx⟩:=hi.allInts.items
 have hl':s.heap.IsList p (intItems xs):=hx▸pl.isList
 refine sum_intListG (I.ok.hd hc) hl' fun h' tk t' hk=> ?_
 have e1:ns=xs.toList.map (·.1):=by
  rw[←nums_intItems,←hx]
  exact(show numsOf its.toArray.toList=ns from hi.numsOf).symm
 have e2:preSum (numAt xs) xs.size=ns.sum:=by
  rw[preSum_eq,List.take_of_length_le (by simp),e1]
 rw[e2]
 exact⟨.int ns.sum,H,I.kept hk,⟨_,rfl⟩,q⟩
def uN (esc:List (Str×NameKind))(XN N:List Str)(cap:List (Option Nat))(scope:Scope)(last:Nat):Bool:=
 (scope.kind== .function)&&scope.names.all (fun y=>y.2 != .cell||scope.names.lookup y.1==some .cell)&&scope.names.all (fun y=>y.2 != .free||scope.names.lookup y.1==some .free)&&scope.names.all (fun y=>y.2 != .local||scope.names.lookup y.1==some .local)&&
 scope.names.all (fun y=>y.2 != .free||esc.lookup y.1==some .cell||esc.lookup y.1==some .free)&&
 (N.zip cap).all (fun z=>match z.2 with|none=>true|some j=>XN[j]? ==some z.1&&scope.names.contains (z.1,.free)&&scope.names.lookup z.1==some .free)&&
 (cap.length==N.length)&&(match N[last]? with|some x=>(scope.names.lookup x).isNone|none=>true)
theorem dX.of {env:Env}{esc:List (Str×NameKind)}{XN N:List Str}{cap:List (Option Nat)}{scope:Scope}{last:Nat}(he:env.scope.names=esc)(h:uN esc XN N cap scope last=true) :
  dX env XN N cap scope∧ ∀x,N[last]? =some x→scope.names.lookup x=none:=by
 unfold uN at h
 simp only[Bool.and_eq_true,List.all_eq_true,beq_iff_eq]at h
 obtain⟨⟨⟨⟨⟨⟨⟨h1,h2⟩,h2'⟩,h3⟩,h4⟩,h5⟩,h6⟩,h7⟩:=h
 have hk: ∀x,env.kindOf x=esc.lookup x:=fun x=>by unfold Env.kindOf;rw[he]
 refine⟨⟨h1,fun y hy hl=>by have:=h2 y hy;rw[hl]at this;simpa using this,fun y hy hl=>by have:=h2' y hy;rw[hl]at this;simpa using this,fun y hy hl=> ?_,fun y hy hf=> ?_,fun i j x e1 e2=> ?_,h6⟩,fun x e=> ?_⟩
 ·have:=h3 y hy
  rw[hl]at this
  simpa using this
 ·have:=h4 y hy
  rw[hf]at this
  rw[hk]
  simpa using this
 ·have hm:(x,some j)∈N.zip cap:=by
   refine List.mem_of_getElem? (i:=i) ?_
   rw[List.getElem?_zip_eq_some]
   exact⟨e1,e2⟩
  have:=h5 _ hm
  simp only[Bool.and_eq_true,beq_iff_eq]at this
  obtain⟨⟨a,b⟩,c⟩:=this
  exact⟨a,by simpa using b,c⟩
 ·rw[e]at h7
  simpa using h7
end
end L2
namespace M
open PySem PySem.Spec PyProof.Rows L2
section
variable {X:Cx}{K:PySem.W.Frag}{A:AS}{H:Hp}
def rA:List D→Option (List Bool)
 | []=>some []
 | .bl b::r=>(rA r).map (b::·)
 | _=>none
def wW:List D→Option (List Int)
 | []=>some []
 | .int b::r=>(wW r).map (b::·)
 | _=>none
theorem rB (bs:List Bool):rA (bs.map .bl)=some bs:=by
 induction bs with
 | nil=>rfl
 | cons b bs ih=>rw[List.map_cons];show(rA (bs.map .bl)).map _=_;rw[ih];rfl
theorem yE (bs:List Int):wW (bs.map .int)=some bs:=by
 induction bs with
 | nil=>rfl
 | cons b bs ih=>rw[List.map_cons];show(wW (bs.map .int)).map _=_;rw[ih];rfl
theorem a90: ∀{l:List D} {bs:List Bool} {vs:List V},rA l=some bs→bC K A H l vs→vs=bs.map V.bl
 | [],bs,vs,h,r=>by cases h;exact r.unnil
 | d::r,bs,vs,h,q=>by
  obtain⟨v,vr,rfl,rv,rr⟩:=q.uncons
  cases d with
  | bl b=>
   have h':(rA r).map (b::·)=some bs:=h
   cases e:rA r with
   | none=>rw[e]at h';cases h'
   | some bs'=>
    rw[e]at h';cases h'
    rw[oB rv,a90 e rr];rfl
  | _=>cases h
theorem aL0: ∀{l:List D} {bs:List Int} {vs:List V},wW l=some bs→bC K A H l vs→vs=bs.map V.int
 | [],bs,vs,h,r=>by cases h;exact r.unnil
 | d::r,bs,vs,h,q=>by
  obtain⟨v,vr,rfl,rv,rr⟩:=q.uncons
  cases d with
  | int b=>
   have h':(wW r).map (b::·)=some bs:=h
   cases e:wW r with
   | none=>rw[e]at h';cases h'
   | some bs'=>
    rw[e]at h';cases h'
    rw[bB rv,aL0 e rr];rfl
  | _=>cases h
def aQ6:List D→(B→Prop)→Prop:=g1 fun d Q=>match d with
 | .lst l=>(match rA l with
  | some bs=>Q (.pu (.bl (bs.all id)))
  | none=>False)
 | _=>False
theorem aQ7 (hc:X.calm=true):qI X (.builtin "all") aQ6:=by
 intro A H ds vs Q0 Q hA r g k
 obtain⟨d,v,rfl,rfl,rv,g⟩:=vW g r
 cases d with
 | lst l=>
  dsimp only at g
  cases e:rA l with
  | none=>rw[e]at g;exact g.elim
  | some bs=>
   rw[e]at g
   simp only[Rep]at rv
   obtain⟨a,vs,rfl,n,c,rs⟩:=rv
   rw[a90 e rs]at c
   exact⟨_,b59 hc,a,bs,rfl,SqL.of c,k _ _ H g (.refl _) jE⟩
 | _=>exact(show False from g).elim
def bH3:List D→(B→Prop)→Prop:=g1 fun d Q=>match d with
 | .lst l=>(match wW l with
  | some ns=>Q (.pu (.int ns.sum))
  | none=>False)
 | _=>False
theorem b61 (hc:X.calm=true):qI X (.builtin "sum") bH3:=by
 intro A H ds vs Q0 Q hA r g k
 obtain⟨d,v,rfl,rfl,rv,g⟩:=vW g r
 cases d with
 | lst l=>
  dsimp only at g
  cases e:wW l with
  | none=>rw[e]at g;exact g.elim
  | some bs=>
   rw[e]at g
   simp only[Rep]at rv
   obtain⟨a,vs,rfl,n,c,rs⟩:=rv
   rw[aL0 e rs]at c
   exact⟨_,b60 hc,a,bs,rfl,SqL.of c,k _ _ H g (.refl _) v5⟩
 | _=>exact(show False from g).elim
theorem bC1 {x:Str}{i:Int}{t:Tok}{p:Pos}(hg:Gl X x)(hm:X.mg x=some (.int i t))(hd:(x==("__debug__":Str))=false:=by decide):PU X (.Name x p) (uC (.int i)):=
 aP5 (bA7 (v:= .int i) hg hm ⟨t,rfl⟩ hd) fun A H=>by simp only[Rep]
theorem aQ8:bootBuiltins "all"=some (.builtin "all"):=by decide +kernel
theorem b62:bootBuiltins "sum"=some (.builtin "sum"):=by decide +kernel
theorem dI {elt iter tg:Expr}{ifs:List Expr}{scope:Scope}{pos:Pos}{esc:List (Str×NameKind)}{N:List Str}{js:List Nat}{cap:List (Option Nat)}{last:Nat}{ui:UI}{g:UG}{T:List Nat}{tt:UT}{te:UE}{XN:List Str}(he0:X.env.scope.names=esc)(hx0:X.N=XN)(lk:uN esc XN N cap scope last=true)(hl:last<cap.length)(hT:last ∉ T)(hc:X.calm=true)(hi:PUI X tg iter ui)
  (hg: ∀cl C s H fp pins,PUG (bQ X N scope cl C s H fp pins) tg T g) (ht: ∀cl C s H fp pins,PTs (bQ X N scope cl C s H fp pins) ifs (lT X.K tt)) (he: ∀cl C s H fp pins,PU (bQ X N scope cl C s H fp pins) elt te)
  (hs: ∀x,foldedSetIterable iter X.env x=pure x:=by intro _;rfl):PU X (.ListComp elt [⟨tg,iter,ifs,0⟩] scope pos) (dQ js cap last ui g tt te):=
 c82 hc hi (dX.of he0 (hx0▸lk)).1 (dX.of he0 (hx0▸lk)).2 hl hT hg ht he hs
theorem aX5 {elt iter tg:Expr}{ifs:List Expr}{scope:Scope}{pos spos py:Pos}{y:Str}{esc:List (Str×NameKind)}{N:List Str}{js:List Nat}{cap:List (Option Nat)}{last:Nat}{ui:UI}{g:UG}{T:List Nat}{tt:UT}{te:UE}(i:Nat){XN:List Str}(he0:X.env.scope.names=esc)(hx0:X.N=XN)(lk:uN esc XN N cap scope last=true)(hl:last<cap.length)(hT:last ∉ T)(hc:X.calm=true)(hi:PUI X tg iter ui)
  (hg: ∀cl C s H fp pins,PUG (bQ X N scope cl C s H fp pins) tg T g) (ht: ∀cl C s H fp pins,PTs (bQ X N scope cl C s H fp pins) ifs (lT X.K tt)) (he: ∀cl C s H fp pins,PU (bQ X N scope cl C s H fp pins) elt te)
  (hy:PG X (.Name y py) (wQ i)) (hi': ∀pins σ H s,Inv X pins σ H s→i<σ.length) (hsw:swapsWith (.ListComp elt [⟨tg,iter,ifs,0⟩] scope pos) (some (.Name y py)) spos.line X.env=pure true:=by rfl)
  (hs: ∀x,foldedSetIterable iter X.env x=pure x:=by intro _;rfl):PUS X (.Assign [.Name y py] (.ListComp elt [⟨tg,iter,ifs,0⟩] scope pos) spos) (bK i (dQ js cap last ui g tt te)):=
 b58 i hc hi (dX.of he0 (hx0▸lk)).1 (dX.of he0 (hx0▸lk)).2 hl hT hg ht he hy hi' hsw hs
def wX (te:UE):US:=fun D ρ=>te ρ fun _ ρ1=>D.nx ρ1
theorem aQ9 {e:Expr}{pos:Pos}{te:UE}(he:PU X e te)(hs:swapsWith e none pos.line X.env=pure false:=by rfl):PUS X (.Expr e pos) (wX te):=
 mJ (aO6 he hs) fun D σ H ⟨C,ρ,D0,I,h,k⟩=>⟨C,ρ,_,I,h,fun b ρ1 v H1 q f s r=>k.nx _ _ _ q ((I.frz f).same s)⟩
theorem nI: ∀ds ρ Q,sG ds ρ Q→ds.length=0:=fun ds ρ Q h=>by rw[h.1];rfl
theorem dY {i n:Nat}{u:UGs}(h: ∀ds ρ Q,u ds ρ Q→ds.length=n): ∀ds ρ Q,fN i u ds ρ Q→ds.length=n+1:=fun ds ρ Q q=>by
 cases ds with
 | nil=>exact(show False from q).elim
 | cons d r=>rw[List.length_cons,h r _ Q q.2]
end
theorem Fn.void {P:Program}{w:World}{K:PySem.W.Frag}{mg:Str→Option Value}{base:Heap}{x qual:Str}{st:Stmt}{f:Addr}{fd:FuncData}{ps:List Str}{φ:Φ}(F:Fun K x qual st f fd)(m:mg x=some (.ref f))(b:Binds K fd ps [])(h: ∀ds Q,¬φ ds Q):Fn P w K mg base x ps 1 φ:=
 ⟨f,fd,⟨fun vs H Q E ⟨_,ds,Q0,_,_,z,_⟩=>absurd z (h ds Q0),fun A outer s H args us vs Q E _ _ _ _ ⟨_,ds,Q0,_,_,z,_⟩=>absurd z (h ds Q0)⟩,b,F.kp,m⟩
end M
end
section
namespace HT
open PySem PyProof.Rows
end HT
namespace L2
open PySem PySem.Spec PyProof.Rows
end L2
namespace M
open PySem PySem.Spec PyProof.Rows L2
section
variable {X:Cx}{K:PySem.W.Frag}{A:AS}{H:Hp}{e e3:Expr}{t3:UE}{pos p2:Pos}
def gRev (d:D)(Q:B→Prop):Prop:=match d with
 | .tup l=>Q (.pu (.tup l.reverse))
 | _=>False
def uRev (t:UV)(t3:UE):UE:=fun ρ Q=>t ρ fun d ρ1=>t3 ρ1 fun b ρ2=>b.d= .int (-1)∧gRev d fun b=>Q b ρ2
def gIn (neg:Bool)(d e:D)(Q:B→Prop):Prop:= ∃(i:Int) (js:List Int),d= .int i∧(e= .tup (js.map D.int)∨e= .lst (js.map D.int)∨e= .rol (js.map D.int))∧Q (.pu (.bl (neg ^^ decide (i∈js))))
theorem bC.unints: ∀{js:List Int} {vs:List V},bC K A H (js.map D.int) vs→vs=js.map V.int
 | [],_,h=>by simp only[List.map_nil,bC]at h;exact h
 | j::js,vs,h=>by
  simp only[List.map_cons,bC]at h
  obtain⟨v,vr,rfl,r,rs⟩:=h
  rw[bB r,bC.unints rs]
  rfl
theorem bQ7 (i:Int)(js:List Int):inV (.int i) (js.map V.int)=decide (i∈js):=by
 unfold inV
 induction js with
 | nil=>rfl
 | cons j js ih=>
  rw[List.map_cons,List.any_cons,ih]
  show((j==i)||decide (i∈js))=decide (i∈j::js)
  by_cases h:j=i
  ·subst h;simp
  ·have h': ¬i=j:=fun z=>h z.symm
   simp[h,h']
theorem yF (js:List Int):(js.map V.int).all wR=true:=by
 induction js with
 | nil=>rfl
 | cons j js ih=>rw[List.map_cons,List.all_cons,ih];rfl
theorem ou_inG {neg:Bool}{op:Value→Value→Sem Value}(ho:OpR X op (rIn X.K neg)):OpU X op (gIn neg):=by
 intro A H d e v w Q0 Q hA r1 r2 g k
 obtain⟨i,js,rfl,he,g⟩:=g
 have e1:=bB r1
 subst e1
 have fin:Q (.bl (if neg=true then !inV (.int i) (js.map V.int)else inV (.int i) (js.map V.int))) H:=by
  rw[bQ7]
  refine k _ _ H g (.refl _) ?_
  cases neg
  ·rw[if_neg (by decide),Bool.false_xor];exact jE
  ·rw[if_pos rfl,Bool.true_xor];exact jE
 rcases he with rfl|rfl|rfl
 ·simp only[Rep]at r2
  obtain⟨a,vs,rfl,c,rs⟩:=r2
  have:=rs.unints
  subst this
  exact⟨_,ho,a,_,rfl,.inr (c.imp And.right id),rfl,yF js,fin⟩
 ·simp only[Rep]at r2
  obtain⟨a,vs,rfl,n,c,rs⟩:=r2
  have:=rs.unints
  subst this
  exact⟨_,ho,a,_,rfl,.inl (SqL.of c),rfl,yF js,fin⟩
 ·simp only[Rep]at r2
  obtain⟨a,vs,rfl,c,rs⟩:=r2
  have:=rs.unints
  subst this
  exact⟨_,ho,a,_,rfl,.inl (c.imp And.right id),rfl,yF js,fin⟩
theorem bQ8:OpU X (compareOp .NotIn) (gIn true):=ou_inG aP1
end
end M
end
section
namespace L2
open PySem PySem.Spec PyProof.Rows
def Itd (lo:Int)(n:Nat):It:={go:=fun i _=>i<n,yld:=fun i H x H'=>H'=H∧x=V.int (lo-(i:Int)),stop:=fun i _=>n≤i}
theorem aL1 {P:Program}{w:World}{K:PySem.W.Frag}{tg:Expr}(it:Addr)(lo:Int)(n:Nat):b37 P w K tg (Itd lo n) [it] it (fun i h=>IsRangeIter h it (lo+(i:Nat)*(-1)) ((n:Int)-(i:Nat)) (-1)) where
 mem:=by simp
 obj:=fun i h st b hb=>by
  have e:b=it:=by simpa using hb
  subst e
  exact⟨_,st,fun v z=>by
   have z':Data.fields _=Data.cell v:=z
   cases z'⟩
 keep:=fun i h h' st k=>k it (by simp) _ st
 item:=by
  intro X hP hw hK hc i pins s σ H E I hf st hg
  subst hP hw hK
  obtain⟨f0,f1,f2,f3,f4,f5⟩:=hf it (by simp)
  have W:=Walks.range (prog:=X.prog) (w:=X.w) (I.ok.hd hc) it lo (-1) n
  refine W.item i s _ _ hg st fun v h' tk hv st' kk=> ?_
  obtain⟨t,rfl⟩:=hv
  have I1:Inv X pins σ H {s with heap:=h',toks:=tk}:=I.turned (fun b o hb e=>kk b o (by simpa using hb) e) f0 f1 f3 f4 f5
  refine⟨_,rfl,aW0 (s:={s with heap:=h',toks:=tk}) (n:="range_iterator") st' rfl rfl (by decide) ⟨.int (lo-i),H,I1,⟨t,?_⟩,⟨rfl,rfl⟩,st',fun b hb=>(hf b hb).1⟩⟩
  rw[show lo+((i:Nat):Int)*(-1)=lo-(i:Int)by omega]
 done:=by
  intro X hP hw hK hc i pins s σ H E I hf st hg
  subst hP hw hK
  obtain⟨f0,f1,f2,f3,f4,f5⟩:=hf it (by simp)
  exact wpAny_pyNext_range_end (I.ok.hd hc) st (by have:n≤i:=hg;omega) fun h' eb=>⟨rfl,I.turned (t':=s.toks) (fun b o hb e=>eb b o hb e) f0 f1 f3 f4 f5⟩
 self:=fun _ _ _ _ _ st h=>wpAny_pyIter_rangeiter st h
section
variable {X:Cx}{tg:Expr}
theorem aL2 (a b:Int):Builtin.Range.rangeSize a b (-1)=(((a-b).toNat:Nat):Int):=by
 unfold Builtin.Range.rangeSize
 rw[if_neg (by decide)]
 split<;>simp<;>omega
theorem small_down {a b:Int}(h1: -(2^31)≤a)(h2:a<2^31)(h3: -(2^31)≤b)(h4:b<2^31):Builtin.Range.small a b (-1)=true:=by
 unfold Builtin.Range.small
 rw[aL2]
 simp[Builtin.Range.rangeFitsLong]
 omega
theorem b63 {pins:List (Addr×Obj)}{σ:St}{H:Hp}{s:Shared}{R:It→Hp→Prop}{E:Value→Shared→Prop}{lo hi:Int}{t u v:Tok}{tk:Nat}(I:Inv X pins σ H s)(h1: -(2^31)≤lo)(h2:lo<2^31)(h3: -(2^31)≤hi)(h4:hi<2^31)
  (q:R (Itd lo (lo-hi).toNat) H):wpAny (model X.prog X.w) X.A (pyIter (.ref s.heap.objs.size)) (PIE X pins σ tg R) E {s with heap:=s.heap.push {cls:= .type "range",data:= .fields #[.int lo t,.int hi u,.int (-1) v]},toks:=tk}:=by
 refine wpAny_pyIter_range (IsRange.new ..) (small_down h1 h2 h3 h4) ?_
 have I1:Inv X pins σ H {s with heap:=s.heap.push {cls:= .type "range",data:= .fields #[.int lo t,.int hi u,.int (-1) v]},toks:=tk}:=I.kept fun b o e=>Heap.get?_push_of_some _ e
 refine⟨(s.heap.push {cls:= .type "range",data:= .fields #[.int lo t,.int hi u,.int (-1) v]}).objs.size,[(s.heap.push {cls:= .type "range",data:= .fields #[.int lo t,.int hi u,.int (-1) v]}).objs.size],_,_,H,rfl,
  I1.kept (t':=tk) fun b o e=>Heap.get?_push_of_some _ e,aL1 _ lo (lo-hi).toNat,?_,fun b hb=> ?_,q⟩
 ·have e1:lo+((0:Nat):Int)*(-1)=lo:=by simp
  have e2:(((lo-hi).toNat:Nat):Int)-((0:Nat):Int)=Builtin.Range.rangeSize lo hi (-1):=by rw[aL2];simp
  show IsRangeIter _ _ (lo+((0:Nat):Int)*(-1)) ((((lo-hi).toNat:Nat):Int)-((0:Nat):Int)) (-1)
  rw[e1,e2]
  exact Heap.get?_push_size _ rfl
 ·have e:b=(s.heap.push {cls:= .type "range",data:= .fields #[.int lo t,.int hi u,.int (-1) v]}).objs.size:=by simpa using hb
  subst e
  exact I1.fpOk (Nat.le_refl _) (I1.hok.fresh (Nat.le_refl _))
def iRngD (ta:TA):TI:=fun σ H R=>ta σ H fun vs H1=> ∃i j:Int,vs=[.int i,.int j,.int (-1)]∧(-(2^31)≤i∧i<2^31∧ -(2^31)≤j∧j<2^31)∧R (Itd i (i-j).toNat) H1
theorem bH4 {a b c:Expr}{ta:TA}{p pos:Pos}(hg:Gl X "range")(hm:X.mg "range"=none)(ha:PA X [a,b,c] ta)(hs:starEach [a,b,c] X.env=[(false,eval a X.env),(false,eval b X.env),(false,eval c X.env)]:=by rfl)(hs2:starEach [b,c] X.env=[(false,eval b X.env),(false,eval c X.env)]:=by rfl) :
  PI X tg (.Call (.Name "range" p) [a,b,c] [] pos) (iRngD ta):=by
 intro pins s σ H R I h
 refine Call_ (oV I hg hm boot_range (PyProof.Rows.callWith_type1 (thn (ha pos pins s σ H _ I h) fun us s1 ⟨vs,H1,I1,r1,q1⟩=> ?_) (by rw[hs,hs2]) (by rw[hs2];rfl)))
 obtain⟨i,j,e,⟨q1,q2,q3,q4⟩,q⟩:=q1
 subst e
 cases r1 with
 | cons r rr=>
  cases rr with
  | cons r' rr=>
   cases rr with
   | cons r'' rr=>
    cases rr
    obtain⟨t,rfl⟩:=r
    obtain⟨t',rfl⟩:=r'
    obtain⟨t'',rfl⟩:=r''
    exact call_range_3 (by decide) (b63 I1 q1 q2 q3 q4 q) (.inl (by
     unfold Builtin.divisionGoesByPylong
     simp
     intro hz
     have:Nat.log2 1=0:=by decide
     omega))
end
end L2
namespace M
open PySem PySem.Spec PyProof.Rows L2
section
variable {X:Cx}{K:PySem.W.Frag}{H:Hp}{pos:Pos}
theorem aL3 {A:AS}{lo:Int}{n:Nat}:b53 K A H (Itd lo n) n (fun i=> .int (lo-i)):=
 ⟨fun _ _ _ _ h=>h,fun _ _ i x H'' _ _ _ ⟨e,y⟩=>by subst e;subst y;exact⟨.refl _,by simp only[Rep]⟩,fun _ _ _=>Nat.le_refl n⟩
def aX6 (ta:UA):UI:=fun ρ Q=>ta ρ fun ds ρ1=>match ds with
 | [.int i,.int j,.int m]=>m= -1∧(-(2^31)≤i∧i<2^31∧ -(2^31)≤j∧j<2^31)∧Q (i-j).toNat (fun k=> .int (i-k)) ρ1
 | _=>False
theorem aL4 {tg a b c:Expr}{ta:UA}{p:Pos}(hg:Gl X "range")(hm:X.mg "range"=none)(ha:PUA X [a,b,c] ta)(hs:starEach [a,b,c] X.env=[(false,eval a X.env),(false,eval b X.env),(false,eval c X.env)]:=by rfl)(hs2:starEach [b,c] X.env=[(false,eval b X.env),(false,eval c X.env)]:=by rfl) :
  PUI X tg (.Call (.Name "range" p) [a,b,c] [] pos) (aX6 ta):=
 a87 (bH4 hg hm ha hs hs2) fun σ H R ⟨C,ρ,Q0,I,h,k⟩=>⟨C,ρ,_,I,h,fun ds ρ1 vs H1 q f s r=>by
  split at q
  ·rename_i i j m
   obtain⟨v,vr,rfl,rv,rr⟩:=r.uncons
   obtain⟨w,wr,rfl,rw',rr'⟩:=rr.uncons
   obtain⟨z,zr,rfl,rz,rr''⟩:=rr'.uncons
   have:=rr''.unnil
   subst this
   have:=bB rv
   subst this
   have:=bB rw'
   subst this
   have:=bB rz
   subst this
   obtain⟨hm,hb,q⟩:=q
   subst hm
   exact⟨i,j,rfl,hb,k _ _ ρ1 _ H1 q f s aL3⟩
  ·exact q.elim⟩
end
end M
end
section
namespace L2
open PySem PySem.Spec PyProof.Rows
section
variable {X:Cx}{pins:List (Addr×Obj)}{σ:St}{H:Hp}{s:Shared}{h':Heap}
theorem Inv.turnedNew {t':Nat}{ch:List Addr}{a:Addr}{o:HO}(I:Inv X pins σ H s)(k: ∀b u,b ∉ ch→s.heap.get? b=some u→h'.get? b=some u)(hf: ∀b∈ch,xZ X pins H b)
  (hp:s.heap.objs.size≤a) (new:mI X.prog X.w (upd H a o) h' a o):Inv X pins σ (upd H a o) {s with heap:=h',toks:=t'}:=by
 have hn:H a=none:=I.hok.fresh hp
 have nch: ∀b u,H b=some u→b ∉ ch:=fun b u e z=>by have:=(hf b z).1;rw[e]at this;cases this
 refine I.step (g':=s.gens) (d':=s.drawn) (ch:=ch) (fun b hb=>⟨(hf b hb).2.2.2.1,(hf b hb).2.1,(hf b hb).2.2.2.2.1,(hf b hb).2.2.2.2.2⟩) (fun b u _ _ hc e _=>k b u hc e) (fun b u _ _ hc e _=>⟨u.slots,k b u hc e⟩)
  (fun b u _ e n=>by rw[cB (Nat.ne_of_lt (Nat.lt_of_lt_of_le (Heap.lt_size e) hp))];exact n) (fun b u hc e=>⟨u,k b u hc e⟩)
  (fun b xs e=>by rw[cB (dF e hn)];exact e) (fun b ob u e=>by rw[cB (dF e hn)];exact e) (fun b ps e=>⟨#[],by rw[cB (dF e hn),e];simp⟩) (fun m hm=> ?_) (fun b u e=> ?_) I.bare
 ·obtain⟨ob,es,ep,ho,r⟩:=hm
  exact⟨ob,es,ep,k _ ob (fun z=>(hf _ z).2.1 rfl) ho,r⟩
 ·by_cases hb:b=a
  ·subst hb
   rw[hJ]at e
   cases e
   exact new
  ·rw[cB hb]at e
   refine(I.hok b u e).stay (fun c v hc q=>k c v ?_ q) (fun c q=>by rw[cB (dF q hn)];exact q) fun c xs q=>by rw[cB (dF q hn)];exact q
   rcases hc with z|z
   ·rw[z];exact nch b u e
   ·exact nch c _ z
theorem Inv.turnedL {t':Nat}{ch:List Addr}(I:Inv X pins σ H s)(k: ∀b u,b ∉ ch→s.heap.get? b=some u→h'.get? b=some u)(hf: ∀b∈ch,xZ X pins H b):Inv X pins σ H {s with heap:=h',toks:=t'}:=by
 have nch: ∀b u,H b=some u→b ∉ ch:=fun b u e z=>by have:=(hf b z).1;rw[e]at this;cases this
 refine I.step (g':=s.gens) (d':=s.drawn) (ch:=ch) (fun b hb=>⟨(hf b hb).2.2.2.1,(hf b hb).2.1,(hf b hb).2.2.2.2.1,(hf b hb).2.2.2.2.2⟩) (fun b u _ _ hc e _=>k b u hc e) (fun b u _ _ hc e _=>⟨u.slots,k b u hc e⟩)
  (fun b u _ e n=>n) (fun b u hc e=>⟨u,k b u hc e⟩) (fun b xs e=>e) (fun b ob u e=>e) (fun b ps e=>⟨#[],by rw[e];simp⟩) (fun m hm=> ?_) (fun b u e=> ?_) I.bare
 ·obtain⟨ob,es,ep,ho,r⟩:=hm
  exact⟨ob,es,ep,k _ ob (fun z=>(hf _ z).2.1 rfl) ho,r⟩
 ·refine(I.hok b u e).stay (fun c v hc q=>k c v ?_ q) (fun c q=>q) fun c xs q=>q
  rcases hc with z|z
  ·rw[z];exact nch b u e
  ·exact nch c _ z
end
def a03 (T:Bool)(h:Heap)(a:Addr)(xs:Array Value):Prop:=match T with
 | false=>h.IsList a xs
 | true=>h.IsTuple a xs
def sN (T:Bool)(h:Heap)(it a:Addr)(i:Nat):Prop:=match T with
 | false=>h.IsListIter it a i
 | true=>h.IsTupleIter it a i
def zN (T:Bool)(a:Addr):Obj:=match T with
 | false=>{cls:= .type "list_iterator",data:= .fields #[.ref a,.int 0 0]}
 | true=>{cls:= .type "tuple_iterator",data:= .fields #[.ref a,.int 0 0]}
def SqV (K:PySem.W.Frag)(T:Bool)(H:Hp)(a:Addr)(xs:List V):Prop:=match T with
 | false=>SqL K H a xs
 | true=>SqT K H a xs
theorem a03.at {T:Bool}{h h':Heap}{a:Addr}{xs:Array Value}(x:a03 T h a xs)(e: ∀o,h.get? a=some o→h'.get? a=some o):a03 T h' a xs:=by
 cases T<;>(obtain⟨o,ho,r⟩:=x;exact⟨o,e o ho,r⟩)
theorem sN.at {T:Bool}{h h':Heap}{it a:Addr}{i:Nat}(x:sN T h it a i)(e: ∀o,h.get? it=some o→h'.get? it=some o):sN T h' it a i:=by
 cases T<;>(obtain⟨o,ho,r⟩:=x;exact⟨o,e o ho,r⟩)
theorem a03.lt {T:Bool}{h:Heap}{a:Addr}{xs:Array Value}(x:a03 T h a xs):a<h.objs.size:=by
 cases T<;>(obtain⟨o,ho,r⟩:=x;exact Heap.lt_size ho)
theorem sN.lt {T:Bool}{h:Heap}{it a:Addr}{i:Nat}(x:sN T h it a i):it<h.objs.size:=by
 cases T<;>(obtain⟨o,ho,r⟩:=x;exact Heap.lt_size ho)
theorem sN.rec' {T:Bool}{h:Heap}{it a:Addr}{i:Nat}(x:sN T h it a i): ∃o,h.get? it=some o∧ ∀v,o.data≠ .cell v:=by
 cases T<;>(obtain⟨o,ho,hc,hd⟩:=x;exact⟨o,ho,fun v z=>by rw[hd]at z;cases z⟩)
theorem sN.new {T:Bool}(h:Heap)(a:Addr):sN T (h.push (zN T a)) h.objs.size a 0:=by
 cases T<;>exact⟨_,Heap.get?_push_size _ rfl,rfl,rfl⟩
section
variable {X:Cx}{pins:List (Addr×Obj)}{σ:St}{H:Hp}{s:Shared}
theorem Inv.sq {T:Bool}{a:Addr}{xs:List V}(I:Inv X pins σ H s)(h:SqV X.K T H a xs): ∃its:List Value,Vals xs its∧a03 T s.heap a its.toArray∧xs.length≤sizeLine:=by
 cases T with
 | false=>obtain⟨its,rv,p,hz⟩:=I.list h;exact⟨its,rv,p.isList,hz⟩
 | true=>obtain⟨its,rv,p,hz⟩:=I.tuple h;exact⟨its,rv,p,hz⟩
theorem Inv.sq_inj {T:Bool}{a:Addr}{xs ys:List V}(I:Inv X pins σ H s)(h:SqV X.K T H a xs)(h':SqV X.K T H a ys):xs=ys:=by
 cases T with
 | false=>exact I.list_inj h h'
 | true=>exact I.tuple_inj h h'
end
section
variable {prog:Program}{w:World}{A:Around}{E:Value→Shared→Prop}{s:Shared}
theorem aL5 {T:Bool}{a:Addr}{xs:Array Value}{Q:Value→Shared→Prop}(hl:a03 T s.heap a xs)(hQ:Q (.ref s.heap.objs.size) {s with heap:=s.heap.push (zN T a)}) :
  wpAny (model prog w) A (pyIter (.ref a)) Q E s:=by
 cases T with
 | false=>exact wpAny_pyIter_list hl hQ
 | true=>exact wpAny_pyIter_tuple hl hQ
theorem bQ9 {it t:Addr}{i:Nat}{items:Array Value}{x:Value}{Q:Value→Shared→Prop}(hit:s.heap.IsTupleIter it t i)(ht:s.heap.IsTuple t items)(hx:items[i]? =some x)
  (hQ: ∀h',h'.IsTupleIter it t (i+1)→Heap.SameBut it s.heap h'→Q x {s with heap:=h'}):wpAny (model prog w) A (Builtin.SmallTypes.nextOf (.ref it)) Q E s:=by
 obtain⟨oi,hoi,hci,hdi⟩:=id hit
 obtain⟨ot,hot,_,nt,hdt⟩:=ht
 unfold Builtin.SmallTypes.nextOf;refine wpAny_bind (wpAny_callSpecial?_slot (name:=Str.ofString "__next__") hit.typeIs PySem.F.slot_tuple_iterator_next (wpAny_call_entry PySem.F.slot_tuple_iterator_next hit.typeIs PySem.F.entry_tuple_iterator_next ?_ (PySem.F.args_tuple_iterator_next_1 _)))
 show wpAny _ _ (field (.ref it) 0 >>= _) _ _ s;refine wpAny_bind (wpAny_field hoi hdi (x:= .ref t) rfl ?_)
 show wpAny _ _ (if(Value.ref t==Value.none)=true then _ else _) _ _ s;rw[if_neg (show ¬((Value.ref t==Value.none)=true)from Bool.false_ne_true)]
 show wpAny _ _ (field (.ref it) 1 >>= _) _ _ s;refine wpAny_bind (wpAny_field hoi hdi (x:= .int i 0) rfl ?_)
 show wpAny _ _ (seqItems? (.ref t) >>= _) _ _ s;refine wpAny_bind (wpAny_seqItems hot hdt ?_)
 simp only[Int.toNat_natCast,hx]
 refine wpAny_bind (wpAny_setField hoi hdi (by simp) (wpAny_pure ⟨x,rfl,wpAny_pure (hQ _ ⟨_,Heap.get?_update_self _ hoi (Obj.isFreed_of_fields (Obj.data_mapFields hdi _)),(Obj.cls_mapFields ..).trans hci,?_⟩ (Heap.SameBut.update ..))⟩))
 rw[Obj.data_mapFields hdi];simp[rawInt]
theorem bH5 {it t:Addr}{i:Nat}{items:Array Value}{Q:Value→Shared→Prop}(hh:A.handled=none)(hit:s.heap.IsTupleIter it t i)(ht:s.heap.IsTuple t items)(hx:items[i]? =none)
  (hE: ∀h' e,Heap.ExtBut it s.heap h'→(∃o,h'.get? e=some o∧o.cls= .type "StopIteration")→E (.ref e) {s with heap:=h'}):wpAny (model prog w) A (Builtin.SmallTypes.nextOf (.ref it)) Q E s:=by
 obtain⟨oi,hoi,hci,hdi⟩:=id hit
 obtain⟨ot,hot,_,nt,hdt⟩:=ht
 unfold Builtin.SmallTypes.nextOf;refine wpAny_bind (wpAny_callSpecial?_slot (name:=Str.ofString "__next__") hit.typeIs PySem.F.slot_tuple_iterator_next (wpAny_call_entry PySem.F.slot_tuple_iterator_next hit.typeIs PySem.F.entry_tuple_iterator_next ?_ (PySem.F.args_tuple_iterator_next_1 _)))
 show wpAny _ _ (field (.ref it) 0 >>= _) _ _ s;refine wpAny_bind (wpAny_field hoi hdi (x:= .ref t) rfl ?_)
 show wpAny _ _ (if(Value.ref t==Value.none)=true then _ else _) _ _ s;rw[if_neg (show ¬((Value.ref t==Value.none)=true)from Bool.false_ne_true)]
 show wpAny _ _ (field (.ref it) 1 >>= _) _ _ s;refine wpAny_bind (wpAny_field hoi hdi (x:= .int i 0) rfl ?_)
 show wpAny _ _ (seqItems? (.ref t) >>= _) _ _ s;refine wpAny_bind (wpAny_seqItems hot hdt ?_)
 simp only[Int.toNat_natCast,hx]
 refine wpAny_bind (wpAny_rule (wpAny_bind (wpAny_setField hoi hdi (by simp) ?_)))
 show wpAny _ _ (newExc (.type "StopIteration") [] >>= _) _ _ _;refine wpAny_bind ?_;simp only[newExc,newTuple];refine wpAny_bind (wpAny_newObj_type ?_ (by size_fits))
 refine wpAny_bind (m:=firstArgMember _ _) (wpAny_of_eq (a:=Value.none) (by first|rfl| (simp only[firstArgMember];rfl)) ?_);refine wpAny_newObj_type ?_ (by size_fits)
 simp only[raiseNew];refine wpAny_bind (wpAny_handled ?_);first|rw[show A.in1.handled=none from hh]|rw[hh]
 exact wpAny_bind (wpAny_pure (wpAny_throw (hE _ _ (((Heap.SameBut.update ..).extBut.push _).push _) ⟨_,Heap.get?_push_size _ rfl,rfl⟩)))
theorem c84 {T:Bool}{it a:Addr}{i:Nat}{xs:Array Value}{x:Value}{Q:Value→Shared→Prop}(hit:sN T s.heap it a i)(hl:a03 T s.heap a xs)(hx:xs[i]? =some x)
  (hQ: ∀h',sN T h' it a (i+1)→Heap.SameBut it s.heap h'→Q x {s with heap:=h'}):wpAny (model prog w) A (Builtin.SmallTypes.nextOf (.ref it)) Q E s:=by
 cases T with
 | false=>exact wpAny_nextOf_list_item hit hl hx hQ
 | true=>exact bQ9 hit hl hx hQ
theorem bR0 {T:Bool}{it a:Addr}{i:Nat}{xs:Array Value}{Q:Value→Shared→Prop}(hh:A.handled=none)(hit:sN T s.heap it a i)(hl:a03 T s.heap a xs)(hx:xs[i]? =none)
  (hE: ∀h' e,Heap.ExtBut it s.heap h'→(∃o,h'.get? e=some o∧o.cls= .type "StopIteration")→E (.ref e) {s with heap:=h'}):wpAny (model prog w) A (Builtin.SmallTypes.nextOf (.ref it)) Q E s:=by
 cases T with
 | false=>exact wpAny_nextOf_list_end hh hit hl hx hE
 | true=>exact bH5 hh hit hl hx hE
end
structure ZSt (T1 T2:Bool)(z TI TO i1 i2 l1 l2:Addr)(f0:Value)(i:Nat)(h:Heap):Prop where
 hz:IsZip h z TI TO f0
 hI:IsPair h TI (.ref i1) (.ref i2)
 hO: ∃a b,IsPair h TO a b
 h1:sN T1 h i1 l1 i
 h2:sN T2 h i2 l2 i
theorem ZSt.objs {T1 T2:Bool}{z TI TO i1 i2 l1 l2:Addr}{f0:Value}{i:Nat}{h:Heap}(st:ZSt T1 T2 z TI TO i1 i2 l1 l2 f0 i h): ∀b∈[z,TI,TO,i1,i2],∃o,h.get? b=some o∧ ∀v,o.data≠ .cell v:=fun b hb=>by
 obtain⟨hz,hI,⟨a,c,hO⟩,h1,h2⟩:=st
 simp only[List.mem_cons,List.not_mem_nil,or_false]at hb
 rcases hb with rfl|rfl|rfl|rfl|rfl
 ·exact⟨_,hz,fun v q=>by cases q⟩
 ·exact⟨_,hI,fun v q=>by cases q⟩
 ·exact⟨_,hO,fun v q=>by cases q⟩
 ·exact h1.rec'
 ·exact h2.rec'
theorem bR1:2≤sizeLine:=by decide
theorem aX7 {prog:Program}{w:World}{A:Around}{T:Bool}(hh:A.handled=none)(it a:Addr)(hne:a≠it)(xs:Array Value):Draws prog w A it [it,a] xs.size (fun i v=>xs[i]? =some v) (fun i h=>sN T h it a i∧a03 T h a xs) where
 live:=fun _ _ st=>let ⟨o,ho,_⟩:=st.1.rec';⟨o,ho⟩
 frame:=fun _ _ _ st k=>⟨st.1.at fun o e=>k it (by simp) o e,st.2.at fun o e=>k a (by simp) o e⟩
 item:=fun i s Q E hi st hQ=>c84 st.1 st.2 (x:=xs[i]) (by simp[hi]) fun h' hit' m=>hQ _ h' s.toks (by simp[hi]) ⟨hit',st.2.at fun o e=>m.extBut _ _ hne e⟩ m
 done:=fun s Q E st hE=>bR0 hh st.1 st.2 (by simp) hE
def Ite (K:PySem.W.Frag)(T:Bool)(l:Addr):It where
 go:=fun i H=> ∃xs x,SqV K T H l xs∧xs[i]? =some x
 yld:=fun i H v H'=> ∃Tn x,v= .ref Tn∧H Tn=none∧H'=upd H Tn (.tup [.int (i:Int),x])∧ ∀xs,SqV K T H l xs→xs[i]? =some x
 stop:=fun i H=> ∃xs,SqV K T H l xs∧xs.length=i
def ESt (T:Bool)(e it l:Addr)(i:Nat)(h:Heap):Prop:=(∃old,IsEnum h e it i old)∧sN T h it l i
theorem ESt.objs {T:Bool}{e it l:Addr}{i:Nat}{h:Heap}(st:ESt T e it l i h): ∀b∈[e,it],∃o,h.get? b=some o∧ ∀v,o.data≠ .cell v:=fun b hb=>by
 obtain⟨⟨old,he⟩,h1⟩:=st
 simp only[List.mem_cons,List.not_mem_nil,or_false]at hb
 rcases hb with rfl|rfl
 ·exact⟨_,he,fun v q=>by cases q⟩
 ·exact h1.rec'
theorem bH6 {P:Program}{w:World}{K:PySem.W.Frag}{elts:List Expr}{kt:Nat}{tp:Pos}{T:Bool}{e it l:Addr}(hei:e≠it)(nl:l ∉ [e,it]):b37 P w K (.Tuple elts kt tp) (Ite K T l) [e,it] e (ESt T e it l) where
 mem:=by simp
 obj:=fun i h st b hb=>st.objs b hb
 keep:=fun i h h' st k=>by
  obtain⟨⟨old,he⟩,h1⟩:=st
  exact⟨⟨old,k e (by simp) _ he⟩,h1.at fun o q=>k it (by simp) o q⟩
 item:=by
  intro X hP hw hK hc i pins s σ H E I hf st hg
  subst hP hw hK
  obtain⟨xs,x,q1,e1⟩:=hg
  obtain⟨is1,r1,p1,_⟩:=I.sq q1
  obtain⟨u1,hu1,ru1⟩:=r1.get e1
  simp only[List.mem_cons,List.not_mem_nil,or_false,not_or]at nl
  obtain⟨⟨old,he⟩,h1⟩:=id st
  have hi:i<is1.toArray.size:=by rw[List.size_toArray];exact(List.getElem?_eq_some_iff.mp hu1).1
  have D:=aX7 (prog:=X.prog) (w:=X.w) (A:=X.A.in1) (T:=T) (I.ok.hd hc) it l nl.2 is1.toArray
  refine wpAny_pyNext_enum_itemD D he ⟨h1,p1⟩ hi hei (by simp[hei,Ne.symm nl.1]) fun v h' tk hv ho hs' ht hsz k=>⟨_,rfl,wpAny_letOwnedTupleGo_enum ho fun h2 he2 m=> ?_⟩
  have ev:v=u1:=by
   have:is1.toArray[i]? =some u1:=by simpa using hu1
   rw[this]at hv;cases hv;rfl
  subst ev
  have hne:s.heap.objs.size≠e:=Nat.ne_of_gt (Heap.lt_size he)
  have kk: ∀b u,b ∉ [e,it]→s.heap.get? b=some u→h2.get? b=some u:=fun b u nb q=>by
   simp only[List.mem_cons,List.not_mem_nil,or_false,not_or]at nb
   exact m.extBut _ _ nb.1 (k b u nb.1 nb.2 q)
  have ht2:h2.get? s.heap.objs.size=some {cls:= .type "tuple",data:= .seq #[.int i tk,v]}:=m.extBut _ _ hne ht
  refine⟨.ref s.heap.objs.size,upd H s.heap.objs.size (.tup [.int (i:Int),x]),I.turnedNew (t':=tk+1) kk hf (Nat.le_refl _) ⟨bR1,[.int i tk,v],.cons ⟨tk,rfl⟩ (.cons ru1 .nil),⟨_,ht2,rfl,_,rfl⟩⟩,rfl,
   ⟨_,x,rfl,I.hok.fresh (Nat.le_refl _),rfl,fun xs' q=>by rw[I.sq_inj q q1];exact e1⟩,⟨⟨_,by simpa using he2⟩,hs'.1.at fun o q=>m.extBut _ _ (Ne.symm hei) q⟩,fun b hb=> ?_⟩
  obtain⟨o,ho',_⟩:=st.objs b hb
  rw[cB (Nat.ne_of_lt (Heap.lt_size ho'))]
  exact(hf b hb).1
 done:=by
  intro X hP hw hK hc i pins s σ H E I hf st hg
  subst hP hw hK
  obtain⟨xs,q1,hl⟩:=hg
  obtain⟨is1,r1,p1,_⟩:=I.sq q1
  have l1':=r1.length
  simp only[List.mem_cons,List.not_mem_nil,or_false,not_or]at nl
  obtain⟨⟨old,he⟩,h1⟩:=id st
  have D:=aX7 (prog:=X.prog) (w:=X.w) (A:=X.A.in1) (T:=T) (I.ok.hd hc) it l nl.2 is1.toArray
  refine wpAny_pyNext_enum_endD D he ⟨by rw[List.size_toArray,←l1',hl];exact h1,p1⟩ fun h' ex=>⟨rfl,I.turnedL (t':=s.toks) (fun b u nb q=>ex b u (fun z=>nb (by simp[z])) q) hf⟩
 self:=fun _ _ _ _ _ st h=>by
  obtain⟨⟨old,he⟩,_⟩:=st
  exact wpAny_pyIter_enum he h
theorem bH7 (l:Addr)(xs:Array Value):Meets (Builtin.«enumerate.__new__» ⟨[.type "enumerate",.ref l],[]⟩) (fun _ R s=>s.heap.IsTuple l xs∧
  R (.ok (.ret (.ref (s.heap.push (zN true l)).objs.size))) {s with heap:=(s.heap.push (zN true l)).push {cls:= .type "enumerate",data:= .fields #[.none,.bool false,.ref s.heap.objs.size,rawInt 0,.none,.none]}}):= .of_wp fun prog w A R s h=>by
 obtain⟨hp,g,d,tk,os⟩:=s
 obtain⟨hl,h⟩:=h
 obtain⟨⟨c,dct,dt,sl⟩,hg,hc,n,hd⟩:=id hl
 replace hc:c= .type "tuple":=hc
 replace hd:dt= .seq xs n:=hd
 subst hc hd
 have hsub:=sub_enumerate
 have e1:a03 true (Shared.heap ⟨hp,g,d,tk,os⟩) l xs:=hl
 wp_walk using AutoSeq1.wpAny_loadPart' hg
 refine wpAny_stack_any fun st=>wpAny_pure ?_
 split
 ·rename_i c _ _ _ _ _
  cases (c==Value.type "enumerate")<;>(wp_walk using AutoSeq1.wpAny_loadPart' hg,aL5 e1;exact⟨_,rfl,h⟩)
 ·wp_walk using AutoSeq1.wpAny_loadPart' hg,aL5 e1
  exact⟨_,rfl,h⟩
section
variable {prog:Program}{w:World}{A:Around}{E:Value→Shared→Prop}{s:Shared}
theorem bH8 {T:Bool}{l:Addr}{xs:Array Value}{Q:Value→Shared→Prop}(hl:a03 T s.heap l xs)
  (h: ∀h' e it,e≠it→s.heap.objs.size≤e→s.heap.objs.size≤it→ESt T e it l 0 h'→(∀c o,s.heap.get? c=some o→h'.get? c=some o)→Q (.ref e) {s with heap:=h'}) :
  wpAny (model prog w) A (call (.type "enumerate") [.ref l]) Q E s:=by
 cases T with
 | false=>exact call_enumerate_list hl fun h' he hit hsz k=>h h' _ _ (by omega) (by omega) (by omega) ⟨⟨_,he⟩,hit⟩ k
 | true=>
  refine callType_new PySem.F.called_enumerate (by decide) (PySem.F.typeCall_enumerate_1 _) (PySem.F.newCall_enumerate_1 _) (fun obj=>PySem.F.args_object_init_2 obj _) PySem.F.entry_enumerate_new (bH7 l xs) ⟨hl,?_⟩
  have z1:(s.heap.push (zN true l)).objs.size=s.heap.objs.size+1:=Heap.size_push ..
  have he:IsEnum ((s.heap.push (zN true l)).push {cls:= .type "enumerate",data:= .fields #[.none,.bool false,.ref s.heap.objs.size,rawInt 0,.none,.none]}) (s.heap.push (zN true l)).objs.size s.heap.objs.size 0 .none:=Heap.get?_push_size _ rfl
  have hi:sN true ((s.heap.push (zN true l)).push {cls:= .type "enumerate",data:= .fields #[.none,.bool false,.ref s.heap.objs.size,rawInt 0,.none,.none]}) s.heap.objs.size l 0:=(sN.new (T:=true) s.heap l).at fun o e=>Heap.get?_push_of_some _ e
  exact⟨⟨_,he,rfl⟩,h _ _ _ (by rw[z1];omega) (by rw[z1];omega) (Nat.le_refl _) ⟨⟨_,he⟩,hi⟩ fun c o e=>Heap.get?_push_of_some _ (Heap.get?_push_of_some _ e)⟩
end
section
variable {X:Cx}
def iEnum (K:PySem.W.Frag)(ta:TA):TI:=fun σ H R=>ta σ H fun vs H1=> ∃l T xs,vs=[.ref l]∧SqV K T H1 l xs∧R (Ite K T l) H1
theorem c85 {a:Expr}{elts:List Expr}{kt:Nat}{tp:Pos}{ta:TA}{p pos:Pos}(hg:Gl X "enumerate")(hm:X.mg "enumerate"=none)(ha:PA X [a] ta)(hs:starEach [a] X.env=[(false,eval a X.env)]:=by rfl) :
  PI X (.Tuple elts kt tp) (.Call (.Name "enumerate" p) [a] [] pos) (iEnum X.K ta):=by
 intro pins s σ H R I h
 refine Call_ (oV I hg hm PyProof.Rows.boot_enumerate (PyProof.Rows.callWith_type1 (thn (ha pos pins s σ H _ I h) fun us s1 ⟨vs,H1,I1,r1,q1⟩=> ?_) hs rfl))
 obtain⟨l,T,xs,e,q1,q⟩:=q1
 subst e
 obtain⟨u,rfl,r⟩:=vals1 r1
 cases r
 obtain⟨is1,_,p1,_⟩:=I1.sq q1
 refine bH8 p1 fun h' e it ne f1 f2 st k=> ?_
 obtain⟨⟨old,he⟩,_⟩:=id st
 refine wpAny_pyIter_enum he ?_
 have lt:=p1.lt
 have fr: ∀b∈[e,it],s1.heap.objs.size≤b:=fun b hb=>by
  simp only[List.mem_cons,List.not_mem_nil,or_false]at hb
  rcases hb with rfl|rfl
  ·exact f1
  ·exact f2
 exact⟨e,[e,it],_,_,H1,rfl,I1.kept (t':=s1.toks) k,bH6 ne (fun hb=>absurd (Nat.lt_of_lt_of_le lt (fr l hb)) (Nat.lt_irrefl _)),st,fun b hb=>I1.fpOk (fr b hb) (I1.hok.fresh (fr b hb)),q⟩
end
end L2
end
section
namespace L2
open PySem PySem.Spec PyProof.Rows
theorem a04:isSubtype (.type "range_iterator") (.type "reversed")=pure false:=by rw[isSubtype_type];kernel_rfl
theorem yG {n:Int}(h1: -(2^31)≤n)(h2:n<2^31):Builtin.Range.rangeFitsLong n=true:=by
 simp[Builtin.Range.rangeFitsLong]
 omega
def wY (n:Int):Obj:={cls:= .type "range_iterator",data:= .fields #[rawInt ((n.toNat:Int)-1),rawInt (n.toNat:Int),rawInt (-1)]}
theorem aG1 (r:Addr)(a b c:Int)(t u v:Tok)(hc0: ¬(!(Builtin.Range.rangeFitsLong a&&Builtin.Range.rangeFitsLong b&&Builtin.Range.rangeFitsLong c&&Builtin.Range.rangeFitsLong (-c)&&Builtin.Range.rangeFitsLong (a-c)&&Builtin.Range.rangeFitsLong (Builtin.Range.rangeSize a b c)))=true) :
  Meets (Builtin.«range.__reversed__» ⟨[.ref r],[]⟩) (fun _ R s=>s.heap.get? r=some {cls:= .type "range",dict:=none,data:= .fields #[.int a t,.int b u,.int c v],slots:= #[]}∧
  R (.ok (.ret (Value.ref s.heap.objs.size))) {s with heap:=s.heap.push {cls:=Value.type (if(Builtin.Range.rangeFitsLong a&&Builtin.Range.rangeFitsLong b&&Builtin.Range.rangeFitsLong c&&Builtin.Range.rangeFitsLong (-c)&&Builtin.Range.rangeFitsLong (a-c)&&Builtin.Range.rangeFitsLong (Builtin.Range.rangeSize a b c))=true then "range_iterator" else "longrange_iterator"),data:=Data.fields #[rawInt (a+(Builtin.Range.rangeSize a b c-1)*c),rawInt (Builtin.Range.rangeSize a b c),rawInt (-c)]},toks:=s.toks}):= .of_wp fun prog w A R s h=>by
 obtain⟨hp,g,d,tk,os⟩:=s
 obtain⟨hl,h⟩:=h
 wp_walk
 exact⟨_,rfl,h⟩
theorem a05 (r:Addr)(n:Int)(t u v:Tok)(h1: -(2^31)≤n)(h2:n<2^31):Meets (Builtin.«range.__reversed__» ⟨[.ref r],[]⟩) (fun _ R s=>IsRange s.heap r 0 n 1 t u v∧
  R (.ok (.ret (.ref s.heap.objs.size))) {s with heap:=s.heap.push (wY n)}):=by
 have e0:Builtin.Range.rangeSize 0 n 1=(n.toNat:Int):=by rw[rangeSize_one];split<;>omega
 have sm:(Builtin.Range.rangeFitsLong 0&&Builtin.Range.rangeFitsLong n&&Builtin.Range.rangeFitsLong 1&&Builtin.Range.rangeFitsLong (-1)&&Builtin.Range.rangeFitsLong (0-1)&&Builtin.Range.rangeFitsLong (Builtin.Range.rangeSize 0 n 1))=true:=by
  rw[e0,yG h1 h2,yG (n:=0) (by decide) (by decide),yG (n:=1) (by decide) (by decide),yG (n:= -1) (by decide) (by decide),yG (n:=0-1) (by decide) (by decide),yG (n:=(n.toNat:Int)) (by omega) (by omega)]
  rfl
 have G:=aG1 r 0 n 1 t u v (by rw[sm];decide)
 intro prog w A R s h
 refine G prog w A R s ⟨h.1,?_⟩
 rw[sm,if_pos rfl,e0]
 have e1:(0:Int)+((n.toNat:Int)-1)*1=(n.toNat:Int)-1:=by omega
 rw[e1]
 exact h.2
section
variable {prog:Program}{w:World}{A:Around}{E:Value→Shared→Prop}{s:Shared}
theorem aX8 {r:Addr}{n:Int}{t u v:Tok}{Q₁:Value→Shared→Prop}(hr:IsRange s.heap r 0 n 1 t u v)(h1: -(2^31)≤n)(h2:n<2^31)
  (h:Q₁ (.ref s.heap.objs.size) {s with heap:=s.heap.push (wY n)}) :
  codeAny (model prog w) A (.call (.builtin "reversed.__new__") ⟨[.type "reversed",.ref r],[]⟩) (wants Q₁ E) s:=by
 have hT:s.TypeIs (.ref r) "range":=⟨_,hr,rfl⟩
 refine codeAny_of_tree ?_
 show wpAny _ A.in1 (do checkBuiltinCall "reversed.__new__" ⟨[.type "reversed",.ref r],[]⟩;again (.builtin "reversed.__new__" ⟨[.type "reversed",.ref r],[]⟩)) _ _ s
 refine wpAny_bind (wpAny_of_eq (PySem.F.newCall_reversed_1 _) (wpAny_pure ⟨plainId_quiet PySem.F.plain_reversed_new _,codeAny_builtin PySem.F.entry_reversed_new ?_⟩))
 rw[Around.under_plainId PySem.F.plain_reversed_new _];unfold Builtin.«reversed.__new__»
 refine wpAny_bind (wpAny_of_eq (newClass_reversed _) ?_);try dsimp only
 refine wpAny_bind (wpAny_of_eq (a:=()) (by first|rfl|kernel_rfl) ?_);refine wpAny_bind (wpAny_of_eq (a:=()) (by first|rfl|kernel_rfl) ?_);try dsimp only
 refine wpAny_bind (wpAny_specialOf hT PySem.F.slot_range_reversed.lookup ?_);try dsimp only
 refine wpAny_bind (wpAny_of_eq (PySem.F.slot_range_reversed.bind _) ?_);try dsimp only
 first
 | rw[if_neg (show ¬((Value.builtin "range.__reversed__"==Value.none)=true)from Bool.false_ne_true)]
 | (show wpAny _ _ (if(Value.builtin "range.__reversed__"==Value.none)=true then _ else _) _ _ _;rw[if_neg (show ¬((Value.builtin "range.__reversed__"==Value.none)=true)from Bool.false_ne_true)])
 refine wpAny_bind (wpAny_rule ?_)
 refine wpAny_bind (m:=runValue (.call (.builtin "range.__reversed__") ⟨[.ref r],[]⟩)) (show wpAny _ _ (call (.builtin "range.__reversed__") [.ref r]) _ _ _ from call_meets PySem.F.slot_range_reversed hT PySem.F.entry_range_reversed (PySem.F.args_range_reversed_1 _) (a05 r n t u v h1 h2) ⟨hr,?_⟩)
 first
 | exact wpAny_pure h
 | exact wpAny_bind (wpAny_pure (wpAny_pure h))
theorem c86 {r:Addr}{n:Int}{t u v:Tok}{Q:Value→Shared→Prop}(hr:IsRange s.heap r 0 n 1 t u v)(h1: -(2^31)≤n)(h2:n<2^31)(h:Q (.ref s.heap.objs.size) {s with heap:=s.heap.push (wY n)}) :
  wpAny (model prog w) A (call (.type "reversed") [.ref r]) Q E s:=by
 refine callType_other (U:="range_iterator") (Q₁:=fun obj s₁=>obj= .ref s.heap.objs.size∧s₁={s with heap:=s.heap.push (wY n)}) (by decide +kernel) PySem.F.create_reversed ⟨_,_,PySem.F.mro_reversed⟩ PySem.F.made_reversed a04 (PySem.F.typeCall_reversed_1 _) (aX8 hr h1 h2 ⟨rfl,rfl⟩) ?_
 rintro obj s₁ ⟨rfl,rfl⟩
 exact⟨⟨_,Heap.get?_push_size _ rfl,rfl⟩,h⟩
end
section
variable {X:Cx}{tg:Expr}
def iRevR (ta:TA):TI:=fun σ H R=>ta σ H fun vs H1=> ∃j:Int,vs=[.int j]∧ -(2^31)≤j∧j<2^31∧R (Itd ((j.toNat:Int)-1) j.toNat) H1
theorem aX9 {a:Expr}{ta:TA}{p p2 pos pos2:Pos}(hg:Gl X "reversed")(hm:X.mg "reversed"=none)(hg2:Gl X "range")(hm2:X.mg "range"=none)(ha:PA X [a] ta)(hs:starEach [a] X.env=[(false,eval a X.env)]:=by rfl)
  (hs2:starEach [.Call (.Name "range" p2) [a] [] pos2] X.env=[(false,eval (.Call (.Name "range" p2) [a] [] pos2) X.env)]:=by rfl) :
  PI X tg (.Call (.Name "reversed" p) [.Call (.Name "range" p2) [a] [] pos2] [] pos) (iRevR ta):=by
 intro pins s σ H R I h
 refine Call_ (oV I hg hm PyProof.Rows.boot_reversed (PyProof.Rows.callWith_type1 ?_ hs2 rfl))
 rw[hs2]
 show wpAny _ _ (spliced ((false,eval (.Call (.Name "range" p2) [a] [] pos2) X.env)::[])) _ _ s
 refine Calls.spliced_cons (Call_ (oV I hg2 hm2 boot_range (PyProof.Rows.callWith_type1 (thn (ha pos2 pins s σ H _ I h) fun us s1 ⟨vs,H1,I1,r1,q1⟩=> ?_) hs rfl)))
 obtain⟨j,e,q1,q2,q⟩:=q1
 subst e
 obtain⟨u,rfl,t,rfl⟩:=vals1 r1
 refine call_range_1 (Calls.spliced_nil ?_)
 have I2:Inv X pins σ H1 {s1 with heap:=s1.heap.push {cls:= .type "range",data:= .fields #[.int 0 s1.toks,.int j t,.int 1 (s1.toks+1)]},toks:=s1.toks+1+1}:=I1.kept fun b o e=>Heap.get?_push_of_some _ e
 refine c86 (IsRange.new ..) q1 q2 ?_
 have hi:IsRangeIter (((s1.heap.push {cls:= .type "range",data:= .fields #[.int 0 s1.toks,.int j t,.int 1 (s1.toks+1)]})).push (wY j)) (s1.heap.push {cls:= .type "range",data:= .fields #[.int 0 s1.toks,.int j t,.int 1 (s1.toks+1)]}).objs.size ((j.toNat:Int)-1) (j.toNat:Int) (-1):=Heap.get?_push_size _ rfl
 refine wpAny_pyIter_rangeiter hi ?_
 refine⟨_,[(s1.heap.push {cls:= .type "range",data:= .fields #[.int 0 s1.toks,.int j t,.int 1 (s1.toks+1)]}).objs.size],_,_,H1,rfl,I2.kept (t':=s1.toks+1+1) fun b o e=>Heap.get?_push_of_some _ e,aL1 _ ((j.toNat:Int)-1) j.toNat,?_,fun b hb=> ?_,q⟩
 ·show IsRangeIter _ _ (((j.toNat:Int)-1)+((0:Nat):Int)*(-1)) ((j.toNat:Int)-((0:Nat):Int)) (-1)
  have e1:((j.toNat:Int)-1)+((0:Nat):Int)*(-1)=(j.toNat:Int)-1:=by simp
  have e2:(j.toNat:Int)-((0:Nat):Int)=(j.toNat:Int):=by simp
  rw[e1,e2]
  exact hi
 ·have e:b=(s1.heap.push {cls:= .type "range",data:= .fields #[.int 0 s1.toks,.int j t,.int 1 (s1.toks+1)]}).objs.size:=by simpa using hb
  subst e
  exact I2.fpOk (Nat.le_refl _) (I2.hok.fresh (Nat.le_refl _))
theorem bR2:PGet X (rIxL X.K):=by
 intro pins s σ H o i ov iv Q I ro ri h
 obtain⟨p,xs,k,z,rfl,rfl,hq,he,q⟩:=h
 cases ro
 obtain⟨t,rfl⟩:=ri
 obtain⟨its,r,pl,hz⟩:=I.list hq
 obtain⟨j,h1,h2,h3,h4,h5⟩:=a65 he
 obtain⟨w,ew,rw'⟩:=r.get h2
 have hl:=r.length
 have hn:=y8
 have fin:EP X pins σ Q w s:=⟨z,H,I,rw',q⟩
 by_cases h0:0≤k
 ·have hj:k.toNat=j:=by
   rw[seqIndex_of h0 h5]at h1
   exact Option.some.inj h1
  exact wpAny_getItem_list pl.isList h0 (by omega) (by rw[hj];simpa using ew) fin
 ·have hj:(k+(its.toArray.size:Int)).toNat=j:=by
   rw[seqIndex_neg (by omega) h4]at h1
   rw[List.size_toArray,←hl]
   exact Option.some.inj h1
  exact wpAny_getItem_list_neg pl.isList (by omega) (by rw[List.size_toArray]<;>omega) (by omega) (by rw[hj];simpa using ew) fin
end
end L2
namespace HT
open PySem PyProof.Rows
section
variable {prog:Program}{w:World}{A:Around}{E:Value→Shared→Prop}{s:Shared}
theorem getItem_tuple_whole {t sl:Addr}{items:Array Value}{vl vu:Value}{lo hi:Option Int}{Q:Value→Shared→Prop}(ht:IsTup s.heap t items)(hs:s.heap.IsSliceOf sl vl vu .none)(pl:IsPart vl lo)(pu:IsPart vu hi)
  (hw:sIx items.size 0 lo=0∧sIx items.size items.size hi=items.size) (h:Q (.ref t) s):wpAny (model prog w) A (getItem (.ref t) (.ref sl)) Q E s:=by
 obtain⟨os,hos,hcs,hds⟩:=id hs
 have hTs:s.TypeIs (.ref sl) "slice":=⟨os,hos,hcs⟩
 unfold getItem
 try with_reducible refine wpAny_holding ?_
 first|refine wpAny_bind (wpAny_pure ?_)|skip
 refine wpAny_bind (wpAny_sequenceKey ht.typeIs (by decide) ?_)
 refine wpAny_bind (wpAny_callSpecial?_slot (name:=Str.ofString "__getitem__") ht.typeIs PyProof.Rows.slot_tuple_getitem (wpAny_call_entry PyProof.Rows.slot_tuple_getitem ht.typeIs entry_tuple_getitem ?_ (args_tuple_getitem _ _)))
 show wpAny _ _ (Builtin.Tuple.tupleItemsOf (.ref t) >>= _) _ _ s
 refine wpAny_bind (tupleItemsOf_ ht ?_)
 refine wpAny_bind (wpAny_typeOf hTs ?_)
 rw[if_pos (by decide)]
 refine wpAny_bind (qG hs pl pu ?_)
 have hyes:(((sIx items.size 0 lo:Nat):Int)==0&&(1:Int)==1&&(sIx items.size items.size hi-sIx items.size 0 lo)==items.size)=true:=by
  rw[hw.1,hw.2];simp
 show wpAny _ _ (if(((sIx items.size 0 lo:Nat):Int)==0&&(1:Int)==1&&(sIx items.size items.size hi-sIx items.size 0 lo)==items.size)=true then _ else _) _ _ s
 rw[if_pos hyes]
 show wpAny _ _ (Builtin.Tuple.tupleIsExact (.ref t) >>= _) _ _ s
 unfold Builtin.Tuple.tupleIsExact
 refine wpAny_bind (wpAny_bind (wpAny_typeOf ht.typeIs (wpAny_pure ?_)))
 show wpAny _ _ (if(Value.type "tuple"==Value.type "tuple")=true then _ else _) _ _ s
 rw[if_pos (by decide)]
 refine wpAny_bind (wpAny_rule ?_)
 first
  | exact wpAny_pure ⟨_,rfl,wpAny_pure h⟩
  | exact wpAny_bind (wpAny_pure (wpAny_pure ⟨_,rfl,wpAny_pure h⟩))
  | exact wpAny_bind (wpAny_pure ⟨_,rfl,wpAny_pure h⟩)
end
end HT
namespace L2
open PySem PySem.Spec PyProof.Rows
section
variable {X:Cx}
def rSlW (K:PySem.W.Frag):V→Option Int→Option Int→Hp→VK→Prop:=fun x lo hi H Q=> ∃a xs,x= .ref a∧SqT K H a xs∧(HT.sIx xs.length 0 lo=0∧HT.sIx xs.length xs.length hi=xs.length)∧Q (.ref a) H
theorem bR3:SlR X (rSlW X.K):=by
 intro pins s σ H x v vl vu lo hi sl Q I rx hs pl pu h
 obtain⟨a,xs,rfl,hx,hw,q⟩:=h
 cases rx
 obtain⟨its,r,ht,hz⟩:=I.tuple hx
 have hlen:its.toArray.size=xs.length:=by rw[List.size_toArray];exact r.length.symm
 exact⟨"tuple",_,PyProof.Rows.slot_tuple_getitem.lookup,ht.typeIs,HT.getItem_tuple_whole ht hs pl pu (by rw[hlen];exact hw) ⟨.ref a,H,I,rfl,q⟩⟩
end
end L2
namespace M
open PySem PySem.Spec PyProof.Rows L2
section
variable {X:Cx}{K:PySem.W.Frag}{A:AS}{H:Hp}{e a b:Expr}{te ti:UE}{pos p2:Pos}{C:C0}{ρ ρ':Ev}{σ:L2.St}
def gSlT (d:D)(lo hi:Option Int)(Q:B→Prop):Prop:=match d with
 | .tup l=>Q (.pu (.tup (cutD l lo hi)))
 | .lst l=>Q (.ow (cutD l lo hi))
 | .rol l=>Q (.ow (cutD l lo hi))
 | _=>False
def uSlT (t:UE)(tl th:UO):UE:=fun ρ Q=>t ρ fun b0 ρ1=>tl ρ1 fun lo ρ2=>th ρ2 fun hi ρ3=>gSlT b0.d lo hi fun b=>Q b ρ3
theorem bH9 (l:List D)(lo hi:Option Int)(h:HT.sIx l.length 0 lo=0∧HT.sIx l.length l.length hi=l.length):cutD l lo hi=l:=by
 unfold cutD
 rw[h.1,h.2]
 simp
theorem bI0 {tl th:UO}{lo hi:Option Expr}(he:PU X e te)(hl:PUO X lo tl)(hu:PUO X hi th):PU X (.Subscript e (.Slice lo hi none p2) pos) (uSlT te tl th):=
 gK (aW5 ((bB5.or bP0).or bR3) he hl hu) fun σ H Q ⟨C,ρ,Q0,I,h,k⟩=>⟨C,ρ,_,I,h,fun b0 ρ1 v H1 q f s r=>by
  have I1:=(I.frz f).same s
  have rr:=r.rep fun a z=>I.avF f z
  refine⟨C,ρ1,_,I1,q,fun l2 ρ2 H2 q2 f2 s2=> ?_⟩
  have I2:=(I1.frz f2).same s2
  refine⟨C,ρ2,_,I2,q2,fun h3 ρ3 H3 q3 f3 s3=> ?_⟩
  have I3:=(I2.frz f3).same s3
  have s13:=s2.trans s3
  have sAll:=s.trans s13
  have fAll:=f.trans (f2.trans f3)
  have r':Rep X.K (Av C ρ3 σ) H3 b0.d v:=rr.mono (.sub s13 fun a z=>f2.av (f3.av z))
  generalize b0.d=d at r' q3
  cases d with
  | tup l=>
   have r2:=r'
   simp only[Rep]at r'
   obtain⟨a,vs,rfl,c,rs⟩:=r'
   have hlen:=rs.length
   by_cases hw:HT.sIx l.length 0 l2=0∧HT.sIx l.length l.length h3=l.length
   ·refine .inr ⟨a,vs,rfl,c.imp And.right id,by rw[←hlen];exact hw,k _ ρ3 _ _ q3 fAll sAll ?_⟩
    show Rep _ _ _ (.tup (cutD l l2 h3)) _
    rw[bH9 l l2 h3 hw]
    exact r2
   ·exact .inl (.inr ⟨a,vs,rfl,c.imp And.right id,by rw[←hlen];exact hw,fun p n=>k _ ρ3 _ _ q3 fAll (sAll.trans (d6 n _)) (gS (fun a z=>I3.avSome z) n (rs.cut l2 h3))⟩)
  | lst l=>
   simp only[Rep]at r'
   obtain⟨a,vs,rfl,n0,c,rs⟩:=r'
   exact .inl (.inl ⟨a,vs,rfl,SqL.of c,fun p n=>k _ ρ3 _ _ q3 fAll (sAll.trans (d6 n _)) (eX sAll n (rs.cut l2 h3))⟩)
  | rol l=>
   simp only[Rep]at r'
   obtain⟨a,vs,rfl,c,rs⟩:=r'
   exact .inl (.inl ⟨a,vs,rfl,c.imp And.right id,fun p n=>k _ ρ3 _ _ q3 fAll (sAll.trans (d6 n _)) (eX sAll n (rs.cut l2 h3))⟩)
  | _=>exact(show False from q3).elim⟩
def bR4 (i:Nat)(f:Int→Int→Int)(ti te:UE):US:=fun D ρ=>mL ρ i fun _=>ti ρ fun j ρ1=>mL ρ1 i fun l1=> ∃k n x,j.d= .int k∧ixN l1.length k=some n∧l1[n]? =some (.int x)∧
 te ρ1 fun b ρ2=>mL ρ2 i fun l=> ∃y,b.d= .int y∧D.nx (ρ2.set i (some (.ow (l.set n (.int (f x y))))))
theorem c87 {x:Str}{p tpos:Pos}{ix:Expr}{op:Operator}{f:Int→Int→Int}(i:Nat)(hx:PE X (.Name x p) (a01 i))(hi:PU X ix ti)(he:PU X e te)(hp:PIp X op (ipI f))
  (ha: ∀ov iv new,augStore ix ov iv new=(do holding [new,ov,iv] (setItem ov iv new);release [new,ov,iv] [];pure .next):=by intros;rfl):PUS X (.AugAssign (.Subscript (.Name x p) ix tpos) op e pos) (bR4 i f ti te):=
 mJ (c09 hx hi bR2 he hp aW7 ha) fun D σ H ⟨C,ρ,D0,I,h,k⟩=>by
  obtain⟨l,hl,h⟩:=iR h
  obtain⟨a,vs,h1,h2,h3,h4⟩:=I.ow i l hl
  refine⟨.ref a,h1,C,ρ,_,I,h,fun j ρ1 w H1 q f1 s1 r1=> ?_⟩
  obtain⟨l1,hl1,kk,n,x0,ej,en,ex,q⟩:=iR q
  have e1:=f1.ow hl1
  rw[hl]at e1;cases e1
  have I1:=(I.frz f1).same s1
  obtain⟨a1,vs1,g1,g2,g3,g4⟩:=I1.ow i l hl1
  rw[h1]at g1;cases g1
  have rj:=r1.rep fun a z=>I.avF f1 z
  rw[ej]at rj
  have:=bB rj
  subst this
  obtain⟨v0,ev0,rv0⟩:=g4.get ex
  have:=bB rv0
  subst this
  have hat:L2.atI vs1 kk=some (.int x0):=by unfold L2.atI;rw[←g4.length,en];exact ev0
  refine⟨a,vs1,kk,_,rfl,rfl,SqL.of g2,hat,C,ρ1,_,I1,q,fun b ρ2 w2 H2 q2 f2 s2 r2=> ?_⟩
  obtain⟨l2,hl2,y,eb,q2⟩:=iR q2
  have e2:=f2.ow hl2
  rw[hl1]at e2;cases e2
  have I2:=(I1.frz f2).same s2
  obtain⟨a2,vs2,k1,k2,k3,k4⟩:=I2.ow i l hl2
  rw[h1]at k1;cases k1
  have rb:=r2.rep fun a z=>I1.avF f2 z
  rw[eb]at rb
  have:=bB rb
  subst this
  exact⟨x0,y,rfl,rfl,a,vs2,kk,n,rfl,rfl,k2,by rw[←k4.length];exact en,k.nx _ _ _ q2 (I2.write hl2 h1 (k4.set n (show Rep _ _ _ _ _ by simp only[Rep])))⟩
mutual
def pd:D→Option PyData
 | .non=>some .none
 | .bl b=>some (.bool b)
 | .int i=>some (.int i)
 | .tup l=>(pdL l).map .tuple
 | .lst l=>(pdL l).map .list
 | .rol l=>(pdL l).map .list
 | .str _=>none
 | .ty _=>none
 | .obj _ _ _=>none
 | .adr _=>none
def pdL:List D→Option (List PyData)
 | []=>some []
 | d::r=>(pd d).bind fun x=>(pdL r).map (x::·)
end
theorem aY0 {d:D}{r:List D}{xs:List PyData}(h:pdL (d::r)=some xs): ∃x ys,xs=x::ys∧pd d=some x∧pdL r=some ys:=by
 simp only[pdL]at h
 cases e:pd d with
 | none=>rw[e]at h;cases h
 | some x=>
  rw[e]at h
  cases e2:pdL r with
  | none=>rw[e2]at h;cases h
  | some ys=>rw[e2]at h;cases h;exact⟨x,ys,rfl,rfl,rfl⟩
theorem n8 {α β:Type}{o:Option α}{f:α→β}{y:β}(h:o.map f=some y): ∃x,o=some x∧y=f x:=by
 cases o with
 | none=>cases h
 | some x=>cases h;exact⟨x,rfl,rfl⟩
mutual
theorem a91: ∀(d:D) {x:PyData},pd d=some x→x.canLay0=true
 | .non,x,h=>by simp only[pd]at h;cases h;rfl
 | .bl b,x,h=>by simp only[pd]at h;cases h;rfl
 | .int i,x,h=>by simp only[pd]at h;cases h;rfl
 | .tup l,x,h=>by simp only[pd]at h;obtain⟨xs,e,rfl⟩:=n8 h;simp only[PyData.canLay0];exact a67 l e
 | .lst l,x,h=>by simp only[pd]at h;obtain⟨xs,e,rfl⟩:=n8 h;simp only[PyData.canLay0];exact a67 l e
 | .rol l,x,h=>by simp only[pd]at h;obtain⟨xs,e,rfl⟩:=n8 h;simp only[PyData.canLay0];exact a67 l e
 | .str _,x,h=>by simp only[pd]at h;cases h
 | .ty _,x,h=>by simp only[pd]at h;cases h
 | .obj _ _ _,x,h=>by simp only[pd]at h;cases h
 | .adr _,x,h=>by simp only[pd]at h;cases h
theorem a67: ∀(l:List D) {xs:List PyData},pdL l=some xs→PyData.canLayAll0 xs=true
 | [],xs,h=>by simp only[pdL]at h;cases h;rfl
 | d::r,xs,h=>by
  obtain⟨x,ys,rfl,e1,e2⟩:=aY0 h
  simp only[PyData.canLayAll0,Bool.and_eq_true]
  exact⟨a91 d e1,a67 r e2⟩
end
section
variable {pins:List (Addr×Obj)}{s:Shared}
mutual
theorem qJ (I:Inv X pins σ H s): ∀(d:D) {x:PyData} {v:V} {u:Value},pd d=some x→Rep X.K A H d v→RelV v u→ ∃as,Reads s.heap u x as
 | .non,x,v,u,h,r,q=>by simp only[pd]at h;cases h;simp only[Rep]at r;subst r;cases q;exact⟨_,.none⟩
 | .bl b,x,v,u,h,r,q=>by simp only[pd]at h;cases h;simp only[Rep]at r;subst r;cases q;exact⟨_,.bool b⟩
 | .int i,x,v,u,h,r,q=>by simp only[pd]at h;cases h;simp only[Rep]at r;subst r;obtain⟨t,rfl⟩:=q;exact⟨_,.int i t⟩
 | .tup l,x,v,u,h,r,q=>by
  simp only[pd]at h
  obtain⟨xs,e,rfl⟩:=n8 h
  simp only[Rep]at r
  obtain⟨a,vs,rfl,c,rs⟩:=r
  cases q
  obtain⟨its,rv,⟨o,ho,hc,n,hd⟩,hz⟩:=I.tuple (c.imp And.right id)
  obtain⟨as,ra⟩:=rC I l e rs rv
  exact⟨_,.tuple ho hc hd (by simpa using ra)⟩
 | .lst l,x,v,u,h,r,q=>by
  simp only[pd]at h
  obtain⟨xs,e,rfl⟩:=n8 h
  simp only[Rep]at r
  obtain⟨a,vs,rfl,n0,c,rs⟩:=r
  cases q
  obtain⟨its,rv,p,hz⟩:=I.list (SqL.of c)
  obtain⟨o,ho,hc,n,hd⟩:=p.isList
  obtain⟨as,ra⟩:=rC I l e rs rv
  exact⟨_,.list ho hc hd (by simpa using ra)⟩
 | .rol l,x,v,u,h,r,q=>by
  simp only[pd]at h
  obtain⟨xs,e,rfl⟩:=n8 h
  simp only[Rep]at r
  obtain⟨a,vs,rfl,c,rs⟩:=r
  cases q
  obtain⟨its,rv,p,hz⟩:=I.list (c.imp And.right id)
  obtain⟨o,ho,hc,n,hd⟩:=p.isList
  obtain⟨as,ra⟩:=rC I l e rs rv
  exact⟨_,.list ho hc hd (by simpa using ra)⟩
 | .str _,x,v,u,h,r,q=>by simp only[pd]at h;cases h
 | .ty _,x,v,u,h,r,q=>by simp only[pd]at h;cases h
 | .obj _ _ _,x,v,u,h,r,q=>by simp only[pd]at h;cases h
 | .adr _,x,v,u,h,r,q=>by simp only[pd]at h;cases h
theorem rC (I:Inv X pins σ H s): ∀(l:List D) {xs:List PyData} {vs:List V} {us:List Value},pdL l=some xs→bC X.K A H l vs→Vals vs us→ ∃as,ReadsAll s.heap us xs as
 | [],xs,vs,us,h,r,q=>by simp only[pdL]at h;cases h;have:=r.unnil;subst this;cases q;exact⟨_,.nil⟩
 | d::l,xs,vs,us,h,r,q=>by
  obtain⟨x,ys,rfl,e1,e2⟩:=aY0 h
  obtain⟨v,vr,rfl,r1,rs⟩:=r.uncons
  cases q with
  | cons q1 q2=>
   obtain⟨as,h1⟩:=qJ I d e1 r1 q1
   obtain⟨bs,h2⟩:=rC I l e2 rs q2
   exact⟨_,.cons h1 h2⟩
end
end
def bI1 (neg:Bool)(d e:D)(Q:B→Prop):Prop:= ∃p q,pd d=some p∧pd e=some q∧p.depth≤60∧Q (.pu (.bl (neg ^^ p.eqv q)))
theorem ou_eqD (hu:X.A.units+64<cLine):OpU X (compareOp .Eq) (bI1 false):=by
 intro A H d e v w Q0 Q hA r1 r2 g k
 obtain⟨p,q,e1,e2,hd,g⟩:=g
 refine⟨fun x y H Q=> ∃(A:AS) (d e:D) (p q:PyData),Rep X.K A H d x∧Rep X.K A H e y∧pd d=some p∧pd e=some q∧p.depth≤60∧Q (.bl (p.eqv q)) H,?_,A,d,e,p,q,r1,r2,e1,e2,hd,k _ _ H g (.refl _) (by rw[Bool.false_xor];exact jE)⟩
 rintro pins s σ H x y v u Q I rx ry ⟨A,d,e,p,q,r1,r2,e1,e2,hd,h⟩
 obtain⟨as,ra⟩:=qJ I d e1 r1 rx
 obtain⟨bs,rb⟩:=qJ I e e2 r2 ry
 exact SeqAt.compareEq_reads ra rb (a91 d e1) (a91 e e2) (by omega) ⟨.bl _,H,I,rfl,h⟩
theorem ou_neD (hu:X.A.units+64<cLine):OpU X (compareOp .NotEq) (bI1 true):=by
 intro A H d e v w Q0 Q hA r1 r2 g k
 obtain⟨p,q,e1,e2,hd,g⟩:=g
 refine⟨fun x y H Q=> ∃(A:AS) (d e:D) (p q:PyData),Rep X.K A H d x∧Rep X.K A H e y∧pd d=some p∧pd e=some q∧p.depth≤60∧Q (.bl (!(p.eqv q))) H,?_,A,d,e,p,q,r1,r2,e1,e2,hd,k _ _ H g (.refl _) (by rw[Bool.true_xor];exact jE)⟩
 rintro pins s σ H x y v u Q I rx ry ⟨A,d,e,p,q,r1,r2,e1,e2,hd,h⟩
 obtain⟨as,ra⟩:=qJ I d e1 r1 rx
 obtain⟨bs,rb⟩:=qJ I e e2 r2 ry
 exact SeqAt.compareNe_reads ra rb (a91 d e1) (a91 e e2) (by omega) ⟨.bl _,H,I,rfl,h⟩
def SqA (K:PySem.W.Frag)(A:AS)(H:Hp)(T:Bool)(a:Addr)(vs:List V):Prop:=match T with
 | false=>(¬A a∧Rd H a (.lst vs))∨KL K a vs
 | true=>(¬A a∧Rd H a (.tup vs))∨KT K a vs
theorem SqA.sqv {T:Bool}{a':Addr}{vs:List V}{A':AS}{H':Hp}(c:SqA K A H T a' vs)(P:jD A H A' H'):SqV K T H' a' vs:=by
 cases T<;>(rcases c with⟨n,c⟩|c;exact .inl (Rd.pres P n c).2;exact .inr c)
theorem jD.self:jD A H A H:=fun _ _ n e=>⟨n,e⟩
theorem Rep.sq {d:D}{v:V}{l:List D}(r:Rep K A H d v)(h:jR d=some l): ∃T a vs,v= .ref a∧SqA K A H T a vs∧bC K A H l vs:=by
 cases d with
 | tup l'=>cases h;simp only[Rep]at r;obtain⟨a,vs,e,c,r⟩:=r;exact⟨true,a,vs,e,c,r⟩
 | lst l'=>cases h;simp only[Rep]at r;obtain⟨a,vs,e,n,c,r⟩:=r;exact⟨false,a,vs,e,.inl ⟨n,.inl c⟩,r⟩
 | rol l'=>cases h;simp only[Rep]at r;obtain⟨a,vs,e,c,r⟩:=r;exact⟨false,a,vs,e,c,r⟩
 | _=>cases h
theorem bC.at {l:List D}{vs:List V}{i:Nat}(r:bC K A H l vs)(hi:i<l.length): ∃x,vs[i]? =some x∧Rep K A H (l.getD i .non) x:=r.get (by rw[List.getD_eq_getElem?_getD,List.getElem?_eq_getElem hi];rfl)
theorem bI2 {T:Bool}{l1:Addr}{vs:List V}{l:List D}(c1:SqA K A H T l1 vs)(r1:bC K A H l vs):b53 K A H (Ite K T l1) l.length (fun i=> .tup [.int (i:Int),l.getD i .non]):=by
 have k1:=r1.length
 refine⟨fun A' H' i P hi=> ?_,fun A' H' i x H'' P hA hi y=> ?_,fun A' H' P=>⟨vs,c1.sqv P,k1.symm⟩⟩
 ·obtain⟨x,e1,_⟩:=r1.at hi
  exact⟨vs,x,c1.sqv P,e1⟩
 ·obtain⟨x1,e1,q1⟩:=r1.at hi
  obtain⟨T,a,rfl,hT,rfl,ha⟩:=y
  have ea:=ha vs (c1.sqv P)
  rw[e1]at ea;cases ea
  exact⟨d6 hT _,gS hA hT (.cons (show Rep _ _ _ _ _ by simp only[Rep]) (.cons (q1.mono P) .nil))⟩
def uZip (ta:UA):UI:=fun ρ Q=>ta ρ fun ds ρ1=>match ds with
 | [d,e]=>(match jR d,jR e with
  | some l,some m=>Q (min l.length m.length) (fun i=> .tup [l.getD i .non,m.getD i .non]) ρ1
  | _,_=>False)
 | _=>False
def bR5 (ta:UA):UI:=fun ρ Q=>ta ρ fun ds ρ1=>match ds with
 | [d]=>(match jR d with
  | some l=>Q l.length (fun i=> .tup [.int (i:Int),l.getD i .non]) ρ1
  | none=>False)
 | _=>False
theorem c88 {elts:List Expr}{kt:Nat}{tp p:Pos}{ta:UA}(hg:Gl X "enumerate")(hm:X.mg "enumerate"=none)(ha:PUA X [a] ta)(hs:starEach [a] X.env=[(false,eval a X.env)]:=by rfl) :
  PUI X (.Tuple elts kt tp) (.Call (.Name "enumerate" p) [a] [] pos) (bR5 ta):=
 a87 (c85 hg hm ha hs) fun σ H R ⟨C,ρ,Q0,I,h,k⟩=>⟨C,ρ,_,I,h,fun ds ρ1 vs H1 q f s r=>by
  split at q
  ·rename_i d
   obtain⟨v,vr,rfl,rv,rr⟩:=r.uncons
   have:=rr.unnil
   subst this
   split at q
   ·rename_i l e1
    obtain⟨T1,a1,us,rfl,c1,s1⟩:=rv.sq e1
    exact⟨a1,T1,us,rfl,c1.sqv .self,k _ _ ρ1 _ H1 q f s (bI2 c1 s1)⟩
   ·exact q.elim
  ·exact q.elim⟩
def bR6 (ta:UA):UI:=fun ρ Q=>ta ρ fun ds ρ1=>match ds with
 | [.int j]=>(-(2^31)≤j∧j<2^31)∧Q j.toNat (fun k=> .int ((j.toNat:Int)-1-k)) ρ1
 | _=>False
theorem c89 {tg:Expr}{ta:UA}{p q2 pos2:Pos}(hg:Gl X "reversed")(hm:X.mg "reversed"=none)(hg2:Gl X "range")(hm2:X.mg "range"=none)(ha:PUA X [a] ta)(hs:starEach [a] X.env=[(false,eval a X.env)]:=by rfl)
  (hs2:starEach [.Call (.Name "range" q2) [a] [] pos2] X.env=[(false,eval (.Call (.Name "range" q2) [a] [] pos2) X.env)]:=by rfl) :
  PUI X tg (.Call (.Name "reversed" p) [.Call (.Name "range" q2) [a] [] pos2] [] pos) (bR6 ta):=
 a87 (aX9 hg hm hg2 hm2 ha hs hs2) fun σ H R ⟨C,ρ,Q0,I,h,k⟩=>⟨C,ρ,_,I,h,fun ds ρ1 vs H1 q f s r=>by
  split at q
  ·rename_i j
   obtain⟨v,vr,rfl,rv,rr⟩:=r.uncons
   have:=rr.unnil
   subst this
   have:=bB rv
   subst this
   obtain⟨⟨h1,h2⟩,q⟩:=q
   exact⟨j,rfl,h1,h2,k _ _ ρ1 _ H1 q f s aL3⟩
  ·exact q.elim⟩
end
end M
end
section
namespace M
open PySem PySem.Spec PyProof.Rows L2
section
variable {X:Cx}{a b c e:Expr}{ta tb tc te:UE}{pos:Pos}
def uChain (g g':D→D→(B→Prop)→Prop)(ta tb tc:UE):UE:=fun ρ Q=>ta ρ fun x ρ1=>tb ρ1 fun y ρ2=>g x.d y.d fun b=>isB (fun k ρ3=>if k=true then tc ρ3 fun z ρ4=>g' y.d z.d fun b'=>Q b' ρ4 else Q (.pu (.bl false)) ρ3) b ρ2
theorem bC.dropLast {K:PySem.W.Frag}{A:AS}{H:Hp}{l:List D}{vs:List V}(h:bC K A H l vs):bC K A H l.dropLast vs.dropLast:=by
 rw[List.dropLast_eq_take,List.dropLast_eq_take,h.length]
 exact h.take _
def uPop (i:Nat):US:=fun D ρ=>mL ρ i fun l=>l≠[]∧D.nx (ρ.set i (some (.ow l.dropLast)))
end
end M
end
section
namespace L2
open PySem PySem.Spec PyProof.Rows
theorem yH:fillsNumberSlot (.type "tuple") "mul"=pure false:=
 PySem.fillsNumberSlot_seq (id:="tuple.__mul__") (r:=some (.builtin "tuple.__rmul__")) PySem.F.slot_tuple_mul.lookup (by decide +kernel) PySem.F.slot_tuple_rmul.lookup (by decide +kernel)
theorem aR0:seqRepeat? (.type "tuple")=pure (some (.builtin "tuple.__mul__")):=by
 unfold seqRepeat?
 rw[PySem.seqSlot_of (T:="tuple") (name:="__mul__") (id:="tuple.__mul__") PySem.F.slot_tuple_mul.lookup (by decide +kernel),PySem.seqSlot_of (T:="tuple") (name:="__rmul__") (id:="tuple.__rmul__") PySem.F.slot_tuple_rmul.lookup (by decide +kernel)]
 rfl
theorem a92 (a:Int)(t:Tok)(l:Addr)(items:Array Value)(n:Nat)(dd:Option Addr)(sl:Array (Option Value)) :
  Meets (Builtin.«int.__rmul__» ⟨[.int a t,.ref l],[]⟩) (fun _ R s=>s.heap.get? l=some {cls:= .type "tuple",dict:=dd,data:= .seq items n,slots:=sl}∧R (.ok (.ret Value.notImplemented)) s):=
 .of_wp fun prog w A R s h=>by obtain⟨hp,g,d,tk,os⟩:=s;obtain⟨hl,h⟩:=h;wp_walk using wpAny_loadPart' hl;exact⟨_,rfl,h⟩
theorem bR7 (l:Addr)(items:Array Value)(n:Nat)(dd:Option Addr)(sl:Array (Option Value))(u:Tok) :
  Meets (Builtin.«tuple.__mul__» ⟨[.ref l,.int 1 u],[]⟩) (fun _ R s=>s.heap.get? l=some {cls:= .type "tuple",dict:=dd,data:= .seq items n,slots:=sl}∧R (.ok (.ret (.ref l))) s):=
 .of_wp fun prog w A R s h=>by
  obtain⟨hp,g,d,tk,os⟩:=s;obtain⟨hl,h⟩:=h
  have f1:=AutoSeq1.idx_int
  wp_walk using wpAny_loadPart' hl
  exact⟨_,rfl,h⟩
theorem bR8 (l:Addr)(items:Array Value)(n:Nat)(dd:Option Addr)(sl:Array (Option Value))(k:Int)(u:Tok)(h1: ¬(k< -(2^63)||k≥2^63)=true)(hne: ¬(items.isEmpty||k==1)=true)(h0:(k≤0||items.isEmpty)=true) :
  Meets (Builtin.«tuple.__mul__» ⟨[.ref l,.int k u],[]⟩) (fun _ R s=>s.heap.get? l=some {cls:= .type "tuple",dict:=dd,data:= .seq items n,slots:=sl}∧R (.ok (.ret (.ref s.heap.objs.size))) {s with heap:=s.heap.push {cls:= .type "tuple",data:= .seq #[]}}):=
 .of_wp fun prog w A R s h=>by
  obtain⟨hp,g,d,tk,os⟩:=s;obtain⟨hl,h⟩:=h
  have f1:=AutoSeq1.idx_int
  wp_walk using wpAny_loadPart' hl
  rw[if_neg h1]
  wp_walk using wpAny_loadPart' hl
  exact⟨_,rfl,h⟩
theorem bR9 (l:Addr)(items:Array Value)(n:Nat)(dd:Option Addr)(sl:Array (Option Value))(k:Int)(u:Tok)(h1: ¬(k< -(2^63)||k≥2^63)=true)(hne: ¬(items.isEmpty||k==1)=true)(h0: ¬(k≤0||items.isEmpty)=true)
  (h2: ¬items.size*k>(2^63-1)/8) (h3: ¬Builtin.Tuple.tupleTooMany (items.size*k)=true) (hz:(List.foldl (fun x1 x2=>x1++x2) #[] (List.replicate k.toNat items)).size≤sizeLine) :
  Meets (Builtin.«tuple.__mul__» ⟨[.ref l,.int k u],[]⟩) (fun _ R s=>s.heap.get? l=some {cls:= .type "tuple",dict:=dd,data:= .seq items n,slots:=sl}∧R (.ok (.ret (.ref s.heap.objs.size))) {s with heap:=s.heap.push {cls:= .type "tuple",data:= .seq (List.foldl (fun x1 x2=>x1++x2) #[] (List.replicate k.toNat items))}}):=
 .of_wp fun prog w A R s h=>by
  obtain⟨hp,g,d,tk,os⟩:=s;obtain⟨hl,h⟩:=h
  have f1:=AutoSeq1.idx_int
  wp_walk using wpAny_loadPart' hl
  rw[if_neg h1]
  wp_walk using wpAny_loadPart' hl
  rw[if_neg h2]
  wp_walk using wpAny_loadPart' hl
  all_goals first
   | exact⟨_,rfl,h⟩
   | (refine wpAny_ite_false (decide_eq_false (Nat.not_lt.mpr hz)) ?_
      wp_walk using wpAny_loadPart' hl
      exact⟨_,rfl,h⟩)
section
variable {X:Cx}
theorem c90:OpR X (binaryOp .Mult) (fun x y H Q=> ∃a k xs,x= .ref a∧y= .int k∧SqT X.K H a xs∧xs≠[]∧ -(2^63)≤k∧k<2^63∧xs.length*k.toNat≤sizeLine∧(k=1→Q (.ref a) H)∧(k≠1→ ∀p,H p=none→Q (.ref p) (upd H p (.tup (List.replicate k.toNat xs).flatten)))):=by
 intro pins s σ H x y v u Q I rx ry h
 obtain⟨a,k,xs,rfl,rfl,ha,hn,h1,h2,hz,q1,q2⟩:=h
 cases rx
 obtain⟨t,rfl⟩:=ry
 obtain⟨its,r,p1,_⟩:=I.tuple ha
 have hl:=r.length
 obtain⟨⟨cls,dd,data,sl⟩,ho,hc,n,hd⟩:=id p1
 simp only at hc hd
 subst hc hd
 have ne:its≠[]:=fun z=>hn (List.length_eq_zero_iff.mp (by rw[hl,z];rfl))
 have ne2:its.toArray.isEmpty=false:=by cases its with
  | nil=>exact absurd rfl ne
  | cons b r'=>rfl
 have hb: ¬(decide (k< -(2^63))||decide (k≥2^63))=true:=by simp;omega
 have f0: ∀m:Nat,List.foldl (fun x1 x2=>x1++x2) #[] (List.replicate m its.toArray)=(List.replicate m its).flatten.toArray:=fun m=>by
  have:=foldl_rep its m []
  rw[List.nil_append]at this
  exact this
 refine wpAny_binaryOp_repeat_ref (T:="tuple") (U:="int") (by decide) ⟨_,ho,rfl⟩ (fun s'=>typeIs_int s' k t) yH PySem.F.fills_int_mul PySem.F.slot_int_rmul aR0 PySem.F.slot_int_index.lookup
  (call_meets PySem.F.slot_int_rmul (typeIs_int s k t) PySem.F.entry_int_rmul (PySem.F.args_int_rmul_2 _ _) (a92 k t a its.toArray n dd sl) ⟨ho,rfl,⟨_,ho,rfl⟩,?_⟩)
 by_cases k1:k=1
 ·subst k1
  exact call_meets PySem.F.slot_tuple_mul ⟨_,ho,rfl⟩ PySem.F.entry_tuple_mul (PySem.F.args_tuple_mul_2 _ _) (bR7 a its.toArray n dd sl t) ⟨ho,.ref a,H,I,rfl,q1 rfl⟩
 have hne: ¬(its.toArray.isEmpty||k==1)=true:=by rw[ne2];simpa using k1
 by_cases k0:k≤0
 ·have e0:k.toNat=0:=by omega
  refine call_meets PySem.F.slot_tuple_mul ⟨_,ho,rfl⟩ PySem.F.entry_tuple_mul (PySem.F.args_tuple_mul_2 _ _) (bR8 a its.toArray n dd sl k t hb hne (by simp[k0])) ⟨ho,?_⟩
  have q:=q2 k1
  rw[e0]at q
  exact⟨.ref _,_,I.laid (t':=s.toks) (o:= .tup []) (fun b ob q=>Heap.get?_push_of_some _ q) (Nat.le_refl _) ⟨Nat.zero_le _,_,.nil,IsTup.new _ _⟩,rfl,q _ I.fresh⟩
 ·have ek:k=(k.toNat:Int):=by omega
  have em:(its.toArray.size:Int)*k=((its.toArray.size*k.toNat:Nat):Int):=by rw[Int.natCast_mul,←ek]
  have hs:its.toArray.size*k.toNat≤sizeLine:=by rw[List.size_toArray,←hl];exact hz
  have hcap:(sizeLine:Nat)≤(2^63-1)/8:=by decide
  refine call_meets PySem.F.slot_tuple_mul ⟨_,ho,rfl⟩ PySem.F.entry_tuple_mul (PySem.F.args_tuple_mul_2 _ _) (bR9 a its.toArray n dd sl k t hb hne (by rw[ne2];simp;omega) (by rw[em];omega) (by rw[em];unfold Builtin.Tuple.tupleTooMany;rw[decide_eq_true_eq];omega) (by rw[f0,List.size_toArray,aP4,Nat.mul_comm];simpa using hs)) ⟨ho,?_⟩
  rw[f0]
  exact⟨.ref _,_,I.laid (t':=s.toks) (o:= .tup (List.replicate k.toNat xs).flatten) (fun b ob q=>Heap.get?_push_of_some _ q) (Nat.le_refl _) ⟨by rw[aP4,Nat.mul_comm];exact hz,_,r.rep k.toNat,IsTup.new _ _⟩,rfl,q2 k1 _ I.fresh⟩
end
end L2
end
section
namespace L2
open PySem PySem.Spec PyProof.Rows
theorem bS0:typeLookup (.type "tuple") "__reversed__"=pure none:=by rw[typeLookup_type,builtinLookup_eq_fast];kernel_rfl
theorem sub_tuple_dict:isSubtype (.type "tuple") (.type "dict")=pure false:=by rw[isSubtype_type];kernel_rfl
theorem aL6:Manifest.owners.lookup (String.ofList ['d','e','s','r','e','v','e','r'].reverse)=some Manifest.sig_reversed:=by kernel_rfl
theorem j3:Slot "reversed" "__next__" "reversed.__next__":=
 .of (owner:="reversed") (n:="__next__") (by rw[typeLookup_type,builtinLookup_eq_fast];kernel_rfl) (by decide +kernel) (by decide +kernel) (by decide +kernel)
  (by first|exact .inl (by decide +kernel)|exact .inr (by decide +kernel)) (by rw[isSubtype_type];kernel_rfl)
theorem sV:entryFor table "reversed.__next__"=some Builtin.«reversed.__next__» :=entryFor_of_tree (by kernel_rfl)
theorem sI (a:Value):argsOk "reversed.__next__" ⟨[a],[]⟩:=by
 unfold argsOk;rw[signature?_of (id:="reversed.__next__") (n:=['_','_','t','x','e','n','_','_']) (o:=['d','e','s','r','e','v','e','r']) (by kernel_rfl) aL6];kernel_rfl
theorem vF:Slot "reversed" "__iter__" "reversed.__iter__":=
 .of (owner:="reversed") (n:="__iter__") (by rw[typeLookup_type,builtinLookup_eq_fast];kernel_rfl) (by decide +kernel) (by decide +kernel) (by decide +kernel)
  (by first|exact .inl (by decide +kernel)|exact .inr (by decide +kernel)) (by rw[isSubtype_type];kernel_rfl)
theorem a06 (a:Value):argsOk "reversed.__iter__" ⟨[a],[]⟩:=by
 unfold argsOk;rw[signature?_of (id:="reversed.__iter__") (n:=['_','_','r','e','t','i','_','_']) (o:=['d','e','s','r','e','v','e','r']) (by kernel_rfl) aL6];kernel_rfl
theorem a93:entryFor table "reversed.__iter__"=some Builtin.«dict_keyiterator.__iter__» :=
 entryFor_alias (id':="dict_keyiterator.__iter__") (by kernel_rfl) (by first|rfl|decide +kernel| (unfold String.splitOn;simp +decide [String.splitOnAux])) (by decide +kernel) (by kernel_rfl)
theorem aG2:Slot "reversed" "__init__" "object.__init__":=
 .of (owner:="object") (n:="__init__") (by rw[typeLookup_type,builtinLookup_eq_fast];kernel_rfl) (by decide +kernel) (by decide +kernel) (by decide +kernel)
  (by first|exact .inl (by decide +kernel)|exact .inr (by decide +kernel)) (by rw[isSubtype_type];kernel_rfl)
theorem b64:TypeCalled "reversed" "reversed.__new__" "object.__init__":=
 ⟨by decide +kernel,by decide +kernel,⟨_,_,PySem.F.mro_reversed⟩,PySem.F.made_reversed,by decide +kernel,by rw[isSubtype_type];kernel_rfl,aG2⟩
theorem c91 (l:Addr)(items:Array Value)(hfit:(items.size:Int)<2^63) :
  Meets (Builtin.«reversed.__new__» ⟨[.type "reversed",.ref l],[]⟩) (fun _ R s=>s.heap.IsTuple l items∧R (.ok (.ret (.ref s.heap.objs.size))) {s with heap:=s.heap.push {cls:= .type "reversed",data:= .fields #[.ref l,rawInt ((items.size:Int)-1)]},toks:=s.toks+1+1}):=
 .of_wp fun prog w A R s h=>by
  obtain⟨hp,g,d,tk,os⟩:=s;obtain⟨ht,h⟩:=h
  obtain⟨⟨c,dct,dt,sl⟩,hl,hc,n,hd⟩:=id ht
  replace hc:c= .type "tuple":=hc
  replace hd:dt= .seq items n:=hd
  subst hc hd
  have f1:=PySem.F.sub_reversed_self
  have f2:=bS0
  have f4:=PySem.F.slot_tuple_getitem.lookup
  have f5:=sub_tuple_dict
  have e1:IsTup (Shared.heap ⟨hp,g,d,tk,os⟩) l items:=ht
  wp_walk using wpAny_loadPart' hl,PyProof.Rows.len_tuple e1 hfit
  exact⟨_,rfl,h⟩
def nJ (h:Heap)(a l:Addr)(i:Int):Prop:= ∃o,h.get? a=some o∧o.cls= .type "reversed"∧o.data= .fields #[.ref l,rawInt i]
theorem nJ.at {h h':Heap}{a l:Addr}{i:Int}(x:nJ h a l i)(e: ∀o,h.get? a=some o→h'.get? a=some o):nJ h' a l i:=let ⟨o,ho,r⟩:=x;⟨o,e _ ho,r⟩
section
variable {prog:Program}{w:World}{A:Around}{E:Value→Shared→Prop}{s:Shared}
theorem nJ.typeIs {a l:Addr}{i:Int}(x:nJ s.heap a l i):s.TypeIs (.ref a) "reversed":=let ⟨o,ho,hc,_⟩:=x;⟨o,ho,hc⟩
theorem bS1 {l:Addr}{items:Array Value}{Q:Value→Shared→Prop}(hl:s.heap.IsTuple l items)(hfit:(items.size:Int)<2^63)
  (h:Q (.ref s.heap.objs.size) {s with heap:=s.heap.push {cls:= .type "reversed",data:= .fields #[.ref l,rawInt ((items.size:Int)-1)]},toks:=s.toks+1+1}) :
  wpAny (model prog w) A (call (.type "reversed") [.ref l]) Q E s:=
 callType_new b64 (by decide) (PySem.F.typeCall_reversed_1 _) (PySem.F.newCall_reversed_1 _) (fun obj=>PySem.F.args_object_init_2 obj _) PySem.F.entry_reversed_new (c91 l items hfit) ⟨hl,⟨_,Heap.get?_push_size _ rfl,rfl⟩,h⟩
theorem a94 {it l:Addr}{i:Int}{Q:Value→Shared→Prop}(hit:nJ s.heap it l i)(h:Q (.ref it) s):wpAny (model prog w) A (pyIter (.ref it)) Q E s:=by
 refine wpAny_pyIter_slot hit.typeIs vF (wpAny_call_entry vF hit.typeIs a93 ?_ (a06 _))
 show wpAny _ _ (ret (.ref it)) _ _ s
 exact wpAny_pure ⟨_,rfl,"reversed",_,hit.typeIs,j3.lookup,h⟩
theorem bS2 {it l:Addr}{i:Nat}{items:Array Value}{x:Value}{Q:Option Value→Shared→Prop}(hit:nJ s.heap it l (i:Int))(hl:s.heap.IsTuple l items)(hx:items[i]? =some x)(hfit:(i:Int)<2^63)
  (hQ: ∀h' tk,nJ h' it l ((i:Int)-1)→Heap.SameBut it s.heap h'→Q (some x) {s with heap:=h',toks:=tk}):wpAny (model prog w) A (pyNext (.ref it)) Q E s:=by
 obtain⟨o,ho,hc,hd⟩:=id hit
 have hlt:i<items.size:=(Array.getElem?_eq_some_iff.mp hx).1
 have hi:seqIndex? (i:Int) items.size=some i:=by
  unfold seqIndex?
  simp
  omega
 have tl:s.TypeIs (.ref l) "tuple":=hl.typeIs
 unfold pyNext
 refine wpAny_bind (wpAny_attempt (wpAny_callSpecial?_slot (name:=Str.ofString "__next__") hit.typeIs j3
  (wpAny_call_entry j3 hit.typeIs sV ?_ (sI _))))
 unfold Builtin.«reversed.__next__»
 refine wpAny_bind (wpAny_of_eq (a:=(Value.ref it,[])) rfl ?_)
 try dsimp only
 refine wpAny_bind (wpAny_field ho hd (x:= .ref l) rfl ?_)
 refine wpAny_bind (wpAny_field ho hd (x:=rawInt (i:Int)) rfl ?_)
 show wpAny _ _ (if(i:Int)<0 then _ else _) _ _ s
 rw[if_neg (by omega)]
 try dsimp only
 refine wpAny_bind (wpAny_specialOf tl PySem.F.slot_tuple_getitem.lookup ?_)
 try dsimp only
 rw[if_neg (by simp)]
 refine wpAny_bind (wpAny_mkInt ?_)
 have ht:IsTup s.heap l items:=hl
 refine wpAny_bind (wpAny_attempt (PyProof.Rows.getItem_tuple (s:={s with toks:=s.toks+1}) ht (by omega) hfit hi hx ?_))
 try dsimp only
 refine wpAny_bind (wpAny_field ho hd (x:=rawInt (i:Int)) rfl ?_)
 show wpAny _ _ (setField (.ref it) 1 (rawInt ((i:Int)-1)) >>= _) _ _ _
 refine wpAny_bind (wpAny_setField ho hd (by simp) ?_)
 refine wpAny_pure ⟨x,rfl,wpAny_pure (hQ _ _ ?_ (Heap.SameBut.update ..))⟩
 exact⟨_,Heap.get?_update_self _ ho (Obj.isFreed_of_fields (Obj.data_mapFields hd _)),(Obj.cls_mapFields ..).trans hc,by
  rw[Obj.data_mapFields hd];simp⟩
theorem c92 {it l:Addr}{Q:Option Value→Shared→Prop}(hh:A.handled=none)(hit:nJ s.heap it l (-1))
  (hQ: ∀h',Heap.ExtBut it s.heap h'→Q none {s with heap:=h'}):wpAny (model prog w) A (pyNext (.ref it)) Q E s:=by
 obtain⟨o,ho,hc,hd⟩:=id hit
 unfold pyNext
 refine wpAny_bind (wpAny_attempt (wpAny_callSpecial?_slot (name:=Str.ofString "__next__") hit.typeIs j3
  (wpAny_call_entry j3 hit.typeIs sV ?_ (sI _))))
 unfold Builtin.«reversed.__next__»
 refine wpAny_bind (wpAny_of_eq (a:=(Value.ref it,[])) rfl ?_)
 try dsimp only
 refine wpAny_bind (wpAny_field ho hd (x:= .ref l) rfl ?_)
 refine wpAny_bind (wpAny_field ho hd (x:=rawInt (-1)) rfl ?_)
 show wpAny _ _ (if(-1:Int)<0 then _ else _) _ _ s
 rw[if_pos (by decide)]
 refine wpAny_bind (wpAny_rule ?_)
 refine wpAny_bind ?_
 show wpAny _ _ (setField (.ref it) 1 (rawInt (-1)) >>= fun _=>setField (.ref it) 0 .none) _ _ s
 refine wpAny_bind (wpAny_setField ho hd (by simp) ?_)
 refine wpAny_setField (Heap.get?_update_self _ ho (Obj.isFreed_of_fields (Obj.data_mapFields hd _))) (Obj.data_mapFields hd _) (by simp) ?_
 first
 | show wpAny _ _ (newExc (.type "StopIteration") [] >>= _) _ _ _
 | (refine wpAny_bind ?_;show wpAny _ _ (newExc (.type "StopIteration") [] >>= _) _ _ _)
 refine wpAny_bind ?_
 simp only[newExc,newTuple]
 refine wpAny_bind (wpAny_newObj_type ?_ (by size_fits))
 refine wpAny_bind (m:=firstArgMember _ _) (wpAny_of_eq (a:=Value.none) (by first|rfl| (simp only[firstArgMember];rfl)) ?_)
 refine wpAny_newObj_type ?_ (by size_fits)
 simp only[raiseNew]
 refine wpAny_bind (wpAny_handled ?_)
 first|rw[show A.in1.handled=none from hh]|rw[hh]
 refine wpAny_bind (wpAny_pure (wpAny_throw ?_))
 refine wpAny_bind (wpAny_isInstance (T:="StopIteration") (b:=true) ⟨_,Heap.get?_push_size _ rfl,rfl⟩ isSubtype_stop ?_)
 refine wpAny_pure (hQ _ ?_)
 exact((((Heap.SameBut.update ..).trans (Heap.SameBut.update ..)).extBut.push _).push _)
end
def Itv (K:PySem.W.Frag)(l:Addr)(n:Nat):It where
 go:=fun i H=>i<n∧ ∃xs,SqT K H l xs∧xs.length=n
 yld:=fun i H v H'=>H'=H∧ ∀xs,SqT K H l xs→xs[n-1-i]? =some v
 stop:=fun i H=>i=n
theorem bS3 {P:Program}{w:World}{K:PySem.W.Frag}{tg:Expr}{it l:Addr}(n:Nat)(hz:n≤sizeLine):b37 P w K tg (Itv K l n) [it] it (fun i h=>nJ h it l ((n:Int)-1-(i:Int))) where
 mem:=by simp
 obj:=fun i h st b hb=>by
  have e:b=it:=by simpa using hb
  subst e
  obtain⟨o,ho,_,hd⟩:=st
  exact⟨o,ho,fun v z=>by rw[hd]at z;cases z⟩
 keep:=fun i h h' st k=>st.at fun o e=>k it (by simp) _ e
 item:=by
  intro X hP hw hK hc i pins s σ H E I hf st hg
  subst hP hw hK
  obtain⟨f0,f1,f2,f3,f4,f5⟩:=hf it (by simp)
  obtain⟨hi,xs,hq,hl⟩:=hg
  obtain⟨its,r,p,_⟩:=I.tuple hq
  have hlen:=r.length
  have hx:xs[n-1-i]? =some (xs[n-1-i]'(by omega)):=List.getElem?_eq_getElem (by omega)
  obtain⟨u1,hu1,ru1⟩:=r.get hx
  have e1:(n:Int)-1-(i:Int)=((n-1-i:Nat):Int):=by omega
  have st':=st
  rw[e1]at st'
  have big:(sizeLine:Int)<2^63:=by decide
  refine bS2 (items:=its.toArray) (x:=u1) st' p (by simpa using hu1) (by omega) fun h' tk hr m=> ?_
  have I1:Inv X pins σ H {s with heap:=h',toks:=tk}:=I.turned (fun b o hb e=>m.extBut _ _ (by simpa using hb) e) f0 f1 f3 f4 f5
  have e2:((n-1-i:Nat):Int)-1=(n:Int)-1-((i+1:Nat):Int):=by omega
  rw[e2]at hr
  obtain⟨o,ho,hoc,hod⟩:=id hr
  exact⟨_,rfl,aW0 (s:={s with heap:=h',toks:=tk}) (n:="reversed") ho hoc hod (by decide) ⟨xs[n-1-i]'(by omega),H,I1,ru1,⟨rfl,fun ys hy=>by rw[I.tuple_inj hy hq];exact hx⟩,hr,fun b hb=>(hf b hb).1⟩⟩
 done:=by
  intro X hP hw hK hc i pins s σ H E I hf st hg
  subst hP hw hK
  obtain⟨f0,f1,f2,f3,f4,f5⟩:=hf it (by simp)
  have hg':i=n:=hg
  have st':=st
  rw[hg',show(n:Int)-1-(n:Int)= -1 by omega]at st'
  exact c92 (I.ok.hd hc) st' fun h' eb=>⟨rfl,I.turned (t':=s.toks) (fun b o hb e=>eb b o hb e) f0 f1 f3 f4 f5⟩
 self:=fun _ _ _ _ _ st h=>a94 st h
section
variable {X:Cx}{tg:Expr}
def iRevT (K:PySem.W.Frag)(ta:TA):TI:=fun σ H R=>ta σ H fun vs H1=> ∃l xs,vs=[.ref l]∧SqT K H1 l xs∧R (Itv K l xs.length) H1
theorem c93 {a:Expr}{ta:TA}{p pos:Pos}(hg:Gl X "reversed")(hm:X.mg "reversed"=none)(ha:PA X [a] ta)(hs:starEach [a] X.env=[(false,eval a X.env)]:=by rfl) :
  PI X tg (.Call (.Name "reversed" p) [a] [] pos) (iRevT X.K ta):=by
 intro pins s σ H R I h
 refine Call_ (oV I hg hm PyProof.Rows.boot_reversed (PyProof.Rows.callWith_type1 (thn (ha pos pins s σ H _ I h) fun us s1 ⟨vs,H1,I1,r1,q1⟩=> ?_) hs rfl))
 obtain⟨l,xs,e,q1,q⟩:=q1
 subst e
 obtain⟨u,rfl,r⟩:=vals1 r1
 cases r
 obtain⟨its,rv,p1,hz⟩:=I1.tuple q1
 have hl:=rv.length
 have big:(sizeLine:Int)<2^63:=by decide
 refine bS1 p1 (by rw[List.size_toArray];omega) ?_
 have hi:nJ (s1.heap.push {cls:= .type "reversed",data:= .fields #[.ref l,rawInt ((its.toArray.size:Int)-1)]}) s1.heap.objs.size l ((xs.length:Int)-1-((0:Nat):Int)):=⟨_,Heap.get?_push_size _ rfl,rfl,by
  rw[List.size_toArray,hl]
  simp⟩
 refine a94 (s:={s1 with heap:=s1.heap.push {cls:= .type "reversed",data:= .fields #[.ref l,rawInt ((its.toArray.size:Int)-1)]},toks:=s1.toks+1+1}) hi ?_
 refine⟨_,[s1.heap.objs.size],_,_,H1,rfl,I1.kept (t':=s1.toks+1+1) fun b o e=>Heap.get?_push_of_some _ e,bS3 xs.length hz,hi,fun b hb=> ?_,q⟩
 have e:b=s1.heap.objs.size:=by simpa using hb
 subst e
 exact I1.fpOk (Nat.le_refl _) (I1.hok.fresh (Nat.le_refl _))
end
end L2
namespace M
open PySem PySem.Spec PyProof.Rows L2
section
variable {X:Cx}{A:AS}{H:Hp}{K:PySem.W.Frag}{pos:Pos}{a:Expr}
theorem bI3 {l1:Addr}{vs:List V}{l:List D}(c1:SqA K A H true l1 vs)(r1:bC K A H l vs):b53 K A H (Itv K l1 vs.length) l.length (fun i=>l.getD (l.length-1-i) .non):=by
 have k1:=r1.length
 refine⟨fun A' H' i P hi=>⟨by omega,vs,c1.sqv P,rfl⟩,fun A' H' i x H'' P hA hi y=> ?_,fun A' H' P=>k1⟩
 obtain⟨x1,e1,q1⟩:=r1.at (i:=l.length-1-i) (by omega)
 obtain⟨e,ha⟩:=y
 subst e
 have ea:=ha vs (c1.sqv P)
 rw[←k1,e1]at ea
 cases ea
 exact⟨.refl _,q1.mono P⟩
def bC2 (ta:UA):UI:=fun ρ Q=>ta ρ fun ds ρ1=>match ds with
 | [.tup l]=>Q l.length (fun i=>l.getD (l.length-1-i) .non) ρ1
 | _=>False
theorem bC3 {tg:Expr}{p:Pos}{ta:UA}(hg:Gl X "reversed")(hm:X.mg "reversed"=none)(ha:PUA X [a] ta)(hs:starEach [a] X.env=[(false,eval a X.env)]:=by rfl) :
  PUI X tg (.Call (.Name "reversed" p) [a] [] pos) (bC2 ta):=
 a87 (c93 hg hm ha hs) fun σ H R ⟨C,ρ,Q0,I,h,k⟩=>⟨C,ρ,_,I,h,fun ds ρ1 vs H1 q f s r=>by
  split at q
  ·rename_i l
   obtain⟨v,vr,rfl,rv,rr⟩:=r.uncons
   have:=rr.unnil
   subst this
   simp only[Rep]at rv
   obtain⟨a1,us,rfl,c1,s1⟩:=rv
   have c2:SqA _ _ _ true a1 us:=c1
   exact⟨a1,us,rfl,c2.sqv .self,k _ _ ρ1 _ H1 q f s (bI3 c2 s1)⟩
  ·exact q.elim⟩
def bC4 (d e:D)(Q:B→Prop):Prop:=match d,e with
 | .tup l,.int k=>(l≠[]∧ -(2^63)≤k∧k<2^63∧l.length*k.toNat≤sizeLine)∧Q (.pu (.tup (List.replicate k.toNat l).flatten))
 | _,_=>False
theorem c94:OpU X (binaryOp .Mult) bC4:=by
 intro A H d e v w Q0 Q hA r1 r2 g k
 unfold bC4 at g
 split at g
 ·rename_i l kk
  have:=bB r2
  subst this
  simp only[Rep]at r1
  obtain⟨a,vs,rfl,c1,rs1⟩:=r1
  obtain⟨⟨h0,h1,h2,h3⟩,g⟩:=g
  refine⟨_,c90,a,kk,vs,rfl,rfl,c1.imp And.right id,fun z=>h0 ?_,h1,h2,by rw[←rs1.length];exact h3,fun z=> ?_,fun z p n=>k _ _ _ g (d6 n _) (gS hA n (rs1.rep _))⟩
  ·have:=rs1.length
   rw[z]at this
   exact List.length_eq_zero_iff.mp this
  ·subst z
   refine k _ _ H g (.refl _) ?_
   show Rep X.K A H (.tup _) (.ref a)
   simp only[Rep]
   exact⟨a,vs,rfl,c1,by simpa using rs1⟩
 ·exact g.elim
end
end M
end
section
namespace M
open PySem PySem.Spec PyProof.Rows L2
section
variable {X:Cx}
theorem a95 {K:PySem.W.Frag}{A:AS}{H:Hp}: ∀r:List Int,bC K A H (r.map D.int) (r.map V.int)
 | []=> .nil
 | a::r=> .cons (by simp only[Rep]) (a95 r)
theorem c95 {x:Str}{a:Addr}{r:List Int}{p:Pos}(hg:Gl X x)(hm:X.mg x=some (.ref a))(hk:KT X.K a (r.map V.int))(hd:(x==("__debug__":Str))=false:=by decide):PU X (.Name x p) (uC (.tup (r.map .int))):=
 aP5 (bA7 (v:= .ref a) hg hm rfl hd) fun A H=>by
  simp only[Rep]
  exact⟨a,r.map V.int,rfl,.inr hk,a95 r⟩
theorem kt_of {K:PySem.W.Frag}{a:Addr}{od:Option Addr}{its:Array Value}{n:Nat}{sl:Array (Option Value)}{vs:List V}(hl:K.lookup a=some ⟨.type "tuple",od,.seq its n,sl⟩)(hz:its.size≤sizeLine)(hv:Vals vs its.toList):KT K a vs:=
 ⟨_,its,n,hl,rfl,rfl,hz,hv⟩
end
end M
end
section
namespace L2
open PySem PySem.Spec PyProof.Rows
end L2
namespace M
open PySem PySem.Spec PyProof.Rows L2
section
variable {X:Cx}
def gAny:List D→(B→Prop)→Prop:=g1 fun d Q=>match d with
 | .lst l=>(match rA l with
  | some bs=>Q (.pu (.bl (bs.any id)))
  | none=>False)
 | _=>False
end
end M
end
section
namespace L2
open PySem PySem.Spec PyProof.Rows
end L2
namespace M
open PySem PySem.Spec PyProof.Rows L2
section
variable {X:Cx}{a:Expr}{pos:Pos}{ta:UE}
def gMaxL:List D→(B→Prop)→Prop:=g1 fun d Q=>match d with
 | .lst l=>(match wW l with
  | some ns=>0<ns.length∧ ∀m:Int,m∈ns→(∀a∈ns,a≤m)→Q (.pu (.int m))
  | none=>False)
 | _=>False
def D.isN:D→Bool
 | .non=>true
 | _=>false
theorem bC5 {K:PySem.W.Frag}{A:AS}{H:Hp}: ∀{d:D} {v:V},Rep K A H d v→decide (v= .non)=d.isN
 | .non,v,h=>by simp only[Rep]at h;subst h;rfl
 | .bl _,v,h=>by simp only[Rep]at h;subst h;rfl
 | .int _,v,h=>by simp only[Rep]at h;subst h;rfl
 | .str _,v,h=>by simp only[Rep]at h;subst h;rfl
 | .ty _,v,h=>by simp only[Rep]at h;subst h;rfl
 | .tup _,v,h=>by simp only[Rep]at h;obtain⟨a,vs,rfl,_⟩:=h;rfl
 | .lst _,v,h=>by simp only[Rep]at h;obtain⟨a,vs,rfl,_⟩:=h;rfl
 | .rol _,v,h=>by simp only[Rep]at h;obtain⟨a,vs,rfl,_⟩:=h;rfl
 | .obj _ _ _,v,h=>by simp only[Rep]at h;obtain⟨a,dx,vs,rfl,_⟩:=h;rfl
 | .adr _,v,h=>by simp only[Rep]at h;subst h;rfl
def aG3 (neg:Bool)(t:UE):UE:=fun ρ Q=>t ρ fun b ρ1=>Q (.pu (.bl (neg ^^ b.d.isN))) ρ1
theorem lIsN (σ:L2.St)(H:Hp)(Q:VK)(h:lE X.K (aG3 false ta) σ H Q):tIsN (lE X.K ta) σ H Q:=by
 obtain⟨C,ρ,Q0,I,h,k⟩:=h
 refine⟨C,ρ,_,I,h,fun b ρ' v H' q f s r=> ?_⟩
 have e:=bC5 (r.rep fun a z=>I.avF f z)
 refine k _ ρ' _ H' q f s ?_
 show Rep _ _ _ _ _
 simp only[Rep,Bool.false_xor]
 rw[e]
theorem lNotN (σ:L2.St)(H:Hp)(Q:VK)(h:lE X.K (aG3 true ta) σ H Q):cE6 (lE X.K ta) σ H Q:=by
 obtain⟨C,ρ,Q0,I,h,k⟩:=h
 refine⟨C,ρ,_,I,h,fun b ρ' v H' q f s r=> ?_⟩
 have e:=bC5 (r.rep fun a z=>I.avF f z)
 refine k _ ρ' _ H' q f s ?_
 show Rep _ _ _ _ _
 simp only[Rep,Bool.true_xor]
 rw[e]
theorem aR1 {j pos'}(ha:PU X a ta):PUT X (.Compare a [.Is] [.Constant .none j pos'] pos) (cN (aG3 false ta)):=aW8 (bN1 (pc_isN ha)) fun σ H Q h=>lIsN σ H _ (c68 σ H Q h)
theorem aY1 {j pos'}(ha:PU X a ta):PUT X (.Compare a [.IsNot] [.Constant .none j pos'] pos) (cN (aG3 true ta)):=aW8 (bN1 (c04 ha)) fun σ H Q h=>lNotN σ H _ (c68 σ H Q h)
end
end M
end
section
namespace M
open PySem PySem.Spec PyProof.Rows L2
mutual
def D.nl:D→Bool
 | .tup l=>D.nls l
 | .lst _=>false
 | .rol _=>false
 | .obj _ _ _=>false
 | .adr _=>false
 | .non=>true
 | .bl _=>true
 | .int _=>true
 | .str _=>true
 | .ty _=>true
def D.nls:List D→Bool
 | []=>true
 | d::l=>d.nl&&D.nls l
end
section
variable {K:PySem.W.Frag}{A A':AS}{H H':Hp}
mutual
theorem Rep.nl (p: ∀a vs,¬A a→Rd H a (.tup vs)→ ¬A' a∧Rd H' a (.tup vs)): ∀{d:D} {v:V},d.nl=true→Rep K A H d v→Rep K A' H' d v
 | .non,_,_,h=>h
 | .bl _,_,_,h=>h
 | .int _,_,_,h=>h
 | .str _,_,_,h=>h
 | .ty _,_,_,h=>h
 | .tup l,v,q,h=>by
  simp only[Rep]at h⊢
  obtain⟨a,vs,e,c,r⟩:=h
  simp only[D.nl]at q
  refine⟨a,vs,e,?_,bC.nl p q r⟩
  rcases c with⟨n,c⟩|c
  ·exact .inl (p a vs n c)
  ·exact .inr c
 | .lst _,_,q,_=>by simp only[D.nl]at q;cases q
 | .rol _,_,q,_=>by simp only[D.nl]at q;cases q
 | .obj _ _ _,_,q,_=>by simp only[D.nl]at q;cases q
 | .adr _,_,q,_=>by simp only[D.nl]at q;cases q
theorem bC.nl (p: ∀a vs,¬A a→Rd H a (.tup vs)→ ¬A' a∧Rd H' a (.tup vs)): ∀{l:List D} {vs:List V},D.nls l=true→bC K A H l vs→bC K A' H' l vs
 | [],_,_,h=>by simp only[bC]at h ⊢; exact h
 | d::ds,vs,q,h=>by
  simp only[bC]at h⊢
  simp only[D.nls,Bool.and_eq_true]at q
  obtain⟨v,vr,e,r,rs⟩:=h
  exact⟨v,vr,e,Rep.nl p q.1 r,bC.nl p q.2 rs⟩
end
end
section
variable {X:Cx}{st:Stmt}{sts:List Stmt}{e o:Expr}{pos:Pos}{t u:US}{te to:UE}{K:PySem.W.Frag}{C:C0}{ρ ρ':Ev}{σ:L2.St}{H H':Hp}
def uLook (t:UT):UT:=fun ρ Q=>t ρ fun b _=>Q b ρ
def uLookE (t:UE):UE:=fun ρ Q=>t ρ fun b _=>match b with
 | .pu d=>d.nl=true∧Q (.pu d) ρ
 | _=>False
def CZ:C0:=⟨fun _=>none,fun _=>False⟩
def sJ:Option B→Option B
 | some (.pu d)=>if d.nl=true then some (.pu d)else none
 | some (.ow l)=>if D.nls l=true then some (.ow l)else none
 | _=>none
theorem bS4 {x:Option B}{d:D}(h:sJ x=some (.pu d)):x=some (.pu d)∧d.nl=true:=by
 unfold sJ at h
 split at h
 ·split at h
  ·cases h;exact⟨rfl,by assumption⟩
  ·cases h
 ·split at h<;>cases h
 ·cases h
theorem wZ {x:Option B}{l:List D}(h:sJ x=some (.ow l)):x=some (.ow l)∧D.nls l=true:=by
 unfold sJ at h
 split at h
 ·split at h<;>cases h
 ·split at h
  ·cases h;exact⟨rfl,by assumption⟩
  ·cases h
 ·cases h
theorem bS5 {x:Option B}{l:List D}(h:sJ x=some (.bo l)):False:=by
 unfold sJ at h
 split at h
 ·split at h<;>cases h
 ·split at h<;>cases h
 ·cases h
theorem qK {i:Nat}{b:B}(h:(ρ.map sJ)[i]? =some (some b)): ∃x,ρ[i]? =some x∧sJ x=some b:=by
 rw[List.getElem?_map]at h
 cases e:ρ[i]? with
 | none=>rw[e]at h;cases h
 | some x=>rw[e]at h;exact⟨x,rfl,by simpa using h⟩
theorem bS6 {a:Addr}(h:Av CZ (ρ.map sJ) σ a):Av CZ ρ σ a:=by
 rcases h with z| ⟨i,l,h1,h2⟩
 ·exact .inl z
 ·obtain⟨x,g1,g2⟩:=qK h1
  obtain⟨rfl,_⟩:=wZ g2
  exact .inr ⟨i,l,g1,h2⟩
theorem EOk.hit {a:Addr}{vs vs':List V}(I:EOk K CZ ρ σ H)(n: ¬Av CZ ρ σ a)(h:H a=some (.lst vs)):EOk K CZ (ρ.map sJ) σ (upd H a (.lst vs')):=by
 have T: ∀b ws,¬Av CZ ρ σ b→Rd H b (.tup ws)→ ¬Av CZ (ρ.map sJ) σ b∧Rd (upd H a (.lst vs')) b (.tup ws):=by
  intro b ws nb c
  have ne:b≠a:=by
   rintro rfl
   rcases c with c| ⟨o,c⟩
   ·rw[h]at c;cases c
   ·rw[h]at c;cases c
  refine⟨fun z=>nb (bS6 z),?_⟩
  unfold Rd
  rw[cB ne]
  exact c
 refine⟨by rw[List.length_map];exact I.len,?_,?_,?_,?_,fun b o z=>(by cases z),fun b z=>z.elim⟩
 ·intro i d g
  obtain⟨x,g1,g2⟩:=qK g
  obtain⟨rfl,nl⟩:=bS4 g2
  obtain⟨v,h1,h2⟩:=I.pu i d g1
  exact⟨v,h1,Rep.nl T nl h2⟩
 ·intro i l g
  obtain⟨x,g1,g2⟩:=qK g
  obtain⟨rfl,nl⟩:=wZ g2
  obtain⟨b,ws,h1,h2,h3,h4⟩:=I.ow i l g1
  have ne:b≠a:=by
   rintro rfl
   exact n (.inr ⟨i,l,g1,h1⟩)
  exact⟨b,ws,h1,by rw[cB ne];exact h2,h3,bC.nl T nl h4⟩
 ·intro i j l l' b g1 g2 h1 h2
  obtain⟨x,g3,g4⟩:=qK g1
  obtain⟨rfl,_⟩:=wZ g4
  obtain⟨y,g5,g6⟩:=qK g2
  obtain⟨rfl,_⟩:=wZ g6
  exact I.inj i j l l' b g3 g5 h1 h2
 ·intro i l g
  obtain⟨x,g1,g2⟩:=qK g
  exact(bS5 g2).elim
def uAppZ (to te:UE):US:=fun D ρ=>to ρ fun b ρ1=>match b with
 | .pu (.lst l)=>te ρ1 fun _ ρ2=>l.length<sizeLine∧D.nx (ρ2.map sJ)
 | _=>False
end
def ltL:List Int→List Int→Bool
 | [],[]=>false
 | [],_::_=>true
 | _::_,[]=>false
 | a::x,b::y=>if a=b then ltL x y else decide (a<b)
section
variable {prog:Program}{w:World}{A:Around}{E:Value→Shared→Prop}{s:Shared}
theorem bS7 {a:Addr}{u v:Value}{n:Nat}{lt:Bool}{P:PySem.Fin→Shared→Prop}(ho:s.heap.get? a=some (seqObj "list" [u,v].toArray n))
  (hy: ∀h':Heap,(∀b o,b≠a→s.heap.get? b=some o→h'.get? b=some o)→ ∃κ:SortKind,
   (∀Q:SortKind→Shared→Prop,Q κ {s with heap:=h'}→wpAny (model prog w) A (keyKind' [u,v].toArray) Q (fun _ _=>False) {s with heap:=h'})∧
   (∀Q:Bool→Shared→Prop,Q lt {s with heap:=h'}→wpAny (model prog w) A (keyLt' κ v u) Q (fun _ _=>False) {s with heap:=h'}))
  (fi:P (.done (.ret .none)) {s with heap:=sortedHeap s.heap a [u,v] (if lt=true then [v,u].toArray else [u,v].toArray)}) :
  wpAny (model prog w) A (Builtin.«list.sort» ⟨[.ref a],[]⟩) P E s:=by
 rw[list_sort_plain]
 have la:a<s.heap.objs.size:=Heap.lt_size ho
 refine wpAny_bind (listItems_at ho rfl ?_)
 refine wpAny_bind (listUpdate_at ho rfl ?_ (show 2≤sizeLine by decide) (Nat.zero_le _))
 obtain⟨c1,h1⟩: ∃c1,(s.heap.update a (Obj.mapSeq fun _=> #[])).get? a=some (seqObj "list" #[] c1):=⟨_,get?_update_seq ho (fun _=> #[])⟩
 refine wpAny_bind (seqEpoch_at h1 rfl ?_)
 refine wpAny_bind (wpAny_newTuple ?_ (show 2≤sizeLine by decide))
 refine wpAny_bind (wpAny_newList ?_ (Nat.zero_le _))
 refine wpAny_holding ?_
 have h6:(((s.heap.update a (Obj.mapSeq fun _=> #[])).push (seqObj "tuple" [u,v].toArray 0)).push (seqObj "list" #[] 0)).get? a=some (seqObj "list" #[] c1):=by
  rw[Heap.get?_push_ne _ _ _ (by rw[size_push',Heap.size_update];exact Nat.ne_of_lt (Nat.lt_succ_of_lt la))]
  rw[Heap.get?_push_ne _ _ _ (by rw[Heap.size_update];exact Nat.ne_of_lt la)]
  exact h1
 have kp: ∀b o,b≠a→s.heap.get? b=some o→(((s.heap.update a (Obj.mapSeq fun _=> #[])).push (seqObj "tuple" [u,v].toArray 0)).push (seqObj "list" #[] 0)).get? b=some o:=fun b o ne q=>by
  have lb:b<s.heap.objs.size:=Heap.lt_size q
  rw[Heap.get?_push_ne _ _ _ (by rw[size_push',Heap.size_update];exact Nat.ne_of_lt (Nat.lt_succ_of_lt lb))]
  rw[Heap.get?_push_ne _ _ _ (by rw[Heap.size_update];exact Nat.ne_of_lt lb),Heap.get?_update_ne _ _ _ _ ne]
  exact q
 obtain⟨κ,y1,y2⟩:=hy _ kp
 show wpAny (model prog w) A _ P E {s with heap:=((s.heap.update a (Obj.mapSeq fun _=> #[])).push (seqObj "tuple" [u,v].toArray 0)).push (seqObj "list" #[] 0)}
 dsimp only
 have n2: ¬[u,v].toArray.size<2:=show ¬2<2 by decide
 rw[if_neg n2,if_neg n2]
 refine wpAny_bind (wpAny_mono (y1 (fun k s'=>k=κ∧s'={s with heap:=((s.heap.update a (Obj.mapSeq fun _=> #[])).push (seqObj "tuple" [u,v].toArray 0)).push (seqObj "list" #[] 0)}) ⟨rfl,rfl⟩) ?_ fun _ _ z=>z.elim)
 rintro k s' ⟨rfl,rfl⟩
 refine wpAny_bind (wpAny_mono (PySem.W.kat_run (ks:=[u,v]) (vs:=[u,v]) (Q:=fun st' s'=>s'={s with heap:=((s.heap.update a (Obj.mapSeq fun _=> #[])).push (seqObj "tuple" [u,v].toArray 0)).push (seqObj "list" #[] 0)}∧failedOf st'=none∧(arrOf st').map (·.2)=(if lt=true then [v,u].toArray else [u,v].toArray))
  (G:=fun p s'=>s'={s with heap:=((s.heap.update a (Obj.mapSeq fun _=> #[])).push (seqObj "tuple" [u,v].toArray 0)).push (seqObj "list" #[] 0)}∧p=(if lt=true then #[1,0]else #[0,1]))
  rfl (show 2≤2 by decide) (show 2<64 by decide) (fun p st' s' _ e2 e3 ⟨e4,e5⟩=>⟨e4,e3,?_⟩) ?_) ?_ fun _ _ z=>z)
 ·rw[PySem.W.kat_snds rfl e2,e5]
  cases lt<;>rfl
 ·show wpAny (model prog w) A (keyLt' k v u) _ (fun _ _=>False) _
  refine y2 _ ?_
  cases lt
  ·exact⟨rfl,rfl⟩
  ·refine⟨rfl,?_⟩
   rw[if_pos rfl]
   dsimp only[List.length_cons,List.length_nil]
   decide +kernel
 ·rintro⟨⟨⟩,st'⟩ s' ⟨rfl,e3,e4⟩
  dsimp only
  rw[e4]
  refine wpAny_bind (seqEpoch_at h6 rfl ?_)
  refine wpAny_bind (listUpdate_at h6 rfl ?_ (Nat.zero_le _) (by cases lt<;>exact(show 2≤sizeLine+1 by decide)))
  rw[e3]
  simp only[bne_self_eq_false,Bool.false_eq_true,if_false]
  exact wpAny_pure fi
theorem b65 {l:Addr}{u v:Value}{lt:Bool}{Q:Value→Shared→Prop}(hl:s.heap.IsList l [u,v].toArray)
  (hy: ∀(h':Heap) (A:Around),(∀b o,s.heap.get? b=some o→h'.get? b=some o)→ ∃κ:SortKind,
   (∀Q:SortKind→Shared→Prop,Q κ {s with heap:=h'}→wpAny (model prog w) A (keyKind' [u,v].toArray) Q (fun _ _=>False) {s with heap:=h'})∧
   (∀Q:Bool→Shared→Prop,Q lt {s with heap:=h'}→wpAny (model prog w) A (keyLt' κ v u) Q (fun _ _=>False) {s with heap:=h'}))
  (fi:Q (.ref (s.heap.objs.size+1)) {s with heap:=sortedAll s.heap [u,v] (if lt=true then [v,u].toArray else [u,v].toArray)}) :
  wpAny (model prog w) A (call (.builtin "sorted") [.ref l]) Q E s:=by
 refine Calls.call_function_entry kind_sorted plain_sorted entry_sorted (args_sorted1 _) ?_
 unfold Builtin.«sorted»
 refine wpAny_bind (m:=checkCount "sorted" 1 1 _) (wpAny_pure ?_)
 refine wpAny_bind (collect_list hl ?_ (show 2≤sizeLine by decide))
 refine wpAny_bind (wpAny_newList ?_ (show 2≤sizeLine by decide))
 have hz:((s.heap.push (seqObj "list" #[] 0)).update s.heap.objs.size (Obj.mapSeq (· ++[u,v].toArray))).objs.size=s.heap.objs.size+1:=by rw[Heap.size_update,size_push']
 have hL:(((s.heap.push (seqObj "list" #[] 0)).update s.heap.objs.size (Obj.mapSeq (· ++[u,v].toArray))).push (seqObj "list" [u,v].toArray 0)).get? (s.heap.objs.size+1)=some (seqObj "list" [u,v].toArray 0):=by
  rw[←hz];exact Heap.get?_push_size _ rfl
 have kp: ∀b o,s.heap.get? b=some o→(((s.heap.push (seqObj "list" #[] 0)).update s.heap.objs.size (Obj.mapSeq (· ++[u,v].toArray))).push (seqObj "list" [u,v].toArray 0)).get? b=some o:=fun b o q=>by
  have lb:b<s.heap.objs.size:=Heap.lt_size q
  rw[Heap.get?_push_ne _ _ _ (by rw[hz];exact Nat.ne_of_lt (Nat.lt_succ_of_lt lb))]
  rw[Heap.get?_update_ne _ _ _ _ (Nat.ne_of_lt lb),Heap.get?_push_ne _ _ _ (Nat.ne_of_lt lb)]
  exact q
 show wpAny _ _ _ _ _ {s with heap:=((s.heap.push (seqObj "list" #[] 0)).update s.heap.objs.size (Obj.mapSeq (· ++[u,v].toArray))).push (seqObj "list" [u,v].toArray 0)}
 rw[hz]
 refine wpAny_bind (wpAny_holding (wpAny_call_entry slot_list_sort ⟨_,hL,rfl⟩ entry_list_sort (bS7 (lt:=lt) hL (fun h' k=> ?_) ⟨_,rfl,?_⟩) (args_list_sort _)))
 ·exact hy h' _ fun b o q=>k b o (Nat.ne_of_lt (Nat.lt_succ_of_lt (Heap.lt_size q))) (kp b o q)
 ·exact wpAny_pure ⟨_,rfl,fi⟩
theorem aY2 {Q:Bool→Shared→Prop}{fin:Bool}: ∀(us ws:List Int) (x y:List Value) (i:Nat),Vals (us.map V.int) x→Vals (ws.map V.int) y→fin=decide (us.length<ws.length)→Q (ltL us ws) s→PySem.W.KatLex prog w A true fin Q (x.zip y) i s
 | [],[],x,y,i,hx,hy,hf,q=>by
  cases hx;cases hy
  rw[hf];exact q
 | [],b::ws,x,y,i,hx,hy,hf,q=>by
  cases hx
  rw[hf];exact q
 | a::us,[],x,y,i,hx,hy,hf,q=>by
  cases hx;cases hy
  rw[hf];exact q
 | a::us,b::ws,x,y,i,hx,hy,hf,q=>by
  rw[List.map_cons]at hx hy
  cases hx with
  | cons r1 hx=>
   cases hy with
   | cons r2 hy=>
    obtain⟨t1,rfl⟩:=r1
    obtain⟨t2,rfl⟩:=r2
    rw[List.zip_cons_cons]
    refine PySem.W.kat_cons (wpAny_eqBool_int ?_)
    by_cases c:a=b
    ·subst c
     rw[beq_self_eq_true]
     refine PySem.W.kat_yes (aY2 us ws _ _ (i+1) hx hy (by rw[hf];simp) ?_)
     unfold ltL at q
     rw[if_pos rfl]at q
     exact q
    ·rw[show(a==b)=false by simpa using c]
     refine PySem.W.kat_no ?_
     unfold ltL at q
     rw[if_neg c]at q
     cases e:(true&&i==0)
     ·exact PySem.W.kat_one _ _ (lt_int q)
     ·exact oneLt_int q
end
section
variable {X:Cx}
theorem b66:j0 X (.builtin "sorted") (fun xs H Q=> ∃(p a1 a2:Addr) (i j:Int) (us ws:List Int),xs=[.ref p]∧SqL X.K H p [.ref a1,.ref a2]∧SqT X.K H a1 ((i::us).map V.int)∧SqT X.K H a2 ((j::ws).map V.int)∧
  ∀l,H l=none→Q (.ref l) (upd H l (.lst (if ltL (j::ws) (i::us)=true then [.ref a2,.ref a1]else [.ref a1,.ref a2])))):=by
 intro pins s σ H xs us' Q I r h
 obtain⟨p,a1,a2,i,j,us,ws,rfl,hq,t1,t2,q⟩:=h
 obtain⟨u,rfl,rx⟩:=vals1 r
 cases rx
 obtain⟨its,rv,pl,hz⟩:=I.list hq
 obtain⟨x1,r1,k1,z1⟩:=I.tuple t1
 obtain⟨x2,r2,k2,z2⟩:=I.tuple t2
 cases rv with
 | cons g1 rv=>
 cases rv with
 | cons g2 rv=>
 cases rv
 cases g1
 cases g2
 refine b65 (lt:=ltL (j::ws) (i::us)) pl.isList (fun h' A kp=> ?_) ?_
 ·obtain⟨o1,ho1,hc1,n1,hd1⟩:=k1
  obtain⟨o2,ho2,hc2,n2,hd2⟩:=k2
  rw[List.map_cons]at r1 r2
  cases r1 with
  | cons f1 r1=>
  cases r2 with
  | cons f2 r2=>
  have v1:Vals ((i::us).map V.int) _:= .cons f1 r1
  have v2:Vals ((j::ws).map V.int) _:= .cons f2 r2
  obtain⟨t1,rfl⟩:=f1
  obtain⟨t2,rfl⟩:=f2
  refine⟨tuples' (Value.type "int" != Value.type "tuple"),fun Q' q'=> ?_,fun Q' q'=> ?_⟩
  ·refine PySem.W.kat_kind (fs:=[.int i t1,.int j t2]) (T:= .type "int") (.cons (kp _ _ ho1) hc1 hd1 rfl (.cons (kp _ _ ho2) hc2 hd2 rfl .nil)) (Nat.zero_lt_succ _) (fun v hv=> ?_) (by decide) q'
   rcases List.mem_cons.mp hv with rfl|hv
   ·exact .now
   ·rw[List.mem_singleton.mp hv]
    exact .now
  ·have e:(Value.type "int" != Value.type "tuple")=true:=by decide
   rw[e]
   refine PySem.W.kat_lt (kp _ _ ho2) hd2 (kp _ _ ho1) hd1 (aY2 _ _ _ _ 0 (by simpa using v2) (by simpa using v1) ?_ q')
   have l1:=v1.length
   have l2:=v2.length
   simp only[List.length_map]at l1 l2
   simp only[List.size_toArray]
   rw[←l1,←l2]
 ·refine⟨.ref (s.heap.objs.size+1),_,?_,rfl,q (s.heap.objs.size+1) (I.hok.fresh (Nat.le_succ _))⟩
  obtain⟨c,hc⟩:=sortedAll_at s.heap [Value.ref a1,Value.ref a2] (if ltL (j::ws) (i::us)=true then [Value.ref a2,Value.ref a1].toArray else [Value.ref a1,Value.ref a2].toArray)
  refine I.laid (t':=s.toks) (fun b o e=>sortedAll_old e) (Nat.le_succ _) ?_
  by_cases e:ltL (j::ws) (i::us)=true
  ·rw[if_pos e]at hc⊢
   exact⟨show 2≤sizeLine by decide,[.ref a2,.ref a1],c,.cons rfl (.cons rfl .nil),by rw[if_pos e];exact hc⟩
  ·rw[if_neg e]at hc⊢
   exact⟨show 2≤sizeLine by decide,[.ref a1,.ref a2],c,.cons rfl (.cons rfl .nil),by rw[if_neg e];exact hc⟩
def b67:List D→(B→Prop)→Prop:=g1 fun d Q=> ∃(i j:Int) (us ws:List Int),d= .lst [.tup ((i::us).map D.int),.tup ((j::ws).map D.int)]∧
 Q (.ow (if ltL (j::ws) (i::us)=true then [.tup ((j::ws).map D.int),.tup ((i::us).map D.int)]else [.tup ((i::us).map D.int),.tup ((j::ws).map D.int)]))
theorem bS8:qI X (.builtin "sorted") b67:=by
 intro A H ds vs Q0 Q hA r g k
 obtain⟨d,v,rfl,rfl,rv,i,j,us,ws,rfl,g'⟩:=vW g r
 simp only[Rep]at rv
 obtain⟨p,xs,rfl,np,hp,rl⟩:=rv
 obtain⟨y1,yr,rfl,s1,rl⟩:=rl.uncons
 obtain⟨y2,yr,rfl,s2,rl⟩:=rl.uncons
 have:=rl.unnil
 subst this
 have s1':=s1
 have s2':=s2
 simp only[Rep]at s1 s2
 obtain⟨a1,w1,rfl,c1,q1⟩:=s1
 obtain⟨a2,w2,rfl,c2,q2⟩:=s2
 have e1:=bC.unints q1
 have e2:=bC.unints q2
 subst e1 e2
 refine⟨_,b66,p,a1,a2,i,j,us,ws,rfl,.inl (.inl hp),c1.imp And.right id,c2.imp And.right id,fun l hl=>k _ _ _ g' (d6 hl _) ?_⟩
 cases ltL (j::ws) (i::us)
 ·exact eX (.refl _) hl (.cons s1' (.cons s2' .nil))
 ·exact eX (.refl _) hl (.cons s2' (.cons s1' .nil))
end
section
variable {prog:Program}{w:World}{A:Around}{E:Value→Shared→Prop}{s:Shared}
def aL7 (prog:Program)(w:World)(A:Around)(E:Value→Shared→Prop)(fin:Bool)(Q:Value→Shared→Prop):List (Value×Value)→Shared→Prop
 | [],s=>Q (.bool fin) s
 | (p,q)::r,s=>wpAny (model prog w) A (eqBool p q) (fun e s'=>if e=true then aL7 prog w A E fin Q r s' else wpAny (model prog w) A (richCompare .LtE p q) Q E s') E s
theorem aL7.mono {fin:Bool}{Q Q':Value→Shared→Prop}(k: ∀v s,Q v s→Q' v s): ∀(l:List (Value×Value)) (s:Shared),aL7 prog w A E fin Q l s→aL7 prog w A E fin Q' l s
 | [],s,h=>k _ s h
 | (p,q)::r,s,h=>by
  have h':wpAny (model prog w) A (eqBool p q) (fun e s'=>if e=true then aL7 prog w A E fin Q r s' else wpAny (model prog w) A (richCompare .LtE p q) Q E s') E s:=h
  refine wpAny_mono h' (fun e s' he=> ?_) fun _ _ z=>z
  cases e
  ·rw[if_neg (by decide)]at he⊢
   exact wpAny_mono he k fun _ _ z=>z
  ·rw[if_pos rfl]at he⊢
   exact aL7.mono k r s' he
end
end M
end
section
namespace L2
open PySem PySem.Spec PyProof.Rows
end L2
namespace M
open PySem PySem.Spec PyProof.Rows L2
section
variable {X:Cx}{a:Expr}{pos:Pos}{ta:UE}
def uIsB (n c:Bool)(t:UE):UE:=fun ρ Q=>t ρ fun b ρ1=>match b.d with
 | .bl k=>Q (.pu (.bl (n ^^ (k==c)))) ρ1
 | _=>False
end
end M
end
section
namespace L2
open PySem PySem.Spec PyProof.Rows
end L2
namespace M
open PySem PySem.Spec PyProof.Rows L2
section
variable {X:Cx}{a b:Expr}
def rngD (i:Int)(n:Nat):List D:=(List.range n).map fun k:Nat=> .int (i+(k:Int))
def uLR (ta:UA):UE:=fun ρ Q=>ta ρ fun ds ρ1=>match ds with
 | [.int i,.int j]=>(-(2^62)≤i∧i<2^62∧ -(2^62)≤j∧j<2^62)∧(j-i).toNat≤1000∧Q (.ow (rngD i (j-i).toNat)) ρ1
 | _=>False
end
end M
end
section
namespace L2
open PySem PySem.Spec PyProof.Rows
end L2
namespace M
open PySem PySem.Spec PyProof.Rows L2
end M
end
section
namespace L2
open PySem PySem.Spec PyProof.Rows
def Tr (h:Heap)(e T:Addr):Prop:= ∃oe vs,h.get? e=some oe∧oe.data= .fields vs∧vs[1]? =some (.ref T)
theorem Tr.one {h:Heap}{e T T':Addr}(a:Tr h e T)(b:Tr h e T'):T=T':=by
 obtain⟨o,vs,h1,h2,h3⟩:=a
 obtain⟨o',vs',g1,g2,g3⟩:=b
 rw[h1]at g1;cases g1
 rw[h2]at g2;cases g2
 rw[h3]at g3;cases g3
 rfl
structure a96 (fs:List Addr)(e:Addr)(h h':Heap):Prop where
 keep: ∀b o,h.get? b=some o→b ∉ fs→b≠e→ ¬Tr h e b→h'.get? b=some o
 slot:h.UpToSlots h'
 tr: ∀T,Tr h' e T→T∈fs∨T=e∨Tr h e T∨h.get? T=none
 rcd: ∀T,Tr h' e T→ ∃o vs,h'.get? T=some o∧o.data= .fields vs
theorem aR2 {h base:Heap}{e:Addr}{cls a0 fl:Value}(t:h.TracedAtW base e cls a0 fl): ∃T,Tr h e T∧base.get? T=none∧T≠e∧ ∃o vs,h.get? T=some o∧o.data= .fields vs:=by
 obtain⟨oe,vs,T,oT,ts,he,_,hd,h1,hb,hne,hT,hdT,_⟩:=t
 exact⟨T,⟨oe,vs,he,hd,h1⟩,hb,hne,oT,ts,hT,hdT⟩
theorem kI {h base B:Heap}{e T:Addr}{cls a0 fl:Value}(t:h.TracedAtW base e cls a0 fl)(x:Tr h e T)(hn:B.get? T=none):h.TracedAtW B e cls a0 fl:=by
 obtain⟨oe,vs,T',oT,ts,he,hc,hd,h1,hb,hne,hT,hdT,h3⟩:=t
 obtain rfl:=x.one ⟨oe,vs,he,hd,h1⟩
 exact⟨oe,vs,T,oT,ts,he,hc,hd,h1,hn,hne,hT,hdT,h3⟩
section
variable {base h:Heap}{l:List Env}{e T:Addr}{cls a0 fl:Value}
def hid (h:Heap)(l:List Env)(e T:Addr):Heap:=PySem.W.hideAll h (frs l++[e,T])
theorem qL {b:Addr}(hb:b∈frs l∨b=e∨b=T):(hid h l e T).get? b=none:=PySem.W.hideAll_none _ (by
 rcases hb with z|z|z
 ·exact List.mem_append.mpr (.inl z)
 ·exact List.mem_append.mpr (.inr (by simp[z]))
 ·exact List.mem_append.mpr (.inr (by simp[z])))
theorem x8 {b:Addr}{o:Obj}(q:h.get? b=some o)(h1:b ∉ frs l)(h2:b≠e)(h3:b≠T):(hid h l e T).get? b=some o:=PySem.W.hideAll_get _ q (by
 intro z
 rcases List.mem_append.mp z with z|z
 ·exact h1 z
 ·simp at z
  exact z.elim h2 h3)
theorem rD (f:h.FunFrames base l):h.FunFrames (hid h l e T) l:=PySem.W.funFrames_hide f fun env he b hb=>List.mem_append.mpr (.inl (List.mem_filterMap.mpr ⟨env,he,hb⟩))
theorem uO (st:base.StaysIn h)(f:h.FunFrames base l)(he:base.get? e=none)(hT:base.get? T=none):base.StaysIn (hid h l e T):=fun b o q=>x8 (st b o q) (fun z=>by rw[(f.mem z).1]at q;cases q) (fun z=>by rw[z,he]at q;cases q) fun z=>by rw[z,hT]at q;cases q
theorem qM {B h':Heap}(st:base.StaysIn B): ∀{l:List Env},h'.FunFrames B l→h'.FunFrames base l
 | [],_=>trivial
 | env::_,⟨hk,⟨L,o,hf,hn,ho,hd⟩,hr⟩=>⟨hk,⟨L,o,hf,(by
   cases q:base.get? L with
   | none=>rfl
   | some u=>have:=st L u q;rw[hn]at this;cases this),ho,hd⟩,qM st hr⟩
theorem none_of {B:Heap}(st:base.StaysIn B){b:Addr}(q:B.get? b=none):base.get? b=none:=by
 cases z:base.get? b with
 | none=>rfl
 | some u=>have:=st b u z;rw[q]at this;cases this
theorem aR3 {l':List Env}{h':Heap}(x:Tr h e T)(st:(hid h l e T).StaysIn h')(t:h'.TracedAtW (hid h l e T) e cls a0 fl)(up:h.UpToSlots h'):a96 (frs l) e h h':=by
 refine⟨fun b o q h1 h2 h3=>st b o (x8 q h1 h2 fun z=>h3 (by rw[z];exact x)),up,fun T' x'=> ?_,fun T' x'=> ?_⟩
 ·obtain⟨T2,y,hn,_,_⟩:=aR2 t
  obtain rfl:=x'.one y
  by_cases c1:T'∈frs l
  ·exact .inl c1
  by_cases c2:T'=e
  ·exact .inr (.inl c2)
  by_cases c3:T'=T
  ·exact .inr (.inr (.inl (by rw[c3];exact x)))
  refine .inr (.inr (.inr ?_))
  cases q:h.get? T' with
  | none=>rfl
  | some o=>rw[x8 q c1 c2 c3]at hn;cases hn
 ·obtain⟨T2,y,_,_,z⟩:=aR2 t
  obtain rfl:=x'.one y
  exact z
end
section
variable {M:Model}{A:Around}{E:Value→Shared→Prop}{s:Shared}{base:Heap}{env:Env}{outer:List Env}{L e:Addr}{cls a0:Value}{Q:Unit→Shared→Prop}
theorem bI4 (hfr:A.frames=some (env::outer))(hf:env.frame=some L)(F:Heap.FlyingW base (env::outer) e cls a0 s.heap)
  (hQ: ∀h',Heap.FlyingW base outer e cls a0 h'→a96 (frs (env::outer)) e s.heap h'→Q () {s with heap:=h'}):wpAny M A (leaving env (.ref e)) Q E s:=by
 obtain⟨f1,f2,f3,f4⟩:=F
 obtain⟨T,x,hT,_,_⟩:=aR2 (fl:= .none) f4
 have stB:=uO (T:=T) f1 f3 f2 hT
 refine wpAny_leaves_onW (base:=hid s.heap (env::outer) e T) hfr hf ⟨fun b o q=>PySem.W.of_hideAll _ q,qL (.inr (.inl rfl)),rD f3,kI (fl:= .none) f4 x (qL (.inr (.inr rfl)))⟩ fun h' F' up=> ?_
 obtain⟨g1,g2,g3,g4⟩:=F'
 obtain⟨T',x',hT',_,_⟩:=aR2 (fl:= .none) g4
 exact hQ h' ⟨fun b o q=>g1 b o (stB b o q),f2,qM stB g3,kI (fl:= .none) g4 x' (none_of stB hT')⟩ (aR3 (l':=outer) x g1 g4 up)
theorem bS9 (hfr:A.frames=some (env::outer))(hf:env.frame=some L)(F:Heap.FlyingW base (env::outer) e cls a0 s.heap)
  (hQ: ∀h',Heap.HeldW base (env::outer) e cls a0 L h'→a96 (frs (env::outer)) e s.heap h'→Q () {s with heap:=h'}):wpAny M A (noteFrame (.ref e) env) Q E s:=by
 obtain⟨f1,f2,f3,f4⟩:=F
 obtain⟨T,x,hT,_,_⟩:=aR2 (fl:= .none) f4
 have stB:=uO (T:=T) f1 f3 f2 hT
 refine wpAny_looks_onW (base:=hid s.heap (env::outer) e T) hfr hf ⟨fun b o q=>PySem.W.of_hideAll _ q,qL (.inr (.inl rfl)),rD f3,kI (fl:= .none) f4 x (qL (.inr (.inr rfl)))⟩ fun h' F' up=> ?_
 obtain⟨g1,g2,g3,g4⟩:=F'
 obtain⟨T',x',hT',_,_⟩:=aR2 g4
 exact hQ h' ⟨fun b o q=>g1 b o (stB b o q),f2,qM stB g3,kI g4 x' (none_of stB hT')⟩ (aR3 (l':=outer) x g1 g4 up)
theorem aY3 {l:List Env}{fl:Value}(F:base.StaysIn s.heap∧base.get? e=none∧s.heap.FunFrames base l∧s.heap.TracedAtW base e cls a0 fl)
  (hQ: ∀h',Heap.FlyingW base l e cls a0 h'→a96 (frs l) e s.heap h'→Q () {s with heap:=h'}):wpAny M A (setFlight (.ref e) none) Q E s:=by
 obtain⟨f1,f2,f3,f4⟩:=F
 obtain⟨T,x,hT,_,_⟩:=aR2 f4
 have stB:=uO (T:=T) f1 f3 f2 hT
 refine wpAny_setFlight_noneW (base:=hid s.heap l e T) (fun b o q=>PySem.W.of_hideAll _ q) (rD f3) (kI f4 x (qL (.inr (.inr rfl)))) fun h' g1 g3 g4 up=> ?_
 obtain⟨T',x',hT',_,_⟩:=aR2 (fl:= .none) g4
 exact hQ h' ⟨fun b o q=>g1 b o (stB b o q),f2,qM stB g3,kI (fl:= .none) g4 x' (none_of stB hT')⟩ (aR3 (l':=l) (fl:= .none) x g1 g4 fun b o q n=>⟨o.slots,up b o q n⟩)
theorem aY4 {oe:Obj}{vs:Array Value}(hfr:A.frames=some (env::outer))(hl:s.heap.FunFrames base (env::outer))(hf:env.frame=some L)(he:s.heap.get? e=some oe)(hkb:base.StaysIn s.heap)(hen:base.get? e=none)(hd:oe.data= .fields vs)(h1:vs[1]? =some .none)(h0:vs[0]? =some a0)
  (hQ: ∀h',Heap.FlyingW base outer e oe.cls a0 h'→a96 (frs (env::outer)) e s.heap h'→Q () {s with heap:=h'}):wpAny M A (leaving env (.ref e)) Q E s:=by
 have stB:=uO (e:=e) (T:=e) hkb hl hen hen
 have nt: ∀T,¬Tr s.heap e T:=by
  rintro T ⟨o,ws,k1,k2,k3⟩
  rw[he]at k1;cases k1
  rw[hd]at k2;cases k2
  rw[h1]at k3;cases k3
 refine wpAny_leaving_firstW (base:=hid s.heap (env::outer) e e) hfr (rD hl) hf he (fun b o q=>PySem.W.of_hideAll _ q) (qL (.inr (.inl rfl))) hd h1 h0 fun h' F'=> ?_
 obtain⟨g1,⟨_,_,g3⟩,g4,up⟩:=F'
 obtain⟨T',x',hT',hne,hrec⟩:=aR2 (fl:= .none) g4
 refine hQ h' ⟨fun b o q=>g1 b o (stB b o q),hen,qM stB g3,kI (fl:= .none) g4 x' (none_of stB hT')⟩ ⟨fun b o q k1 k2 _=>g1 b o (x8 q k1 k2 k2),up,fun T x2=> ?_,fun T x2=> ?_⟩
 ·obtain rfl:=x2.one x'
  by_cases c1:T∈frs (env::outer)
  ·exact .inl c1
  refine .inr (.inr (.inr ?_))
  cases q:s.heap.get? T with
  | none=>rfl
  | some o=>rw[x8 q c1 hne hne]at hT';cases hT'
 ·obtain rfl:=x2.one x'
  exact hrec
end
structure Fly (base:Heap)(l:List Env)(e C:Addr)(H:Hp)(h:Heap):Prop where
 fl: ∃a0,Heap.FlyingW base l e (.ref C) a0 h
 he:H e=none
 ht: ∀T,Tr h e T→H T=none
structure aL8 (g:Heap)(e:Addr)(h:Heap):Prop where
 he:g.get? e=none
 ht: ∀T,Tr h e T→g.get? T=none
def CXr (P:Program)(w:World)(base:Heap):CXT:=fun outer H s E e s'=> ∃a C H',e= .ref a∧s'.os=s.os∧AllBare s'.gens∧Un (frs outer) [] H H' s.heap s'.heap∧HOk P w H' s'.heap∧Fly base outer a C H' s'.heap∧aL8 s.heap a s'.heap∧E (.ref C) none H'
section
variable {P:Program}{w:World}{H H0:Hp}{h h':Heap}{fs:List Addr}{e:Addr}
theorem HOk.past (x:HOk P w H h)(p:a96 fs e h h')(hf: ∀b∈fs,H b=none)(he:H e=none)(ht: ∀T,Tr h e T→H T=none):HOk P w H h':=fun a o q=>
 (x a o q).stay (fun b u hb r=>by
  have tracked:H b≠none:=by
   rcases hb with rfl|hb
   ·rw[q];simp
   ·rw[hb];simp
  exact p.keep b u r (fun z=>tracked (hf b z)) (fun z=>tracked (by rw[z];exact he)) fun z=>tracked (ht b z)) (fun _ q=>q) fun _ _ q=>q
theorem HOk.there (x:HOk P w H h){b:Addr}(n:h.get? b=none):H b=none:=by
 cases q:H b with
 | none=>rfl
 | some o=>
  exfalso
  have hh: ∃ob,h.get? b=some ob:=by
   have y:=x b o q
   cases o with
   | lst xs=>obtain⟨_,_,_,_,e⟩:=y;exact⟨_,e⟩
   | tup xs=>obtain⟨_,_,_,ob,e,_⟩:=y;exact⟨_,e⟩
   | dK kvs=>obtain⟨_,_,_,_,o,_,_,e,_⟩:=y;exact⟨_,e⟩
   | dT kvs=>obtain⟨_,_,_,_,o,_,_,e,_⟩:=y;exact⟨_,e⟩
   | set S n=>obtain⟨o,_,_,_,e,_⟩:=y;exact⟨_,e⟩
   | ins C dx fs=>obtain⟨_,_,_,e,_⟩:=y;exact⟨_,e⟩
   | own y'=>exact y
   | xd fs=>obtain⟨_,⟨_,_,_,e,_⟩,_⟩:=y;exact⟨_,e⟩
   | rng lo hi=>obtain⟨_,_,_,e⟩:=y;exact⟨_,e⟩
   | frz ob u=>obtain⟨e,_⟩:=y;exact⟨_,e⟩
   | tbl ps=>exact⟨_,(show h.get? b=some _ from y)⟩
   | met f y'=>exact⟨_,(show h.get? b=some _ from y)⟩
   | ext φ=>obtain⟨_,e,_⟩:=y;exact e
  obtain⟨ob,e⟩:=hh
  rw[n]at e;cases e
theorem a68 (x:HOk P w H h)(p:a96 fs e h h')(hf: ∀b∈fs,H b=none)(he:H e=none)(ht: ∀T,Tr h e T→H T=none): ∀T,Tr h' e T→H T=none:=fun T q=>by
 rcases p.tr T q with z|z|z|z
 ·exact hf T z
 ·rw[z];exact he
 ·exact ht T z
 ·exact x.there z
end
section
variable {X:Cx}{pins:List (Addr×Obj)}{σ:St}{H:Hp}{s:Shared}{h':Heap}{e:Addr}
theorem Un.past {fs fs':List Addr}{H0:Hp}{g:Heap}{L:Addr}(u:Un fs [] H0 H g s.heap)(p:a96 fs' e s.heap h')(hfs: ∀b∈fs',b=L∨b∈fs)(hL:g.get? L=none)(ne:g.get? e=none)(nt: ∀T,Tr s.heap e T→g.get? T=none)(hd: ∀b∈fs,∀o,s.heap.get? b=some o→ ∀vs,o.data≠ .fields vs):Un fs [] H0 H g h' where
 keep:=fun b o q n hb hx=>p.keep b o (u.keep b o q n hb hx) (fun z=>by
  rcases hfs b z with z|z
  ·rw[z,hL]at q;cases q
  ·exact hb z) (fun z=>by rw[z,ne]at q;cases q) fun z=>by rw[nt b z]at q;cases q
 slot:=fun b o q n hb hx=>by
  obtain⟨sl,e1⟩:=u.slot b o q n hb hx
  obtain⟨sl',e2⟩:=p.slot b _ e1 (hd b hb _ e1)
  exact⟨sl',e2⟩
 free:=u.free
 there:=fun b o q hx=>by
  obtain⟨o',e1⟩:=u.there b o q hx
  by_cases c:b∈fs
  ·obtain⟨sl,e2⟩:=p.slot b _ e1 (hd b c _ e1)
   exact⟨_,e2⟩
  ·exact⟨o',p.keep b o' e1 (fun z=>by
    rcases hfs b z with z|z
    ·rw[z,hL]at q;cases q
    ·exact c z) (fun z=>by rw[z,ne]at q;cases q) fun z=>by rw[nt b z]at q;cases q⟩
 tups:=u.tups
 frzs:=u.frzs
 tbls:=u.tbls
end
section
variable {P:Program}{w:World}{K:PySem.W.Frag}{mg:Str→Option Value}{base:Heap}{N:List Str}{qual:Str}{scope:Scope}{f:Addr}{cd:Value}{A:Around}{outer:List Env}{s0:Shared}{H0:Hp}{E:XK}{CX:CXT}
theorem bT0 {pins:List (Addr×Obj)}{σ:St}{H:Hp}{s':Shared}{a C:Addr}(I:Inv (cL (CXr P w base) P w K mg base N qual scope f cd A outer s0 H0 E) pins σ H s')(F:Fly base (envOfC qual scope s0.heap.objs.size f cd::outer) a C H s'.heap)(nw:aL8 s0.heap a s'.heap)(hE:E (.ref C) none H) :
  (cL (CXr P w base) P w K mg base N qual scope f cd A outer s0 H0 E).xe (.ref a) s':=by
 obtain⟨⟨a0,fl⟩,he,ht⟩:=F
 have fr:(A.deeper (envOfC qual scope s0.heap.objs.size f cd)).frames=some (envOfC qual scope s0.heap.objs.size f cd::outer):=I.ok.frames
 have sf: ∀b∈frs (envOfC qual scope s0.heap.objs.size f cd::outer),H b=none:=I.stkFree
 have fm: ∀b∈frs (envOfC qual scope s0.heap.objs.size f cd::outer),b=s0.heap.objs.size∨b∈frs outer:=fun b hb=>by
  unfold frs at hb⊢
  rw[List.filterMap_cons]at hb
  have e:(envOfC qual scope s0.heap.objs.size f cd).frame=some s0.heap.objs.size:=rfl
  rw[e]at hb
  exact List.mem_cons.mp hb
 show wpAny _ _ (leaving _ (.ref a)) _ _ s'
 refine bI4 fr (L:=s0.heap.objs.size) rfl fl fun h' fl' p=> ?_
 have hd: ∀b∈frs outer,∀o,s'.heap.get? b=some o→ ∀vs,o.data≠ .fields vs:=fun b hb o q=>by
  obtain⟨_,o',q',n⟩:=fl.2.2.1.mem (b:=b) (by
   unfold frs at hb
   rw[List.filterMap_cons]
   have e:(envOfC qual scope s0.heap.objs.size f cd).frame=some s0.heap.objs.size:=rfl
   rw[e]
   exact List.mem_cons.mpr (.inr hb))
  rw[q]at q';cases q'
  exact n
 have un:Un (frs outer) [] H0 H s0.heap h':=I.base.past p fm (Heap.get?_none_of_le (Nat.le_refl _)) nw.he nw.ht hd
 refine⟨a,C,H,rfl,I.os,I.bare,un,I.hok.past p sf he ht,⟨⟨a0,fl'⟩,he,a68 I.hok p sf he ht⟩,⟨nw.he,fun T q=> ?_⟩,hE⟩
 rcases p.tr T q with z|z|z|z
 ·rcases fm T z with z|z
  ·rw[z];exact Heap.get?_none_of_le (Nat.le_refl _)
  ·exfalso
   obtain⟨o,vs,q1,q2⟩:=p.rcd T q
   obtain⟨_,o',q',n⟩:=fl'.2.2.1.mem (b:=T) z
   rw[q1]at q';cases q'
   exact n vs q2
 ·rw[z];exact nw.he
 ·exact nw.ht T z
 ·cases r:s0.heap.get? T with
  | none=>rfl
  | some o=>
   obtain⟨o',q'⟩:=I.base.there T o r (show T ∉ ([]:List Addr)by simp)
   rw[z]at q';cases q'
theorem cF5:oW (CXr P w base) (cL (CXr P w base) P w K mg base N qual scope f cd A outer s0 H0 E) E:=by
 rintro pins σ H s e s' I ⟨a,C,H',rfl,ho,hb,un,hok,F,nw,hE⟩
 have I':=I.call' (s':=s') ho un hok hb (fun b z=>absurd z (by simp))
 refine bT0 I' F ⟨?_,fun T q=> ?_⟩ hE
 ·cases r:s0.heap.get? a with
  | none=>rfl
  | some o=>
   obtain⟨o',q'⟩:=I.base.there a o r (show a ∉ ([]:List Addr)by simp)
   rw[nw.he]at q';cases q'
 ·have:=nw.ht T q
  cases r:s0.heap.get? T with
  | none=>rfl
  | some o=>
   obtain⟨o',q'⟩:=I.base.there T o r (show T ∉ ([]:List Addr)by simp)
   rw[this]at q';cases q'
end
structure XCls (h:Heap)(C:Addr)(bmB bm:List Value)(newId:String):Prop where
 ex: ∃(nm q:Str) (N:Addr) (bs:List Value) (hd:Bool) (sn:List Str) (sub:List Value) (ab:Bool) (col:Option Bool) (dd:Option Addr) (k0 k1 k2 k3 k5:Option Value) (mN:Str→Option Value),
  h.get? C=some (excClassObj nm q C N bs bm hd sn sub ab col dd k0 k1 k2 k3 k5 newId)∧h.Ns N mN∧mN "__init__"=none
 tl:OwnTail h bmB bm
theorem aR4 {K:PySem.W.Frag}{h:Heap}{C:Addr}{bmB:List Value}{newId:String}(X:K.In h)(q:PySem.W.excIn K C bmB newId=true): ∃bm,XCls h C bmB bm newId:=by
 unfold PySem.W.excIn at q
 split at q
 ·rename_i od ck slots look
  split at q
  ·rename_i C2 tail a0 a1 a2 a3 nid a5 em es
   simp only[Bool.and_eq_true,beq_iff_eq,Bool.not_eq_true']at q
   obtain⟨⟨⟨⟨⟨rfl,rfl⟩,nodel⟩,tk⟩,nk⟩,ni⟩:=q
   obtain⟨c1,c2,c3,c4,c5,c6,c7,c8,c9,c10,c11⟩:=ck
   dsimp only at em nodel nk ni
   subst em nodel
   obtain⟨sll⟩:=slots
   simp only at es
   subst es
   exact⟨tail,⟨⟨_,_,_,_,_,_,_,_,_,_,_,_,_,_,_,_,X _ _ look,.of_isNs (PySem.W.isNs_of_in X nk),PySem.W.nsMap_none_of_in X nk ni⟩,PySem.W.tail_of_in X tk⟩⟩
  ·cases q
 ·cases q
section
variable {X:Cx}{E:XK}{C:Addr}
def a97 (X:Cx)(E:XK)(C:Addr):Prop:= ∀(pins:List (Addr×Obj)) (σ:St) (H:Hp) (s:Shared) (a:Addr) (oe:Obj) (vs:Array Value) (a0:Value),Inv X pins σ H s→s.heap.get? a=some oe→oe.cls= .ref C→oe.data= .fields vs→vs[0]? =some a0→vs[1]? =some .none→H a=none→X.s₀.heap.get? a=none→E (.ref C) none H→X.xe (.ref a) s
theorem b68 {P:Program}{w:World}{K:PySem.W.Frag}{mg:Str→Option Value}{base:Heap}{N:List Str}{qual:Str}{scope:Scope}{f:Addr}{cd:Value}{A:Around}{outer:List Env}{s0:Shared}{H0:Hp} :
  a97 (cL (CXr P w base) P w K mg base N qual scope f cd A outer s0 H0 E) E C:=by
 intro pins σ H s a oe vs a0 I he hc hd h0 h1 nH n0 hE
 have fr:(A.deeper (envOfC qual scope s0.heap.objs.size f cd)).frames=some (envOfC qual scope s0.heap.objs.size f cd::outer):=I.ok.frames
 have sf: ∀b∈frs (envOfC qual scope s0.heap.objs.size f cd::outer),H b=none:=I.stkFree
 have fl0:s.heap.FunFrames base (envOfC qual scope s0.heap.objs.size f cd::outer):=I.stack
 have fe:(envOfC qual scope s0.heap.objs.size f cd).frame=some s0.heap.objs.size:=rfl
 have fm: ∀b∈frs (envOfC qual scope s0.heap.objs.size f cd::outer),b=s0.heap.objs.size∨b∈frs outer:=fun b hb=>by
  unfold frs at hb⊢
  rw[List.filterMap_cons,fe]at hb
  exact List.mem_cons.mp hb
 have nt: ∀T,¬Tr s.heap a T:=by
  rintro T ⟨o,ws,k1,k2,k3⟩
  rw[he]at k1;cases k1
  rw[hd]at k2;cases k2
  rw[h1]at k3;cases k3
 have nb:base.get? a=none:=by
  cases q:base.get? a with
  | none=>rfl
  | some o=>rw[(I.ok.bs a o q).1]at n0;cases n0
 have st:base.StaysIn s.heap:=I.bk
 show wpAny _ _ (leaving _ (.ref a)) _ _ s
 refine aY4 fr fl0 (L:=s0.heap.objs.size) rfl he st nb hd h1 h0 fun h' fl' p=> ?_
 rw[hc]at fl'
 have hdf: ∀b∈frs outer,∀o,s.heap.get? b=some o→ ∀vs,o.data≠ .fields vs:=fun b hb o q=>by
  obtain⟨_,o',q',n⟩:=fl0.mem (b:=b) (by
   unfold frs at hb
   rw[List.filterMap_cons,fe]
   exact List.mem_cons.mpr (.inr hb))
  rw[q]at q';cases q'
  exact n
 have un:Un (frs outer) [] H0 H s0.heap h':=I.base.past p fm (Heap.get?_none_of_le (Nat.le_refl _)) n0 (fun T q=>absurd q (nt T)) hdf
 have ht: ∀T,Tr s.heap a T→H T=none:=fun T q=>absurd q (nt T)
 refine⟨a,C,H,rfl,I.os,I.bare,un,I.hok.past p sf nH ht,⟨⟨a0,fl'⟩,nH,a68 I.hok p sf nH ht⟩,⟨n0,fun T q=> ?_⟩,hE⟩
 rcases p.tr T q with z|z|z|z
 ·rcases fm T z with z|z
  ·rw[z];exact Heap.get?_none_of_le (Nat.le_refl _)
  ·exfalso
   obtain⟨o,ws,q1,q2⟩:=p.rcd T q
   obtain⟨_,o',q',n⟩:=fl'.2.2.1.mem (b:=T) z
   rw[q1]at q';cases q'
   exact n ws q2
 ·rw[z];exact n0
 ·exact absurd z (nt T)
 ·cases r:s0.heap.get? T with
  | none=>rfl
  | some o=>
   obtain⟨o',q'⟩:=I.base.there T o r (show T ∉ ([]:List Addr)by simp)
   rw[z]at q';cases q'
def b69 (C:Addr)(E:XK)(ta:TA):TS:=fun _ σ H=>ta σ H fun vs H1=>vs.length≤sizeLine∧E (.ref C) none H1
theorem bT1 {x:Str}{np cpos pos:Pos}{e:Expr}{es:List Expr}{ta:TA}{B newId initId:String}{bmB:List Value}(FB:ExcBaseFacts B newId initId bmB)(q:PySem.W.excIn X.K C bmB newId=true)(hg:Gl X x)(hm:X.mg x=some (.ref C))(hc:X.calm=true)(ha:PA X (e::es) ta)(th:a97 X E C)
  (he:starEach (e::es) X.env=(false,eval e X.env)::starEach es X.env:=by rfl) (hpl:(backTo cpos (starEach es X.env)).any (·.1)=false:=by rfl) (hd:(x==("__debug__":Str))=false:=by decide) (hex:X.ex=[]:=by rfl) :
  PS X (.Raise (some (.Call (.Name x np) (e::es) [] cpos)) none pos) (b69 C E ta):=by
 intro pins s σ H D I h
 obtain⟨bm,⟨⟨nm,qn,N,bs,hdd,sn,sub,ab,col,dd,k0,k1,k2,k3,k5,mN,hC,hN,hni⟩,tl⟩⟩:=aR4 I.mod.kin q
 have keepS: ∀{pins:List (Addr×Obj)} {σ:St} {H:Hp} {s2:Shared},Inv X pins σ H s2→ ∀b o,X.base.get? b=some o→s2.heap.get? b=some o:=fun J=>J.bk
 refine wpAny_Raise_call_subT (C:=C) (nm:=nm) (q:=qn) (N:=N) (bs:=bs) (bm:=bm) (hdct:=hdd) (sn:=sn) (sub:=sub) (ab:=ab) (col:=col) (dd:=dd) (k0:=k0) (k1:=k1) (k2:=k2) (k3:=k3) (k5:=k5) FB (mN:=mN) (tl.hasType FB.hasBase) (I.ok.hd hc) ?_ hni (o9 I hg hm ⟨rfl,?_⟩ hd)
 ·rw[he]
  show(false||(backTo cpos (starEach es X.env)).any (·.1))=false
  rw[hpl];rfl
 ·have hh:=ha cpos pins s σ H _ I h
  rw[he]at hh⊢
  refine Calls.evalArgs_plain (wpAny_mono hh (fun us s2 ⟨vs,H1,I1,r1,q1⟩=>⟨rfl,by rw[←r1.length];exact q1.1,keepS I1 _ _ hC,hN.keeps (keepS I1),tl.keeps (keepS I1),fun h' a mk=> ?_⟩) fun _ _ y=>y)
  obtain⟨t,m1,m2,m3⟩:=mk.there
  have I2:Inv X pins σ H1 {s2 with heap:=h'}:=I1.kept mk.keeps
  refine th pins σ H1 _ a _ _ (.ref t) I2 m1 rfl rfl rfl rfl (I1.hok.there mk.new) ?_ q1.2
  cases r:X.s₀.heap.get? a with
  | none=>rfl
  | some o=>
   obtain⟨o',q'⟩:=I1.base.there a o r (by rw[hex];simp)
   rw[mk.new]at q';cases q'
end
section
variable {prog:Program}{w:World}{A:Around}{E:Value→Shared→Prop}{hp:Heap}{gn:Array GenState}{dr:Drawn}{tn:Nat}{os:OsState}
variable {nm qn:Str}{C N:Addr}{bs bm bmB:List Value}{hdd:Bool}{sn:List Str}{sub:List Value}{ab:Bool}{col:Option Bool}{dd:Option Addr}{k0 k1 k2 k3 k5:Option Value}{B newId initId:String}
theorem b70 (F:ExcBaseFacts B newId initId bmB)(T:OwnTail hp bmB bm){mN:Str→Option Value}{us:List Value}{fI:Addr}{oI:Obj}{Q:Fin→Shared→Prop}
  (hC:hp.get? C=some (excClassObj nm qn C N bs bm hdd sn sub ab col dd k0 k1 k2 k3 k5 newId)) (hN:hp.Ns N mN) (hini:mN "__init__"=some (.ref fI)) (hfun:hp.get? fI=some oI) (hcls:oI.cls= .type "function")
  (hgo: ∀h' e,Heap.MadeExcOf hp h' e (.ref C) us→wpAny (model prog w) A (call (.ref fI) (.ref e::us)) (fun r s'=>r= .none∧Q (.done (.ret (.ref e))) s') E ⟨h',gn,dr,tn,os⟩) (hus:us.length≤sizeLine) :
  wpAny (model prog w) A (Builtin.«type.__call__» ⟨.ref C::us,[]⟩) Q E ⟨hp,gn,dr,tn,os⟩:=by
 repeat (first
  | with_reducible refine wpAny_loadPart_at hC ?_
  | with_reducible refine wpAny_madeBy_exc hC ?_
  | wp_step)
 refine codeAny_call_builtin_code (Code.quiet_builtin _ F.quiet) (wpAny_check_new_subT F T hC ?_)
 refine codeAny_exc_new_subT F T hC ?_ hus
 show wpAny _ _ _ _ _ _
 generalize ea:({cls:= .type "tuple",data:= .seq us.toArray}:Obj)=oa
 generalize eb:({cls:= .ref C,data:= .fields #[.ref hp.objs.size,.none,.none,.none,.bool false,.none]}:Obj)=ob
 have up: ∀b o,hp.get? b=some o→((hp.push oa).push ob).get? b=some o:=fun b o q=>Heap.get?_push_of_some _ (Heap.get?_push_of_some _ q)
 have g1:=up _ _ hC
 have g2:=up _ _ hfun
 have g3:=hN.keeps up
 have g4:((hp.push oa).push ob).get? (hp.objs.size+1)=some ob:=by
  subst ea eb
  heap_get
 have g5:((hp.push oa).push ob).get? hp.objs.size=some oa:=by
  subst ea
  exact Heap.get?_push_of_some _ (Heap.get?_push_at rfl rfl)
 have g6:=T.keeps up
 have me:(Value.ref C::bm).contains (.ref C)=true:=by simp
 have ec:ob.cls= .ref C:=by rw[←eb]
 unfold isInstance
 repeat (first
  | (with_reducible refine wpAny_loadPart_at g4 ?_;rw[ec])
  | (with_reducible refine wpAny_isSubtype_exc g1 ?_;rw[me])
  | wp_step)
 show wpAny _ _ (typeLookup (.ref C) _) _ _ _
 refine wpAny_typeLookup_tail g1 g3 g6 F.mroIs F.init.lookup ?_
 rw[hini]
 refine wpAny_holding (wpAny_bind ?_)
 unfold bindSpecial
 refine wpAny_bind (wpAny_typeOf (T:="function") ⟨_,g2,hcls⟩ ?_)
 rw[if_pos (by decide)]
 have mk:Heap.MadeExcOf hp ((hp.push oa).push ob) (hp.objs.size+1) (.ref C) us:=⟨up,Heap.get?_none_of_le (Nat.le_succ _),hp.objs.size,by rw[g4,←eb],Heap.get?_none_of_le (Nat.le_refl _),by rw[g5,←ea]⟩
 refine wpAny_pure (wpAny_bind (wpAny_mono (hgo _ _ mk) (fun r s' z=> ?_) fun _ _ z=>z))
 obtain⟨rfl,z⟩:=z
 wp_walk
 exact z
theorem xcall (F:ExcBaseFacts B newId initId bmB)(T:OwnTail hp bmB bm){mN:Str→Option Value}{us:List Value}{fI:Addr}{oI:Obj}{Q:Value→Shared→Prop}
  (hC:hp.get? C=some (excClassObj nm qn C N bs bm hdd sn sub ab col dd k0 k1 k2 k3 k5 newId)) (hN:hp.Ns N mN) (hini:mN "__init__"=some (.ref fI)) (hfun:hp.get? fI=some oI) (hcls:oI.cls= .type "function")
  (hgo: ∀h' e,Heap.MadeExcOf hp h' e (.ref C) us→wpAny (model prog w) (A.under (.builtin "type.__call__" ⟨.ref C::us,[]⟩)) (call (.ref fI) (.ref e::us)) (fun r s'=>r= .none∧Q (.ref e) s') E ⟨h',gn,dr,tn,os⟩) (hus:us.length≤sizeLine) :
  wpAny (model prog w) A (call (.ref C) us) Q E ⟨hp,gn,dr,tn,os⟩:=by
 have t1:=tc_lookup
 have t2:=tc_bind (.ref C)
 have t3:(⟨hp,gn,dr,tn,os⟩:Shared).TypeIs (.ref C) "type":=⟨_,hC,rfl⟩
 refine wpAny_call (codeAny_of_tree ?_)
 show wpAny _ _ (callAny (.ref C) _) _ _ _
 repeat (any_goals (first
  | assumption
  | with_reducible refine wpAny_loadPart_at hC ?_
  | wp_step))
 refine⟨rfl,?_⟩
 exact codeAny_call_builtin_at (Code.quiet_builtin _ (by decide +kernel)) entry_typeCall (wpAny_check_type_call_sub hC (b70 F T hC hN hini hfun hcls (fun h' e mk=>hgo h' e mk) hus))
end
end L2
end
section
namespace L2
open PySem PySem.Spec PyProof.Rows
open Builtin Builtin.ObjectAttr
def veMro:List Value:=[.type "ValueError",.type "Exception",.type "BaseException",.type "object"]
def nK:List Value→Bool
 | []=>false
 | v::r=>(v::r)==veMro||match v with
  | .ref _=>nK r
  | _=>false
theorem zO (self:Value): ∀{l:List Value},nK l=true→refuseLoop self "__setattr__" l=pure ()
 | v::r,e=>by
  unfold nK at e
  rcases Bool.or_eq_true_iff.mp e with q|q
  ·rw[beq_iff_eq.mp q];exact PySem.F.store_ValueError.passes self
  ·split at q
   ·rw[refuseLoop_ref];exact zO self q
   ·cases q
theorem a98: ∀{l:List Value},nK l=true→l.contains (.type "object")=true∧l.isEmpty=false
 | v::r,e=>by
  refine⟨?_,rfl⟩
  unfold nK at e
  rcases Bool.or_eq_true_iff.mp e with q|q
  ·rw[beq_iff_eq.mp q];decide
  ·split at q
   ·rw[List.contains_cons,(a98 q).1,Bool.or_true]
   ·cases q
section
variable {K:PySem.W.Frag}{prog:Program}{w:World}{A:Around}{E:Value→Shared→Prop}{s:Shared}{x C:Addr}{mA:Str→Option Value}{ns:List Str}{name:Str}{v:Value}{cd:ClassData}
theorem xosa {R:Result→Shared→Prop}{tk:Tok}(X:K.In s.heap)(hc:PySem.W.clsIn K C=some cd)(hm:nK cd.mro=true)(hdct:cd.hasDict=true)(ht:PySem.W.findIn K (.ref C) name=some none)
  (I:s.heap.Inst x C mA) (hw:Within mA ns) (hsz:ns.length≤100) {od:Option Obj} {o:Obj} (hx:s.heap.get? x=some o) (J:PySem.W.InstAt s.heap x o C od)
  (hq: ∀h' tk,h'.Inst x C (fun y=>if y=name then some v else mA y)→(∀b o,b≠x→(∀o0 dx,s.heap.get? x=some o0→o0.dict=some dx→b≠dx)→s.heap.get? b=some o→h'.get? b=some o)→
   (∀o0,s.heap.get? x=some o0→ ∃o1,h'.get? x=some o1∧o1.cls=o0.cls∧o1.data=o0.data∧ ∀dx,o1.dict=some dx→o0.dict=some dx∨(s.heap.objs.size≤dx))→R (.ok (.ret .none)) {s with heap:=h',toks:=tk}) :
  codeAny (model prog w) A (.call (.builtin "object.__setattr__") ⟨[.ref x,.str name tk,v],[]⟩) R s:=by
 have SF:=PySem.F.store_ValueError
 have sub:PySem.W.Looks (model prog w) s.heap (isInstance (.ref x) (.type "object")) true:=J.type.andThen (PySem.W.looks_mroIn X (by unfold PySem.W.mroIn;rw[hc,Option.bind_some,if_neg (by rw[(a98 hm).2];decide),(a98 hm).1]))
 refine codeAny_call_builtin SF.slot.plain SF.entry (@PySem.W.check_slot (model prog w) _ _ s "object.__setattr__" "object" "__setattr__" (.ref x) [.str name tk,v] [] _ SF.kind SF.split sub (SF.args (.ref x) (.str name tk) v) ?_)
 have hmr:PySem.W.Looks (model prog w) s.heap (mroOf (.ref C)) cd.mro:=(PySem.W.looks_clsIn X hc).andThen .now
 rw[PySem.W.osa_eq,refuse_eq]
 refine wpAny_bind (wpAny_bind (J.type.here (wpAny_bind (hmr.here ?_))))
 rw[zO _ hm]
 refine wpAny_pure (wpAny_bind (J.type.here (wpAny_bind ((PySem.W.looks_findIn X ht).here (wpAny_bind (wpAny_pure ?_))))))
 have lc:=PySem.W.looks_clsIn (M:=model prog w) X hc
 obtain⟨o',hx',hcl,hnc,hdd⟩:=I
 rw[hx]at hx'
 cases hx'
 refine wpAny_bind (wpAny_pure ?_)
 refine wpAny_bind ?_
 show wpAny _ _ (instanceDict x true) _ _ s
 unfold instanceDict
 refine wpAny_bind (wpAny_loadPart hx ?_)
 rw[hcl]
 dsimp only
 refine wpAny_bind (lc.here ?_)
 rw[hdct]
 rw[if_neg (by decide)]
 clear sub hmr lc
 obtain⟨hp,gn,dr,tn,os⟩:=s
 dsimp only at *
 have put: ∀(h1:Heap) (dx:Addr) (o1:Obj),h1.get? x=some o1→o1.cls= .ref C→(∀c,o1.data≠ .cls c)→o1.dict=some dx→dx≠x→h1.Ns1 dx mA→o1.data=o.data→(∀b ob,b≠x→hp.get? b=some ob→h1.get? b=some ob)→(o.dict=some dx∨hp.objs.size≤dx)→
   wpAny (model prog w) A.in1 (storeInDict dx (.str name tk) name v) (fun fin s'=>match fin with| .done f=>R (.ok f) s'| .again c'=>c'.quiet=true∧codeAny (model prog w) A c' R s') (fun e s'=>R (.error e) s') ⟨h1,gn,dr,tn,os⟩:=by
  intro h1 dx o1 g1 g2 g3 g4 g5 g6 g7 g8 g9
  unfold storeInDict newKeyGuard
  refine wpAny_bind (wpAny_pure (wpAny_bind (wpAny_nsSet1 g6 fun h' n' sb=> ?_)))
  obtain⟨oD,eD,pD,q1,q2,q3⟩:=n'.count (Within.cons name v hw)
  have few:eD.size≤sizeLine:=by
   refine Nat.le_trans q3 ?_
   rw[List.length_cons,sizeLine_eq]
   omega
  refine wpAny_bind (wpAny_lookBehind q1 (by rw[q2];exact pastItsLine_dict (Nat.le_succ_of_le few)) ?_)
  have gx:h'.get? x=some o1:=(sb.2 x (Ne.symm g5)).trans g1
  refine wpAny_pure (hq h' _ ⟨o1,gx,g2,g3,.inr ⟨dx,g4,g5,n'⟩⟩ (fun b ob k1 k2 k3=> ?_) fun o0 k1=> ?_)
  ·have nb:b≠dx:=by
    rcases g9 with z|z
    ·exact k2 o dx hx z
    ·intro q
     have:=Heap.lt_size k3
     rw[q]at this
     exact absurd (Nat.lt_of_lt_of_le this z) (Nat.lt_irrefl _)
   exact(sb.2 b nb).trans (g8 b ob k1 k3)
  ·rw[hx]at k1;cases k1
   exact⟨o1,gx,by rw[g2,hcl],g7,fun dx' z=>by rw[g4]at z;cases z;exact g9⟩
 rcases hdd with⟨hn,hmA⟩| ⟨dx,hdx,hne,hns⟩
 ·rw[hn]
  dsimp only
  rw[if_neg (by simp[typeHasDict])]
  have ex: ∀d':Data,d'=o.data→wpAny (model prog w) A.in1 (match d' with
     | .cls c=>pure none
     | _=>do
      let d←alloc {cls:=Value.type "dict",data:=Data.dict #[]}
      update x fun o=>{cls:=o.cls,dict:=some d,data:=o.data,slots:=o.slots}
      dictMade (Value.ref C) x d) (fun a s'=>wpAny (model prog w) A.in1 (match a with|some d=>storeInDict d (.str name tk) name v|none=>noDictFor (.ref x) (.ref C) name (none:Option Value).isSome) (fun fin s'=>match fin with| .done f=>R (.ok f) s'| .again c'=>c'.quiet=true∧codeAny (model prog w) A c' R s') (fun e s'=>R (.error e) s') s') (fun e s'=>R (.error e) s') ⟨hp,gn,dr,tn,os⟩:=by
   intro d' ed
   split
   ·rename_i c
    exact absurd ed.symm (hnc c)
   ·have x1:(hp.push {cls:= .type "dict",data:= .dict #[]}).get? x=some o:=Heap.get?_push_of_some _ hx
    have xs:x≠hp.objs.size:=Nat.ne_of_lt (Heap.lt_size hx)
    refine wpAny_bind (wpAny_alloc' (wpAny_bind (wpAny_update' x1 (wpAny_pure ?_))))
    have alive:Obj.isFreed {cls:=o.cls,dict:=some hp.objs.size,data:=o.data,slots:=o.slots}=false:=by
     have:=(Heap.get?_some_iff.mp hx).2
     obtain⟨c1,c2,c3,c4⟩:=o
     cases c3<;>first|rfl|exact this
    have gd:((hp.push {cls:= .type "dict",data:= .dict #[]}).update x fun o=>{cls:=o.cls,dict:=some hp.objs.size,data:=o.data,slots:=o.slots}).get? hp.objs.size=some {cls:= .type "dict",data:= .dict #[]}:=
     (Heap.get?_update_ne _ _ _ _ (Ne.symm xs)).trans (Heap.get?_push_at rfl rfl)
    refine put _ hp.objs.size {cls:=o.cls,dict:=some hp.objs.size,data:=o.data,slots:=o.slots} (Heap.get?_update_self _ x1 alive) hcl hnc rfl (Ne.symm xs) ?_ rfl (fun b ob k1 k2=>(Heap.get?_update_ne _ _ _ _ k1).trans (Heap.get?_push_of_some _ k2)) (.inr (Nat.le_refl _))
    have e0:mA=fun _=>none:=funext hmA
    rw[e0]
    exact Heap.Ns1.of_empty ⟨_,#[],_,gd,rfl,fun e he=>absurd he (by simp),fun _=>rfl⟩
  exact ex o.data rfl
 ·rw[hdx]
  exact wpAny_pure (put hp dx o hx hcl hnc hdx hne hns rfl (fun b ob _ k=>k) (.inl hdx))
theorem xset {Q:Unit→Shared→Prop}(X:K.In s.heap)(hc:PySem.W.clsIn K C=some cd)(hm:nK cd.mro=true)(hdct:cd.hasDict=true)(hsa:PySem.W.findIn K (.ref C) "__setattr__"=some (some (.builtin "object.__setattr__")))(ht:PySem.W.findIn K (.ref C) name=some none)
  (I:s.heap.Inst x C mA) (hw:Within mA ns) (hsz:ns.length≤100)
  (hq: ∀h' tk,h'.Inst x C (fun y=>if y=name then some v else mA y)→(∀b o,b≠x→(∀o0 dx,s.heap.get? x=some o0→o0.dict=some dx→b≠dx)→s.heap.get? b=some o→h'.get? b=some o)→
   (∀o0,s.heap.get? x=some o0→ ∃o1,h'.get? x=some o1∧o1.cls=o0.cls∧o1.data=o0.data∧ ∀dx,o1.dict=some dx→o0.dict=some dx∨(s.heap.objs.size≤dx))→Q () {s with heap:=h',toks:=tk}) :
  wpAny (model prog w) A (setAttr (.ref x) name v) Q E s:=by
 have I':=I
 obtain⟨o,hx,hcl,hnc,hdd⟩:=I
 have J: ∃od,PySem.W.InstAt s.heap x o C od:=by
  rcases hdd with⟨e,_⟩| ⟨dx,e,_,od,es,ep,ge,_⟩
  ·exact⟨none,hx,hcl,(by unfold PySem.W.notCls;split<;>first|rfl| (rename_i c q;exact absurd q (hnc c))),by rw[e];trivial⟩
  ·exact⟨some od,hx,hcl,(by unfold PySem.W.notCls;split<;>first|rfl| (rename_i c q;exact absurd q (hnc c))),by rw[e];exact ge⟩
 obtain⟨od,J⟩:=J
 refine PySem.W.set_plain X J hsa ?_
 exact xosa (s:={s with toks:=s.toks+1}) X hc hm hdct ht I' hw hsz hx J fun h' tk a b c=>hq h' tk a b c
end
end L2
end
section
namespace L2
open PySem PySem.Spec PyProof.Rows
structure aY5 (K:PySem.W.Frag)(C fI:Addr)(fd:FuncData)(f1 f2:Str):Prop where
 ex: ∃(oc:Value) (od:Option Addr) (nm qual:Str) (params:Arguments) (scope:Scope) (kV doc pm:Value) (an:Option Addr) (cdv ct:Value) (osl:Array (Option Value)) (x0 x1 x2:Str) (p1 p2 p3 p4 p5 p6 p7 p8:Pos),
  fd=PySem.W.fnOf nm qual params [.Assign [.Attribute (.Name x0 p1) f1 p2] (.Name x1 p3) p4,.Assign [.Attribute (.Name x0 p5) f2 p6] (.Name x2 p7) p8] scope .none kV doc pm an cdv ct∧
  K.lookup fI=some ⟨oc,od,.func fd,osl⟩∧oc= .type "function"∧PySem.W.codeIn K cdv qual=true∧aU [x0,x1,x2] [x0,x1,x2] scope∧
  scope.names.lookup x0=some .local∧scope.names.lookup x1=some .local∧scope.names.lookup x2=some .local∧(x0==("__debug__":Str))=false∧(x1==("__debug__":Str))=false∧(x2==("__debug__":Str))=false∧Binds K fd [x0,x1,x2] []
 cls: ∃cd,PySem.W.clsIn K C=some cd∧nK cd.mro=true∧cd.hasDict=true
 sa:PySem.W.findIn K (.ref C) "__setattr__"=some (some (.builtin "object.__setattr__"))
 n1:PySem.W.findIn K (.ref C) f1=some none
 n2:PySem.W.findIn K (.ref C) f2=some none
def Laid (C e:Addr)(s s':Shared):Prop:=s'.os=s.os∧AllBare s'.gens∧(∀b o,s.heap.get? b=some o→s'.heap.get? b=some o)∧
 ∃oe t,s'.heap.get? e=some oe∧oe.cls= .ref C∧oe.data= .fields #[.ref t,.none,.none,.none,.bool false,.none]
section
variable {X:Cx}{pins:List (Addr×Obj)}{σ:St}{H:Hp}{s:Shared}{C fI e:Addr}{fd:FuncData}{f1 f2:Str}{h1:Heap}{u1 u2:Value}{v1 v2:V}{E:Value→Shared→Prop}{k:Nat}
theorem bI5 (T:aY5 X.K C fI fd f1 f2)(I:Inv X pins σ H s)(hr:bM (k+1) X.A)(mk:Heap.MadeExcOf s.heap h1 e (.ref C) [u1,u2])(r1:RelV v1 u1)(r2:RelV v2 u2) :
  wpAny (model X.prog X.w) (X.A.under (.builtin "type.__call__" ⟨.ref C::[u1,u2],[]⟩)) (call (.ref fI) (.ref e::[u1,u2])) (fun r s'=>r= .none∧Laid C e s s') E {s with heap:=h1}:=by
 obtain⟨oc,od,nm,qual,params,scope,kV,doc,pm,an,cdv,ct,osl,x0,x1,x2,p1,p2,p3,p4,p5,p6,p7,p8,rfl,lk,_,hcd,S,l0,l1,l2,d0,d1,d2,hb⟩:=T.ex
 obtain⟨cd,hc,hm,hdct⟩:=T.cls
 have I1:Inv X pins σ H {s with heap:=h1}:=I.kept mk.keeps
 have e0:=I1.env0.make C [u1,u2] []
 have rm:=hr.make C [u1,u2] []
 have KX:=I1.kIn
 have lim:=I1.nolimit
 have us:Vals [V.ref e,v1,v2] [Value.ref e,u1,u2]:= .cons rfl (.cons r1 (.cons r2 .nil))
 have hkind: ∀y∈[x0,x1,x2].zip [Value.ref e,u1,u2],scope.names.lookup y.1=some .local∨(scope.names.lookup y.1=some .cell∧((cellsFrom (h1.objs.size+1) scope.names []).lookup y.1).isSome=true):=fun⟨n,v⟩ hy=>by
  have:=(List.of_mem_zip hy).1
  simp at this
  rcases this with rfl|rfl|rfl
  ·exact .inl l0
  ·exact .inl l1
  ·exact .inl l2
 refine wpAny_call ?_
 have bd:=hb {s with heap:=h1} [Value.ref e,u1,u2] KX rfl
 rw[List.append_nil]at bd
 refine codeAny_call_function rm.depth (KX _ _ lk) rfl S.co S.gen rfl (PySem.W.codeRec_of KX hcd) (bd _ _ _ _ ?_)
 refine wpAny_newFunctionEnv_cells S.kind hkind fun env he s2 x=> ?_
 subst he
 refine⟨lim.keeps x.toInCall.keep,codeAny_func ?_⟩
 have J:Inv (cL CX0 X.prog X.w X.K X.mg X.base [x0,x1,x2] qual scope fI cdv (X.A.under (.builtin "type.__call__" ⟨.ref C::[u1,u2],[]⟩)) X.stack {s with heap:=h1} H E0) [] (start [x0,x1,x2] [V.ref e,v1,v2]) H s2:=aJ9 S rm.hd e0 rfl us x
 obtain⟨m,hn,hl⟩:=J.loc
 have look: ∀(i:Nat) (y:Str) (v:V),[x0,x1,x2][i]? =some y→(start [x0,x1,x2] [V.ref e,v1,v2])[i]? =some (some v)→scope.names.lookup y=some .local→ ∃u,RelV v u∧m y=some u:=fun i y v q1 q2 q3=>by
  obtain⟨u,r,lo⟩:=hl i y v q1 q2 (.inl q3)
  rcases lo with⟨_,hm⟩| ⟨z,_⟩
  ·exact⟨u,r,hm⟩
  ·have z':scope.names.lookup y=some .cell∨scope.names.lookup y=some .free:=z
   rw[q3]at z'
   rcases z' with z'|z'<;>cases z'
 obtain⟨w0,q0,m0⟩:=look 0 x0 (.ref e) rfl rfl l0
 obtain⟨w1,q1,m1⟩:=look 1 x1 v1 rfl rfl l1
 obtain⟨w2,q2,m2⟩:=look 2 x2 v2 rfl rfl l2
 obtain rfl:w0=Value.ref e:=q0
 have kk:=J.ok.kind
 have kin:X.K.In s2.heap:=KX.keeps x.toInCall.keep
 obtain⟨t,t1,t2,t3⟩:=mk.there
 have ge:s2.heap.get? e=some {cls:= .ref C,data:= .fields #[.ref t,.none,.none,.none,.bool false,.none]}:=x.toInCall.keep _ _ t1
 have eL:e≠h1.objs.size:=Nat.ne_of_lt (Heap.lt_size t1)
 have in0:s2.heap.Inst e C (fun _=>none):=⟨_,ge,rfl,(fun c z=>by cases z),.inl ⟨rfl,fun _=>rfl⟩⟩
 refine wpAny_execs_cons (plainObj_wpAny_Assign_Attribute (wpAny_Name (wpAny_loadName_local kk l1 hn m1 (wpAny_Name (wpAny_loadName_local kk l0 hn m0 ?_) d0)) d1))
 refine xset kin hc hm hdct T.sa T.n1 in0 (ns:=[]) (fun n z=>absurd rfl z) (by simp) fun h3 tk3 in3 kp3 ob3=> ?_
 obtain⟨o3,g3,c3,dt3,dd3⟩:=ob3 _ ge
 have keep3: ∀b o,b≠e→s2.heap.get? b=some o→h3.get? b=some o:=fun b o n q=>kp3 b o n (fun o0 dx z1 z2=>by rw[ge]at z1;cases z1;cases z2) q
 have hn3:h3.Ns h1.objs.size m:=by
  obtain⟨o,es,ep,z1,z2⟩:=hn
  exact⟨o,es,ep,keep3 _ _ (Ne.symm eL) z1,z2⟩
 have keep3': ∀b o,s.heap.get? b=some o→h3.get? b=some o:=fun b o q=>keep3 b o (fun z=>by rw[z,mk.new]at q;cases q) (x.toInCall.keep _ _ (mk.keeps b o q))
 have kin3:X.K.In h3:=I.kIn.keeps keep3'
 refine wpAny_execs_cons (plainObj_wpAny_Assign_Attribute (wpAny_Name (wpAny_loadName_local kk l2 hn3 m2 (wpAny_Name (wpAny_loadName_local kk l0 hn3 m0 ?_) d0)) d2))
 refine xset kin3 hc hm hdct T.sa T.n2 in3 (ns:=[f1]) (fun n z=> ?_) (by simp) fun h4 tk4 in4 kp4 ob4=> ?_
 ·by_cases c:n=f1
  ·simp[c]
  ·rw[if_neg c]at z
   exact absurd rfl z
 obtain⟨o4,g4,c4,dt4,dd4⟩:=ob4 _ g3
 refine wpAny_execs_nil ?_
 refine⟨rfl,J.os,J.bare,fun b o q=> ?_,o4,t,g4,?_,?_⟩
 ·refine kp4 b o (fun z=>by rw[z,mk.new]at q;cases q) (fun o0 dx z1 z2=> ?_) (keep3' b o q)
  rw[g3]at z1
  cases z1
  rcases dd3 dx z2 with z|z
  ·cases z
  ·intro z'
   have:=Heap.lt_size (x.toInCall.keep _ _ (mk.keeps b o q))
   rw[z']at this
   exact absurd (Nat.lt_of_lt_of_le this z) (Nat.lt_irrefl _)
 ·rw[c4,c3]
 ·rw[dt4,dt3]
end
def vG (K:PySem.W.Frag)(C fI:Addr)(bmB:List Value)(newId:String):Bool:=match K.lookup C with
 | some ⟨.type "type",_,.cls ck,sl⟩=>(match ck.mro,sl.toList with
  | .ref C2::tail,[_,_,_,_,some (.builtin nid),_]=>C2==C&&nid==newId&& !ck.hasDel&&PySem.W.tailIn K bmB tail&&PySem.W.nsOkIn K ck.ns&&PySem.W.nsIn K ck.ns "__init__"==some (some (.ref fI))
  | _,_=>false)
 | _=>false
theorem c96 {K:PySem.W.Frag}{h:Heap}{N:Addr}{mg:Str→Option Value}{n:Str}{v:Value}(X:K.In h)(G:h.Ns N mg)(e:PySem.W.nsIn K N n=some (some v)):mg n=some v:=by
 obtain⟨ob,ents,np,look0,dat,_,find0⟩:=G
 unfold PySem.W.nsIn at e
 split at e
 ·rename_i look
  have same:=X _ _ look
  rw[look0]at same
  cases same
  cases dat
  split at e
  ·rename_i en found
   cases e
   rw[←find0]
   unfold nsFind findBy
   rw[←Array.find?_toList,found]
   rfl
  ·split at e<;>cases e
 ·cases e
structure XClsI (h:Heap)(C fI:Addr)(bmB bm:List Value)(newId:String):Prop where
 ex: ∃(nm q:Str) (N:Addr) (bs:List Value) (hd:Bool) (sn:List Str) (sub:List Value) (ab:Bool) (col:Option Bool) (dd:Option Addr) (k0 k1 k2 k3 k5:Option Value) (mN:Str→Option Value),
  h.get? C=some (excClassObj nm q C N bs bm hd sn sub ab col dd k0 k1 k2 k3 k5 newId)∧h.Ns N mN∧mN "__init__"=some (.ref fI)
 tl:OwnTail h bmB bm
theorem aY6 {K:PySem.W.Frag}{h:Heap}{C fI:Addr}{bmB:List Value}{newId:String}(X:K.In h)(q:vG K C fI bmB newId=true): ∃bm,XClsI h C fI bmB bm newId:=by
 unfold vG at q
 split at q
 ·rename_i od ck slots look
  split at q
  ·rename_i C2 tail a0 a1 a2 a3 nid a5 em es
   simp only[Bool.and_eq_true,beq_iff_eq,Bool.not_eq_true']at q
   obtain⟨⟨⟨⟨⟨rfl,rfl⟩,nodel⟩,tk⟩,nk⟩,ni⟩:=q
   obtain⟨c1,c2,c3,c4,c5,c6,c7,c8,c9,c10,c11⟩:=ck
   dsimp only at em nodel nk ni
   subst em nodel
   obtain⟨sll⟩:=slots
   simp only at es
   subst es
   have nsk:h.Ns c4 (h.nsMap c4):= .of_isNs (PySem.W.isNs_of_in X nk)
   exact⟨tail,⟨⟨_,_,_,_,_,_,_,_,_,_,_,_,_,_,_,_,X _ _ look,nsk,c96 X nsk ni⟩,PySem.W.tail_of_in X tk⟩⟩
  ·cases q
 ·cases q
section
variable {M:Model}{A:Around}{E:Value→Shared→Prop}{s:Shared}{env:Env}
variable {nm qn:Str}{C N:Addr}{bs bm:List Value}{hdd:Bool}{sn:List Str}{sub:List Value}{ab:Bool}{col:Option Bool}{dd:Option Addr}{k0 k1 k2 k3 k5:Option Value}{newId:String}
theorem xraise {x:Sem Value}{Q:Flow→Shared→Prop}(hbase:bm.contains (.type "BaseException")=true)(hh:A.handled=none)
  (h:wpAny M A x (fun v s1=> ∃e oe vs,v= .ref e∧s1.heap.get? C=some (excClassObj nm qn C N bs bm hdd sn sub ab col dd k0 k1 k2 k3 k5 newId)∧s1.heap.get? e=some oe∧oe.cls= .ref C∧oe.data= .fields vs∧vs[1]? =some .none∧E (.ref e) s1) E s) :
  wpAny M A (raiseStmt env (some x) none) Q E s:=by
 have has:(Value.ref C::bm).contains (.type "BaseException")=true:=by rw[List.contains_cons,hbase,Bool.or_true]
 unfold raiseStmt
 refine wpAny_bind (wpAny_mono h (fun v s1 z=> ?_) fun _ _ y=>y)
 obtain⟨e,oe,vs,rfl,hC,he,hcl,hdt,h1,hE⟩:=z
 obtain⟨hp,gn,dr,tn,os⟩:=s1
 obtain⟨oc,od,odt,osl⟩:=oe
 dsimp only at hcl hdt
 subst hcl hdt
 repeat (first
  | with_reducible refine wpAny_loadPart_at he ?_
  | with_reducible refine wpAny_loadPart_at hC ?_
  | (with_reducible refine wpAny_isSubtype_exc hC ?_;rw[has])
  | wp_step)
 rw[h1]
 refine wpAny_pure (wpAny_pure ?_)
 exact wpAny_raiseNew_none hh hE
end
section
variable {X:Cx}{E:XK}{C fI:Addr}
theorem bI6 {x:Str}{np cpos pos:Pos}{e1 e2:Expr}{ta:TA}{B newId initId:String}{bmB:List Value}{fd:FuncData}{f1 f2:Str}{k:Nat}(FB:ExcBaseFacts B newId initId bmB)(q:vG X.K C fI bmB newId=true)(T:aY5 X.K C fI fd f1 f2)(hr:bM (k+1) X.A)(hg:Gl X x)(hm:X.mg x=some (.ref C))(hc:X.calm=true)(ha:PA X [e1,e2] ta)(hl: ∀σ H Q,ta σ H Q→ta σ H fun vs H1=>vs.length=2∧Q vs H1)(th:a97 X E C)
  (he:starEach [e1,e2] X.env=(false,eval e1 X.env)::starEach [e2] X.env:=by rfl) (hpl:(backTo cpos (starEach [e2] X.env)).any (·.1)=false:=by rfl) (hd:(x==("__debug__":Str))=false:=by decide) (hex:X.ex=[]:=by rfl) :
  PS X (.Raise (some (.Call (.Name x np) [e1,e2] [] cpos)) none pos) (b69 C E ta):=by
 intro pins s σ H D I h
 obtain⟨bm,⟨⟨nm,qn,N,bs,hdd,sn,sub,ab,col,dd,k0,k1,k2,k3,k5,mN,hC,hN,hni⟩,tl⟩⟩:=aY6 I.mod.kin q
 have keepS: ∀{pins:List (Addr×Obj)} {σ:St} {H:Hp} {s2:Shared},Inv X pins σ H s2→ ∀b o,X.base.get? b=some o→s2.heap.get? b=some o:=fun J=>J.bk
 rw[arm_exec_Raise]
 refine wpAny_bind (wpAny_standAt (xraise (C:=C) (nm:=nm) (qn:=qn) (N:=N) (bs:=bs) (bm:=bm) (hdd:=hdd) (sn:=sn) (sub:=sub) (ab:=ab) (col:=col) (dd:=dd) (k0:=k0) (k1:=k1) (k2:=k2) (k3:=k3) (k5:=k5) (newId:=newId) (tl.hasType FB.hasBase) (I.ok.hd hc) ?_))
 refine wpAny_bind (wpAny_mono (wpAny_Call_ofName (o9 I hg hm ?_ hd)) (fun v s3 h3=>wpAny_bind (wpAny_standAt (wpAny_pure h3))) fun _ _ z=>z)
 have plain:(backTo cpos (starEach [e1,e2] X.env)).any (·.1)=false:=by
  rw[he]
  show(false||(backTo cpos (starEach [e2] X.env)).any (·.1))=false
  rw[hpl];rfl
 have hh:=ha cpos pins s σ H _ I (hl _ _ _ h)
 unfold callWith
 rw[he]at hh plain⊢
 refine wpAny_bind (wpAny_holding (Calls.evalArgs_plain (wpAny_mono hh (fun us s2 z=>wpAny_bind (wpAny_standAt ?_)) fun _ _ z=>z)))
 obtain⟨vs,H1,I1,r1,l1,l2,hE⟩:=z
 simp only[plain]
 have hC2:=keepS I1 _ _ hC
 obtain⟨u1,u2,rfl⟩: ∃u1 u2,us=[u1,u2]:=by
  have e:=r1.length
  rw[l1]at e
  match us,e with
  | [a,b],_=>exact⟨a,b,rfl⟩
 obtain⟨w1,w2,rfl⟩: ∃w1 w2,vs=[w1,w2]:=by
  match vs,l1 with
  | [a,b],_=>exact⟨a,b,rfl⟩
 obtain⟨q1,q2⟩:RelV w1 u1∧RelV w2 u2:=by
  cases r1 with
  | cons a r=>
   cases r with
   | cons b _=>exact⟨a,b⟩
 obtain⟨oc,od,_,_,_,_,_,_,_,_,_,_,osl,_,_,_,_,_,_,_,_,_,_,_,efd,lk,oce,_⟩:=T.ex
 have gf:=I1.kIn _ _ lk
 obtain⟨hp,gn,dr,tn,os⟩:=s2
 refine wpAny_bind (wpAny_keeperOf_exc hC2 ?_)
 refine wpAny_bind (xcall FB (tl.keeps (keepS I1)) hC2 (hN.keeps (keepS I1)) hni gf oce (fun h' a mk=> ?_) (by simp;decide))
 refine wpAny_mono (bI5 T I1 hr mk q1 q2) (fun r s' z=> ?_) fun _ _ z=>z
 obtain⟨rfl,z1,z2,z3,oe,t,z4,z5,z6⟩:=z
 refine⟨rfl,wpAny_bind (wpAny_holding (wpAny_point (wpAny_pure ?_)))⟩
 have I2:Inv X pins σ H1 s':=by
  obtain⟨hp',gn',dr',tn',os'⟩:=s'
  obtain rfl:os'=os:=z1
  exact I1.call (h':=hp') (g':=gn') (d':=dr') (t':=tn') (ch:=[]) (Un.kept z3) (I1.hok.kept z3) z2 (fun b z=>absurd z (by simp))
 refine⟨a,oe,_,rfl,z3 _ _ hC2,z4,z5,z6,rfl,?_⟩
 refine th pins σ H1 s' a oe _ (.ref t) I2 z4 z5 z6 rfl rfl (I1.hok.there mk.new) ?_ hE
 cases r:X.s₀.heap.get? a with
 | none=>rfl
 | some o=>
  obtain⟨o',q'⟩:=I1.base.there a o r (by rw[hex];simp)
  rw[mk.new]at q';cases q'
end
end L2
end
section
namespace M
open PySem PySem.Spec PyProof.Rows L2
abbrev ΦX:=List D→(B→Prop)→(Str→Prop)→Prop
def spX (K:PySem.W.Frag)(mg:Str→Option Value)(φ:ΦX):Sp:=fun vs H Q E=> ∃A ds Q0 Ex,(∀a,A a→H a≠none)∧bC K A H ds vs∧φ ds Q0 Ex∧(∀b v H',Q0 b→fF H H'→nE K A H H' b v→Q v H')∧ ∀n C H',Ex n→mg n=some (.ref C)→fF H H'→E (.ref C) none H'
structure FnX (P:Program)(w:World)(K:PySem.W.Frag)(mg:Str→Option Value)(base:Heap)(x:Str)(ps:List Str)(k:Nat)(φ:ΦX):Prop where
 ex: ∃f fd,kH P w K mg base (CXr P w base) k f fd ps (spX K mg φ)∧Binds K fd ps []∧PySem.W.keepIn K (.ref f)=true∧mg x=some (.ref f)
abbrev USX:=(Str→Prop)→US
def lSX (K:PySem.W.Frag)(mg:Str→Option Value)(E:XK)(t:USX):TS:=fun D σ H=> ∃C ρ D0 Ex,EOk K C ρ σ H∧t Ex D0 ρ∧DOk K C D0 D∧ ∀n Cl H',Ex n→mg n=some (.ref Cl)→fF C.H0 H'→E (.ref Cl) none H'
def aR5 (X:Cx)(E:XK)(st:Stmt)(t:USX):Prop:=PS X st (lSX X.K X.mg E t)
def sW (X:Cx)(E:XK)(sts:List Stmt)(t:USX):Prop:=PSs X sts (lSX X.K X.mg E t)
section
variable {X:Cx}{E:XK}{st:Stmt}{sts:List Stmt}{t u:USX}{e:Expr}{es:List Expr}{pos:Pos}
theorem x9 {t:US}(h:PUS X st t):aR5 X E st (fun _=>t):=mJ h fun D σ H ⟨C,ρ,D0,Ex,I,h,k,_⟩=>⟨C,ρ,D0,I,h,k⟩
theorem bT2 {t:US}(h:cZ X sts t):sW X E sts (fun _=>t):=a85 h fun D σ H ⟨C,ρ,D0,Ex,I,h,k,_⟩=>⟨C,ρ,D0,I,h,k⟩
theorem aR6 (h1:aR5 X E st t)(h2:sW X E sts u):sW X E (st::sts) (fun Ex=>aQ (t Ex) (u Ex)):=
 a85 (qF h1 h2) fun D σ H ⟨C,ρ,D0,Ex,I,h,k,kx⟩=>⟨C,ρ,{D0 with nx:=u Ex D0},Ex,I,h,⟨fun ρ' σ' H' q I'=>⟨C,ρ',D0,Ex,I',q,k,kx⟩,k.rt,k.bk,k.ct⟩,kx⟩
theorem a99 (h1:aR5 X E st t):sW X E [st] t:=aO5 h1
theorem b71:sW X E [] (fun _=>cM):=bT2 bX
theorem bT3 {c:Expr}{a b:List Stmt}{tc:UT}(hc:PUT X c tc)(ha:sW X E a t)(hb:sW X E b u):aR5 X E (.If c a b pos) (fun Ex=>eG tc (t Ex) (u Ex)):=
 mJ (cE7 hc ha hb) fun D σ H ⟨C,ρ,D0,Ex,I,h,k,kx⟩=>⟨C,ρ,_,I,h,fun c ρ1 H1 q f s=>by
  have I1:=(I.frz f).same s
  cases c with
  | true=>
   dsimp only at q⊢
   rw[if_pos rfl]at q⊢
   exact⟨C,ρ1,D0,Ex,I1,q,k,kx⟩
  | false=>
   dsimp only at q⊢
   rw[if_neg (by decide)]at q⊢
   exact⟨C,ρ1,D0,Ex,I1,q,k,kx⟩⟩
def aR7 (φ:ΦX)(t:UA)(Ex:Str→Prop):UE:=fun ρ Q=>t ρ fun ds ρ1=>φ ds (fun b=>Q b ρ1) Ex
theorem spX_of {φ:ΦX}{C:C0}{ρ ρ1:Ev}{σ:L2.St}{H H1:Hp}{ds:List D}{vs:List V}{Q0:B→Prop}{Ex:Str→Prop}{Q:VK}(I:EOk X.K C ρ σ H)(f:Frz ρ ρ1)(s:fF H H1)(r:bC X.K (Av C ρ1 σ) H1 ds vs)(q:φ ds Q0 Ex)(kq: ∀b v H',Q0 b→fF H1 H'→nE X.K (Av C ρ1 σ) H1 H' b v→Q v H')(kx: ∀n Cl H',Ex n→X.mg n=some (.ref Cl)→fF C.H0 H'→E (.ref Cl) none H'):spX X.K X.mg φ (vs++[]) H1 Q E:=by
 have I1:=(I.frz f).same s
 rw[List.append_nil]
 exact⟨Av C ρ1 σ,ds,Q0,Ex,fun a z=>I1.avSome z,r,q,kq,fun n Cl H' ex hm s'=>kx n Cl H' ex hm (I1.ext.trans s')⟩
theorem bC6 {k k':Nat}{ps:List Str}{φ:ΦX}{x:Str}{p cpos:Pos}{t:UA}(F:FnX X.prog X.w X.K X.mg X.base x ps k φ)(hr:bM k' X.A)(hk:k≤k')(hp:oW (CXr X.prog X.w X.base) X E)(hg:Gl X x)(ha:PUA X (e::es) t)(hdb:(x==("__debug__":Str))=false:=by decide)
  (he:starEach (e::es) X.env=(false,eval e X.env)::starEach es X.env:=by rfl) (hpl:(backTo cpos (starEach es X.env)).any (·.1)=false:=by rfl) (hs:swapsWith (.Call (.Name x p) (e::es) [] cpos) none pos.line X.env=pure false:=by rfl) :
  aR5 X E (.Expr (.Call (.Name x p) (e::es) [] cpos) pos) (fun Ex=>wX (aR7 φ t Ex)):=by
 obtain⟨f,fd,G,b,kp,m⟩:=F.ex
 exact mJ (aO6 (bB1 G (hr.mono hk) hg m kp b .nil hp ha hdb he hpl) hs) fun D σ H ⟨C,ρ,D0,Ex,I,h,k,kx⟩=>⟨C,ρ,_,I,h,fun ds ρ1 vs H1 q f s r=>spX_of I f s r q (fun b v H' q' s' r'=>k.nx _ _ _ q' (((I.frz f).same s).same s')) kx⟩
def vZ (x:Str)(t:UA)(Ex:Str→Prop):US:=fun _ ρ=>t ρ fun ds _=>ds.length≤sizeLine∧Ex x
theorem bT4 {x:Str}{C:Addr}{t:UA}(hm:X.mg x=some (.ref C))(D:aF6)(σ:L2.St)(H:Hp)(h:lSX X.K X.mg E (fun Ex=>vZ x t Ex) D σ H):b69 C E (lA X.K t) D σ H:=by
 obtain⟨C0,ρ,D0,Ex,I,h,k,kx⟩:=h
 exact⟨C0,ρ,_,I,h,fun ds ρ1 vs H1 q f s r=>⟨by rw[←r.length];exact q.1,kx x C H1 q.2 hm (I.ext.trans s)⟩⟩
theorem bT5 {C:Addr}{x:Str}{np cpos:Pos}{t:UA}{B newId initId:String}{bmB:List Value}(FB:ExcBaseFacts B newId initId bmB)(q:PySem.W.excIn X.K C bmB newId=true)(hg:Gl X x)(hm:X.mg x=some (.ref C))(hc:X.calm=true)(ha:PUA X (e::es) t)(th:a97 X E C)
  (he:starEach (e::es) X.env=(false,eval e X.env)::starEach es X.env:=by rfl) (hpl:(backTo cpos (starEach es X.env)).any (·.1)=false:=by rfl) (hd:(x==("__debug__":Str))=false:=by decide) (hex:X.ex=[]:=by rfl) :
  aR5 X E (.Raise (some (.Call (.Name x np) (e::es) [] cpos)) none pos) (fun Ex=>vZ x t Ex):=mJ (bT1 FB q hg hm hc ha th he hpl hd hex) (bT4 hm)
theorem aL9 {C fI:Addr}{x:Str}{np cpos:Pos}{e1 e2:Expr}{t1 t2:UE}{B newId initId:String}{bmB:List Value}{fd:FuncData}{f1 f2:Str}{k:Nat}(FB:ExcBaseFacts B newId initId bmB)(q:vG X.K C fI bmB newId=true)(T:aY5 X.K C fI fd f1 f2)(hr:bM (k+1) X.A)(hg:Gl X x)(hm:X.mg x=some (.ref C))(hc:X.calm=true)(ha:PUA X [e1,e2] (aD t1 (aD t2 aK)))(th:a97 X E C)
  (he:starEach [e1,e2] X.env=(false,eval e1 X.env)::starEach [e2] X.env:=by rfl) (hpl:(backTo cpos (starEach [e2] X.env)).any (·.1)=false:=by rfl) (hd:(x==("__debug__":Str))=false:=by decide) (hex:X.ex=[]:=by rfl) :
  aR5 X E (.Raise (some (.Call (.Name x np) [e1,e2] [] cpos)) none pos) (fun Ex=>vZ x (aD t1 (aD t2 aK)) Ex):=by
 refine mJ (bI6 FB q T hr hg hm hc ha (fun σ H Q h=> ?_) th he hpl hd hex) (bT4 hm)
 obtain⟨C0,ρ,Q0,I,h,k⟩:=h
 have two:(aD t1 (aD t2 aK)) ρ fun ds ρ1=>ds.length=2∧Q0 ds ρ1:=by
  have e9: ∀(x y:M.B) (ρ2:Ev),([x.d,y.d].length=2∧Q0 [x.d,y.d] ρ2)=Q0 [x.d,y.d] ρ2:=fun x y ρ2=>propext ⟨And.right,fun z=>⟨rfl,z⟩⟩
  show t1 ρ fun x ρ1=>t2 ρ1 fun y ρ2=>([x.d,y.d].length=2∧Q0 [x.d,y.d] ρ2)
  simp only[e9]
  exact h
 exact⟨C0,ρ,_,I,two,fun ds ρ' vs H' q f s r=>⟨by rw[←r.length];exact q.1,k ds ρ' vs H' q.2 f s r⟩⟩
theorem bT6 {P:Program}{w:World}{K:PySem.W.Frag}{mg:Str→Option Value}{base:Heap}{x qual:Str}{st:Stmt}{f:Addr}{fd:FuncData}{N ps:List Str}{k:Nat}{φ:ΦX}(F:Fun K x qual st f fd)(S:aU N ps (aB st))
  (len: ∀ds Q Ex,φ ds Q Ex→ds.length=ps.length) {t:USX}
  (der: ∀(cdv:Value) (A:Around) (outer:List Env) (s:Shared) (H:Hp) (E:XK),bM k (A.deeper (envOfC qual (aB st) s.heap.objs.size f cdv))→sW (cL (CXr P w base) P w K mg base N qual (aB st) f cdv A outer s H E) E (aI st) t)
  (rd: ∀ds Q Ex,φ ds Q Ex→t Ex {nx:=fun _=>Q (.pu .non),rt:=Q} (init N ds)) :
  kH P w K mg base (CXr P w base) (k+1) f fd ps (spX K mg φ):=by
 obtain⟨oc,od,kV,doc,pm,an,cdv,ct,osl,rfl,lk,hcd⟩:=F.ex
 refine bO8 lk hcd S (fun vs H Q E h=> ?_) fun A outer s H vs Q E hr h=> ?_
 ·obtain⟨A,ds,Q0,Ex,_,r,h,_⟩:=h
  rw[←r.length]
  exact len ds Q0 Ex h
 ·obtain⟨A',ds,Q0,Ex,hA,r,h,q,qx⟩:=h
  refine⟨_,der cdv A outer s H E hr,⟨H,A'⟩,init N ds,_,Ex,aQ3 hA r,rd ds Q0 Ex h,⟨fun ρ σ H' z I=> ?_,fun b v H' z s r=>q b v H' z s r,fun _ _ _ z=>z.elim,fun _ _ _ z=>z.elim⟩,qx⟩
  exact q _ _ H' z I.ext (show Rep _ _ _ _ _ by simp only[Rep])
theorem FnX.mk' {P:Program}{w:World}{K:PySem.W.Frag}{mg:Str→Option Value}{base:Heap}{x qual:Str}{st:Stmt}{f:Addr}{fd:FuncData}{N ps:List Str}{k:Nat}{φ:ΦX}(F:Fun K x qual st f fd)(m:mg x=some (.ref f))(b:Binds K fd ps [])(S:aU N ps (aB st))
  (len: ∀ds Q Ex,φ ds Q Ex→ds.length=ps.length) {t:USX}
  (der: ∀(cdv:Value) (A:Around) (outer:List Env) (s:Shared) (H:Hp) (E:XK),bM k (A.deeper (envOfC qual (aB st) s.heap.objs.size f cdv))→sW (cL (CXr P w base) P w K mg base N qual (aB st) f cdv A outer s H E) E (aI st) t)
  (rd: ∀ds Q Ex,φ ds Q Ex→t Ex {nx:=fun _=>Q (.pu .non),rt:=Q} (init N ds)):FnX P w K mg base x ps (k+1) φ:=
 ⟨f,fd,bT6 F S len der rd,b,F.kp,m⟩
end
end M
end
section
namespace L2
open PySem PySem.Spec PyProof.Rows
section
variable {X:Cx}{pins:List (Addr×Obj)}{σ:St}{H:Hp}{s:Shared}{h':Heap}{e:Addr}
theorem Inv.past {g:Heap}(I:Inv X pins σ H s)(p:a96 (frs X.stack) e s.heap h')(hstk:X.stack=X.env::X.outer)(hfr:X.env.frame=some X.env.locals)(hex:X.ex=[])(gs: ∀b o,X.s₀.heap.get? b=some o→ ∃o',g.get? b=some o')(gp: ∀q∈X.pn++pins,∃o',g.get? q.1=some o')(ne:g.get? e=none)(nt: ∀T,Tr s.heap e T→g.get? T=none)(he:H e=none)(ht: ∀T,Tr s.heap e T→H T=none):Inv X pins σ H {s with heap:=h'}:=by
 have none0: ∀b,g.get? b=none→X.s₀.heap.get? b=none:=fun b q=>by
  cases r:X.s₀.heap.get? b with
  | none=>rfl
  | some o=>obtain⟨o',q'⟩:=gs b o r;rw[q]at q';cases q'
 have fm: ∀b∈frs X.stack,b=X.env.locals∨b∈X.fs:=fun b hb=>by
  rw[hstk]at hb
  unfold Cx.fs
  unfold frs at hb⊢
  rw[List.filterMap_cons,hfr]at hb
  exact List.mem_cons.mp hb
 have hL:X.s₀.heap.get? X.env.locals=none:=Heap.get?_none_of_le I.ok.above
 have hd: ∀b∈X.fs,∀o,s.heap.get? b=some o→ ∀vs,o.data≠ .fields vs:=fun b hb o q=>by
  have fl:=I.stack
  rw[hstk]at fl
  obtain⟨_,o',q',n⟩:=fl.mem (b:=b) (by
   unfold Cx.fs frs at hb
   rw[List.filterMap_cons,hfr]
   exact List.mem_cons.mpr (.inr hb))
  rw[q]at q';cases q'
  exact n
 have hb0:=I.base
 rw[hex]at hb0
 have un:=hb0.past p fm hL (none0 e ne) (fun T q=>none0 T (nt T q)) hd
 have cellS: ∀c v,s.heap.IsCell c v→h'.IsCell c v:=fun c v ⟨o,q1,q2⟩=>by
  obtain⟨sl,q3⟩:=p.slot c o q1 (fun vs z=>by rw[q2]at z;cases z)
  exact⟨_,q3,q2⟩
 refine⟨I.ok,I.os,I.bare,by rw[hex];exact un,?_,fun x c q=> ?_,I.free,I.freeC,fun q hq=> ?_,I.hok.past p I.stkFree he ht,I.len⟩
 ·obtain⟨m,hn,hl⟩:=I.loc
  refine⟨m,p.slot.ns hn,fun i x v a b c=> ?_⟩
  obtain⟨u,r,lo⟩:=hl i x v a b c
  refine⟨u,r,?_⟩
  rcases lo with z| ⟨z1,c,z2,z3⟩
  ·exact .inl z
  ·exact .inr ⟨z1,c,z2,cellS c _ z3⟩
 ·obtain⟨v,z⟩:=I.cell x c q
  exact⟨v,cellS c v z⟩
 ·obtain⟨z1,z2,z3,z4,z5⟩:=I.pin q hq
  obtain⟨o',g1⟩:=gp q hq
  refine⟨p.keep q.1 q.2 z1 (fun z=> ?_) (fun z=>by rw[z,ne]at g1;cases g1) (fun z=>by rw[nt _ z]at g1;cases g1),z2,z3,z4,z5⟩
  rcases fm _ z with y|y
  ·exact z3 y
  ·exact z4 y
end
abbrev Cx.inX (X:Cx)(e:Addr):Cx:={X with A:=X.A.mark (some (.ref e)),calm:=false,xe:=fun _ _=>False}
theorem Cx.Ok.inX {X:Cx}(ok:X.Ok)(e:Addr):(X.inX e).Ok:=
 ⟨ok.mod,ok.kind,ok.glob,ok.blt,ok.above,ok.inj,ok.has,ok.cab,(fun z=>by cases z),ok.frames,ok.stk,ok.exf,ok.bs,ok.bsz,ok.noex,ok.exfs,ok.funs,ok.frf⟩
section
variable {X:Cx}{pins:List (Addr×Obj)}{σ:St}{H:Hp}{s:Shared}{e:Addr}
theorem Inv.inX (I:Inv X pins σ H s)(e:Addr):Inv (X.inX e) pins σ H s:=⟨I.ok.inX e,I.os,I.bare,I.base,I.loc,I.cell,I.free,I.freeC,I.pin,I.hok,I.len⟩
theorem Cx.Ok.outX {X:Cx}{Y:Cx}(okY:Y.Ok){e:Addr}(ok:(X.inX e).Ok)(hd:X.calm=true→X.A.handled=none):X.Ok:=
 ⟨ok.mod,ok.kind,ok.glob,ok.blt,ok.above,ok.inj,ok.has,ok.cab,hd,ok.frames,ok.stk,ok.exf,ok.bs,ok.bsz,ok.noex,ok.exfs,ok.funs,ok.frf⟩
theorem Inv.outX (I:Inv (X.inX e) pins σ H s)(hd:X.calm=true→X.A.handled=none):Inv X pins σ H s:=⟨I.ok.outX I.ok hd,I.os,I.bare,I.base,I.loc,I.cell,I.free,I.freeC,I.pin,I.hok,I.len⟩
theorem SP.outX {D:aF6}{f:Flow}{s':Shared}(h:SP (X.inX e) pins D f s')(hd:X.calm=true→X.A.handled=none):SP X pins D f s':=by
 cases f with
 | next=>obtain⟨σ',H',I,q⟩:=h;exact⟨σ',H',I.outX hd,q⟩
 | brk=>obtain⟨σ',H',I,q⟩:=h;exact⟨σ',H',I.outX hd,q⟩
 | cont=>obtain⟨σ',H',I,q⟩:=h;exact⟨σ',H',I.outX hd,q⟩
 | ret u=>obtain⟨v,σ',H',I,r,q⟩:=h;exact⟨v,σ',H',I.outX hd,r,q⟩
theorem bT7 {M:Model}{A:Around}{E:Value→Shared→Prop}{hp:Heap}{gn:Array GenState}{dr:Drawn}{tn:Nat}{os:OsState}{C R:Addr}{oe:Obj}{Q:Bool→Shared→Prop}
  {nm qn:Str} {N:Addr} {bs bm:List Value} {hdd:Bool} {sn:List Str} {sub:List Value} {ab:Bool} {col:Option Bool} {dd:Option Addr} {k0 k1 k2 k3 k5:Option Value} {newId:String}
  {nm' qn':Str} {N':Addr} {bs' bm':List Value} {hdd':Bool} {sn':List Str} {sub':List Value} {ab':Bool} {col':Option Bool} {dd':Option Addr} {k0' k1' k2' k3' k5':Option Value} {newId':String}
  (hC:hp.get? C=some (excClassObj nm qn C N bs bm hdd sn sub ab col dd k0 k1 k2 k3 k5 newId)) (hR:hp.get? R=some (excClassObj nm' qn' R N' bs' bm' hdd' sn' sub' ab' col' dd' k0' k1' k2' k3' k5' newId'))
  (he:hp.get? e=some oe) (hcl:oe.cls= .ref C) (hb:bm'.contains (.type "BaseException")=true) (hr:(Value.ref C::bm).contains (.ref R)=true) (hq:Q true ⟨hp,gn,dr,tn,os⟩) :
  wpAny M A (excMatches (.ref e) (.ref R)) Q E ⟨hp,gn,dr,tn,os⟩:=by
 have t1:(Value.ref R::bm').contains (.type "BaseException")=true:=by rw[List.contains_cons,hb,Bool.or_true]
 have t2:=tc_notTuple
 unfold excMatches
 repeat (first
  | (with_reducible refine wpAny_loadPart_at he ?_;rw[hcl])
  | with_reducible refine wpAny_loadPart_at hR ?_
  | (with_reducible refine wpAny_isSubtype_exc hR ?_;rw[t1])
  | (with_reducible refine wpAny_isSubtype_exc hC ?_;rw[hr])
  | wp_step)
 exact hq
end
theorem aL8.past {g h h':Heap}{fs:List Addr}{e:Addr}(n:aL8 g e h)(p:a96 fs e h h')(gh: ∀b o,g.get? b=some o→ ∃o',h.get? b=some o')(hf: ∀b∈fs,∀o,h'.get? b=some o→ ∀vs,o.data≠ .fields vs):aL8 g e h':=by
 refine⟨n.he,fun T q=> ?_⟩
 rcases p.tr T q with z|z|z|z
 ·obtain⟨o,vs,q1,q2⟩:=p.rcd T q
  exact absurd q2 (hf T z o q1 vs)
 ·rw[z];exact n.he
 ·exact n.ht T z
 ·cases r:g.get? T with
  | none=>rfl
  | some o=>obtain⟨o',q'⟩:=gh T o r;rw[z]at q';cases q'
theorem aA0 {g h h':Heap}{fs:List Addr}{e:Addr}(n:aL8 g e h)(p:a96 fs e h h')(gh: ∀b o,g.get? b=some o→ ∃o',h.get? b=some o')(hf: ∀b∈fs,∀o,h.get? b=some o→ ∀vs,o.data≠ .fields vs): ∀b o,g.get? b=some o→ ∃o',h'.get? b=some o':=fun b o q=>by
 obtain⟨o',q'⟩:=gh b o q
 by_cases c:b∈fs
 ·obtain⟨sl,z⟩:=p.slot b o' q' (hf b c o' q')
  exact⟨_,z⟩
 ·exact⟨o',p.keep b o' q' c (fun z=>by rw[z,n.he]at q;cases q) fun z=>by rw[n.ht b z]at q;cases q⟩
theorem c97 {h base:Heap}{l:List Env}(f:h.FunFrames base l): ∀b∈frs l,∀o,h.get? b=some o→ ∀vs,o.data≠ .fields vs:=fun b hb o q=>by
 obtain⟨_,o',q',n⟩:=f.mem (b:=b) hb
 rw[q]at q';cases q'
 exact n
def xA (CX:CXT)(X:Cx)(E:XK)(pins:List (Addr×Obj))(σ:St):Prop:= ∀(H:Hp) (s:Shared) (e:Value) (s':Shared),Inv X pins σ H s→CX X.stack H s E e s'→X.xe e s'
def yI (K:PySem.W.Frag)(R C:Addr)(bmB:List Value)(newId:String):Prop:=(PySem.W.excIn K C bmB newId=true∨ ∃fI,vG K C fI bmB newId=true)∧ ∃cd,PySem.W.clsIn K C=some cd∧cd.mro.contains (.ref R)=true
theorem underX {K:PySem.W.Frag}{h:Heap}{R C:Addr}{bmB:List Value}{newId:String}(X:K.In h)(u:yI K R C bmB newId): ∃(nm q:Str) (N:Addr) (bs bm:List Value) (hd:Bool) (sn:List Str) (sub:List Value) (ab:Bool) (col:Option Bool) (dd:Option Addr) (k0 k1 k2 k3 k5:Option Value),
  h.get? C=some (excClassObj nm q C N bs bm hd sn sub ab col dd k0 k1 k2 k3 k5 newId)∧(Value.ref C::bm).contains (.ref R)=true:=by
 obtain⟨a,cd,hc,hr⟩:=u
 have has: ∃(nm q:Str) (N:Addr) (bs bm:List Value) (hd:Bool) (sn:List Str) (sub:List Value) (ab:Bool) (col:Option Bool) (dd:Option Addr) (k0 k1 k2 k3 k5:Option Value),h.get? C=some (excClassObj nm q C N bs bm hd sn sub ab col dd k0 k1 k2 k3 k5 newId):=by
  rcases a with a| ⟨fI,a⟩
  ·obtain⟨bm,⟨⟨nm,qn,N,bs,hdd,sn,sub,ab,col,dd,k0,k1,k2,k3,k5,mN,hC,_⟩,_⟩⟩:=aR4 X a
   exact⟨nm,qn,N,bs,bm,hdd,sn,sub,ab,col,dd,k0,k1,k2,k3,k5,hC⟩
  ·obtain⟨bm,⟨⟨nm,qn,N,bs,hdd,sn,sub,ab,col,dd,k0,k1,k2,k3,k5,mN,hC,_⟩,_⟩⟩:=aY6 X a
   exact⟨nm,qn,N,bs,bm,hdd,sn,sub,ab,col,dd,k0,k1,k2,k3,k5,hC⟩
 obtain⟨nm,qn,N,bs,bm,hdd,sn,sub,ab,col,dd,k0,k1,k2,k3,k5,hC⟩:=has
 refine⟨nm,qn,N,bs,bm,hdd,sn,sub,ab,col,dd,k0,k1,k2,k3,k5,hC,?_⟩
 unfold PySem.W.clsIn at hc
 split at hc
 ·rename_i look
  have same:=X _ _ look
  rw[hC]at same
  cases hc
  injection same with same
  injection same with _ _ same _
  injection same with same
  rw[←same]at hr
  exact hr
 ·cases hc
section
variable {X:Cx}
def tTry (K:PySem.W.Frag)(R:Addr)(bmB:List Value)(newId:String)(tb:XK→TS)(th:TS):TS:=fun D σ H=> ∃E,tb E D σ H∧ ∀C H',E (.ref C) none H'→yI K R C bmB newId∧th D σ H'
theorem ps_try {body:List Stmt}{b0:Stmt}{suite:List Stmt}{r:Str}{rp hpos pos:Pos}{R:Addr}{B newId initId:String}{bmB:List Value}{tb:XK→TS}{th:TS}(FB:ExcBaseFacts B newId initId bmB)(hstk:X.stack=X.env::X.outer)(hfr:X.env.frame=some X.env.locals)(hex:X.ex=[])(hc:X.calm=true)
  (hbody: ∀(xe:Value→Shared→Prop) (E:XK) (pins:List (Addr×Obj)) (s:Shared) (σ:St) (H:Hp) (D:aF6),Inv (X.wish xe) pins σ H s→xA (CXr X.prog X.w X.base) (X.wish xe) E pins σ→tb E D σ H→wpAny (model X.prog X.w) X.A (execs body X.env) (SP (X.wish xe) pins D) xe s)
  (hsuite: ∀a,PSs (X.inX a) (b0::suite) th) (hg:Gl X r) (hm:X.mg r=some (.ref R)) (hR:PySem.W.excIn X.K R bmB newId=true) (hd:(r==("__debug__":Str))=false:=by decide) :
  PS X (.Try body [.ExceptHandler (some (.Name r rp)) none (b0::suite) hpos] [] [] pos) (tTry X.K R bmB newId tb th):=by
 rintro pins s σ H D I ⟨E,hb,hx⟩
 refine wpAny_Try_except ?_
 have goX:xA (CXr X.prog X.w X.base) (X.wish fun e s1=>wpAny (model X.prog X.w) X.A (noteFrame e X.env) (fun _ s2=>wpAny (model X.prog X.w) X.A (setFlight e none) (fun _ s3=>wpAny (model X.prog X.w) X.A (handleBy e X.env [.ExceptHandler (some (.Name r rp)) none (b0::suite) hpos]) (SP X pins D) X.xe s3) X.xe s2) X.xe s1) E pins σ:=by
  rintro H1 s1 e s' J ⟨a,C,H',rfl,ho,hbr,un,hok,⟨⟨a0,fl⟩,fe,ft⟩,nw,hE⟩
  have J0:=J.unwish
  have J1:Inv X pins σ H' s':=J0.call' ho un hok hbr (fun b z=>absurd z (by simp))
  obtain⟨under,hth⟩:=hx C H' hE
  have fl':Heap.FlyingW X.base X.stack a (.ref C) a0 s'.heap:=fl
  have frs':=J1.ok.frames
  have g0: ∀b o,s1.heap.get? b=some o→ ∃o',s'.heap.get? b=some o':=fun b o q=>un.there b o q (by simp)
  have gs: ∀b o,X.s₀.heap.get? b=some o→ ∃o',s1.heap.get? b=some o':=fun b o q=>J0.base.there b o q (by rw[hex];simp)
  have gp: ∀q∈X.pn++pins,∃o',s1.heap.get? q.1=some o':=fun q hq=>⟨_,(J0.pin q hq).1⟩
  show wpAny _ _ (noteFrame (.ref a) X.env) _ _ s'
  rw[hstk]at fl' frs'
  refine bS9 frs' hfr fl' fun h2 held p2=> ?_
  rw[←hstk]at p2 held fl'
  have J2:=J1.past (g:=s1.heap) p2 hstk hfr hex gs gp nw.he nw.ht fe ft
  have n2:=nw.past p2 g0 (c97 held.2.2.1)
  have g2:=aA0 nw p2 g0 (c97 fl'.2.2.1)
  have t2:=a68 J1.hok p2 J1.stkFree fe ft
  refine aY3 held fun h3 fl3 p3=> ?_
  have J3:=J2.past (g:=s1.heap) p3 hstk hfr hex gs gp n2.he n2.ht fe t2
  have n3:=n2.past p3 g2 (c97 fl3.2.2.1)
  have g3:=aA0 n2 p3 g2 (c97 held.2.2.1)
  have t3:=a68 J2.hok p3 J2.stkFree fe t2
  obtain⟨oe,he,hcl⟩:=fl3.there
  obtain⟨nm,qn,N,bs,bm,hdd,sn,sub,ab,col,dd,k0,k1,k2,k3,k5,hC,hin⟩:=underX J3.kIn under
  obtain⟨bm',⟨⟨nm',qn',N',bs',hdd',sn',sub',ab',col',dd',k0',k1',k2',k3',k5',mN',hRo,_⟩,tl'⟩⟩:=aR4 J3.kIn hR
  refine wpAny_handleBy_cons (codeAny_handlers_test (o9 (X:=X.inX a) (J3.inX a) hg hm ?_ hd)) (by intro q;cases q)
  refine bT7 hC hRo he hcl (tl'.hasType FB.hasBase) hin ?_
  refine codeAny_handlers_suite (aY3 fl3 fun h4 fl4 p4=> ?_)
  have J4:=J3.past (g:=s1.heap) p4 hstk hfr hex gs gp n3.he n3.ht fe t3
  exact wpAny_mono (hsuite a pins _ σ H' D (J4.inX a) hth) (fun f s2 q=>q.outX fun _=>J4.ok.hd hc) fun _ _ z=>z.elim
 refine wpAny_mono (hbody _ E pins s σ H D (I.wish _) goX hb) (fun f s1 q=> ?_) fun _ _ z=>z
 have q':=q.unwish
 cases f with
 | next=>exact wpAny_execs_nil q'
 | ret v=>exact q'
 | brk=>exact q'
 | cont=>exact q'
end
end L2
end
section
namespace L2
open PySem PySem.Spec PyProof.Rows
section
variable {X:Cx}{CX:CXT}{k:Nat}{f C:Addr}{fd:FuncData}{ps:List Str}{sp:Sp}{dvs:List V}{ds:List Value}{E:XK}{x:Str}{p pos:Pos}{e:Expr}{es:List Expr}{t:TA}
theorem bI7 {pins:List (Addr×Obj)}{σ:St}{H:Hp}{s:Shared}{Q:VK}{us:List Value}{vs:List V}(M:Mk X.K C f)(F:kH X.prog X.w X.K X.mg X.base CX k f fd ps sp)(hr:bM (k+1) X.A)(hb:Binds X.K fd ps [])
  (hx:xA CX X E pins σ) (I:Inv X pins σ H s) (r:Vals vs us)
  (h: ∀x dx,H x=none→H dx=none→dx≠x→sp (.ref x::vs) (upd (upd H dx (.own x)) x (.ins C dx [])) (fun v H2=>v= .non∧Q (.ref x) H2) E) :
  wpAny (model X.prog X.w) X.A (call (.ref C) us) (EP X pins σ Q) X.xe s:=by
 have hq:=h (s.heap.objs.size+1) s.heap.objs.size (I.hok.fresh (Nat.le_succ _)) (I.hok.fresh (Nat.le_refl _)) (Nat.ne_of_lt (Nat.lt_succ_self _))
 have I2:=Inv.made (C:=C) I
 have r2:Vals (V.ref (s.heap.objs.size+1)::vs) (Value.ref (s.heap.objs.size+1)::us):= .cons rfl r
 have hl:(Value.ref (s.heap.objs.size+1)::us++[]).length=ps.length:=by
  have e:=r2.length
  rw[F.len _ _ _ _ hq]at e
  rw[List.append_nil]
  exact e.symm
 have bd:=hb (s:={s with heap:=(s.heap.push {cls:= .type "dict",data:= .dict #[]}).push (PySem.W.instObj C s.heap.objs.size)}) (Value.ref (s.heap.objs.size+1)::us) I2.kIn hl
 rw[List.append_nil]at bd
 refine wpAny_call (aW2 (f:=f) I.kIn M.makes M.init (beq_iff_eq.mp M.fn) (codeAny_mono (F.run _ X.stack _ _ ⟨Value.ref (s.heap.objs.size+1)::us,[]⟩ (Value.ref (s.heap.objs.size+1)::us) _ _ E (hr.make C us [])
  (I2.env0.make C us []) bd r2 hq) fun r s' hq'=> ?_))
 cases r with
 | error e=>exact hx _ _ e s' I2 hq'
 | ok fl=>
  cases fl with
  | ret u=>
   obtain⟨v,H',I3,rv,ev,q3⟩:=I2.after hq'
   subst ev
   exact⟨rv,⟨V.ref (s.heap.objs.size+1),H',I3,rfl,q3⟩⟩
  | next=>exact False.elim hq'
  | brk=>exact False.elim hq'
  | cont=>exact False.elim hq'
theorem c98 {pins:List (Addr×Obj)}{σ:St}{H:Hp}{s:Shared}{Q:VK}(M:Mk X.K C f)(F:kH X.prog X.w X.K X.mg X.base CX k f fd ps sp)(hr:bM (k+1) X.A)(hg:Gl X x)(hm:X.mg x=some (.ref C))(hb:Binds X.K fd ps [])(hx:xA CX X E pins σ)
  (ha:PA X (e::es) t) (I:Inv X pins σ H s) (h:bB0 C sp [] E t σ H Q) (hdb:(x==("__debug__":Str))=false) (he:starEach (e::es) X.env=(false,eval e X.env)::starEach es X.env) (hpl:(backTo pos (starEach es X.env)).any (·.1)=false) :
  wpAny (model X.prog X.w) X.A (eval (.Call (.Name x p) (e::es) [] pos) X.env) (EP X pins σ Q) X.xe s:=by
 refine wpAny_Call_Name_kw (o9 I hg hm ?_ hdb)
 refine PySem.W.callWith_K (h₀:=X.base) I.ok.mod.kin M.kp (thn (ha pos pins s σ H _ I h) fun us s1 ⟨vs,H1,I1,r,q⟩=>⟨I1.kIn,?_⟩) he hpl
 exact bI7 M F hr hb hx I1 r fun x dx a b c=>by have:=q x dx a b c;rw[List.append_nil]at this;exact this
end
end L2
namespace M
open PySem PySem.Spec PyProof.Rows L2
section
variable {X:Cx}{e:Expr}{es:List Expr}{pos:Pos}{te:UE}{K:PySem.W.Frag}{A:AS}{H:Hp}
def yJ (f:Str)(t:UE):UE:=fun ρ Q=>t ρ fun b ρ1=>match b.d with
 | .obj _ ks l=>(match(ks.zip l).lookup f with
  | some d=>Q (.pu d) ρ1
  | none=>False)
 | _=>False
theorem bC.field {f:Str}{d:D}: ∀{ks:List Str} {l:List D} {vs:List V},bC K A H l vs→(ks.zip l).lookup f=some d→ ∃v,(ks.zip vs).lookup f=some v∧Rep K A H d v∧f∈ks
 | [],_,_,_,h=>by simp at h
 | _::_,[],_,_,h=>by simp at h
 | q::ks,a::l,vs,r,h=>by
  obtain⟨v,vr,rfl,r1,r2⟩:=r.uncons
  rw[List.zip_cons_cons,List.lookup_cons]at h
  rw[List.zip_cons_cons,List.lookup_cons]
  cases c:f==q with
  | true=>
   rw[c]at h
   cases h
   exact⟨v,rfl,r1,by rw[beq_iff_eq.mp c];simp⟩
  | false=>
   rw[c]at h
   obtain⟨w,h1,h2,h3⟩:=bC.field r2 h
   exact⟨w,h1,h2,List.mem_cons_of_mem _ h3⟩
theorem sX {f:Str}(he:PU X e te)(hb:attributeBase e f X.env (eval e X.env)=eval e X.env:=by rfl):PU X (.Attribute e f pos) (yJ f te):=
 gK (pe_fld he hb) fun σ H Q ⟨C,ρ,Q0,I,h,k⟩=>⟨C,ρ,_,I,h,fun b ρ1 v H1 q fz s r=>by
  have rr:=r.rep fun a z=>I.avF fz z
  cases ed:b.d with
  | obj C' ks l=>
   rw[ed]at rr q
   dsimp only at q
   cases el:(ks.zip l).lookup f with
   | none=>rw[el]at q;exact q.elim
   | some d=>
    rw[el]at q
    simp only[Rep]at rr
    obtain⟨a,dx,vs,rfl,n,c,hl,rl,ok⟩:=rr
    obtain⟨w,h1,h2,h3⟩:=rl.field el
    exact⟨a,C',dx,ks.zip vs,w,rfl,c,ok.1,ok.2 f h3,h1,k _ ρ1 w H1 q fz s h2⟩
  | _=>rw[ed]at q;exact q.elim⟩
abbrev ΦM:=List D→(List D→Prop)→(Str→Prop)→Prop
def spI (K:PySem.W.Frag)(mg:Str→Option Value)(C:Addr)(ks:List Str)(φ:ΦM):Sp:=fun vs H Q E=> ∃(x dx:Addr) (vs':List V) (A:AS) (ds:List D) (Q0:List D→Prop) (Ex:Str→Prop),vs=V.ref x::vs'∧H x=some (.ins C dx [])∧H dx=some (.own x)∧ ¬A x∧ ¬A dx∧(∀a,A a→H a≠none)∧bC K (fun b=>A b∨b=x) H ds vs'∧φ ds Q0 Ex∧
 (∀l ws H',Q0 l→(∀b o,b≠x→H b=some o→H' b=some o)→H' x=some (.ins C dx (ks.zip ws))→ks.length=ws.length→bC K (fun b=>A b∨b=x) H' l ws→Q .non H')∧
 ∀n Cl H',Ex n→mg n=some (.ref Cl)→(∀b o,b≠x→H b=some o→H' b=some o)→E (.ref Cl) none H'
structure MkX (P:Program)(w:World)(K:PySem.W.Frag)(mg:Str→Option Value)(base:Heap)(x:Str)(k:Nat)(ks:List Str)(φ:ΦM):Prop where
 ex: ∃C f fd ps,Mk K C f∧OkC K C ks∧kH P w K mg base (CXr P w base) k f fd ps (spI K mg C ks φ)∧Binds K fd ps []∧mg x=some (.ref C)
theorem cF6 {C:Addr}{ks:List Str}{φ:ΦM}{t:UA}{E:XK}{C0:C0}{ρ:Ev}{σ:L2.St}{Q:VK}{Q0:Ev→List D→Prop}{Ex:Ev→Str→Prop}(ok:OkC X.K C ks)(I:EOk X.K C0 ρ σ H)(h:t ρ fun ds ρ1=>φ ds (Q0 ρ1) (Ex ρ1))
  (kq: ∀l ρ1 v H',Q0 ρ1 l→Frz ρ ρ1→fF H H'→Rep X.K (Av C0 ρ1 σ) H' (.obj C ks l) v→Q v H') (kx: ∀n Cl ρ1 H',Ex ρ1 n→X.mg n=some (.ref Cl)→EOk X.K C0 ρ1 σ H'→E (.ref Cl) none H') :
  bB0 C (spI X.K X.mg C ks φ) [] E (lA X.K t) σ H Q:=by
 refine⟨C0,ρ,_,I,h,fun ds ρ1 vs H1 q f s r x dx nx nd ne=> ?_⟩
 have I1:=(I.frz f).same s
 have hA: ∀a,Av C0 ρ1 σ a→H1 a≠none:=fun a z=>I1.avSome z
 have s3:fF H1 (upd (upd H1 dx (.own x)) x (.ins C dx [])):=fun b o z=>by
  rw[cB (dF z nx),cB (dF z nd)];exact z
 have back: ∀H',(∀b o,b≠x→upd (upd H1 dx (.own x)) x (.ins C dx []) b=some o→H' b=some o)→fF H1 H':=fun H' z b o q'=>z b o (dF q' nx) (s3 b o q')
 rw[List.append_nil]
 refine⟨x,dx,vs,Av C0 ρ1 σ,ds,Q0 ρ1,Ex ρ1,rfl,hJ,by rw[cB ne];exact hJ,fun z=>hA x z nx,fun z=>hA dx z nd,fun a z q'=> ?_,r.mono (jD.fresh s3 nx),q,fun l ws H' q0 kp hx hl rl=>⟨rfl,?_⟩,fun n Cl H' ex hm kp=> ?_⟩
 ·cases e':H1 a with
  | none=>exact hA a z e'
  | some o=>rw[s3 a o e']at q';cases q'
 ·refine kq l ρ1 _ H' q0 f (s.trans (back H' kp)) ?_
  simp only[Rep]
  exact⟨x,dx,ws,rfl,fun z=>hA x z nx,hx,hl,rl.mono (.sub (.refl _) fun a z=> .inl z),ok⟩
 ·exact kx n Cl ρ1 H' ex hm (I1.same (back H' kp))
def bT8 (ks:List Str)(φ:ΦM)(t:UA):UE:=fun ρ Q=>t ρ fun ds ρ1=>φ ds (fun l=> ∀C,Q (.pu (.obj C ks l)) ρ1) fun _=>False
theorem c99 {k k':Nat}{ks:List Str}{φ:ΦM}{x:Str}{p:Pos}{t:UA}(F:MkX X.prog X.w X.K X.mg X.base x k ks φ)(hr:bM (k'+1) X.A)(hk:k≤k')(hg:Gl X x)(ha:PUA X (e::es) t)(hdb:(x==("__debug__":Str))=false:=by decide)
  (he:starEach (e::es) X.env=(false,eval e X.env)::starEach es X.env:=by rfl) (hpl:(backTo pos (starEach es X.env)).any (·.1)=false:=by rfl):PU X (.Call (.Name x p) (e::es) [] pos) (bT8 ks φ t):=by
 obtain⟨C,f,fd,ps,M,ok,G,b,m⟩:=F.ex
 have hp:oW (CXr X.prog X.w X.base) X (fun _ _ _=>False):=by
  rintro pins σ H s e s' I ⟨_,_,_,_,_,_,_,_,_,_,z⟩
  exact z.elim
 refine gK (c61 M (G.mono hk) hr hg m b .nil hp ha hdb he hpl) fun σ H Q ⟨C0,ρ,Q0,I,h,k⟩=> ?_
 exact cF6 (Q0:=fun ρ1 l=> ∀C,Q0 (.pu (.obj C ks l)) ρ1) (Ex:=fun _ _=>False) ok I h (fun l ρ1 v H' q f s r=>k _ ρ1 v H' (q C) f s r) fun n Cl ρ1 H' z=>z.elim
def bT9 (i:Nat)(ks:List Str)(φ:ΦM)(t:UA)(names:List Str)(th:US):US:=fun E ρ=>t ρ fun ds ρ1=>φ ds (fun l=> ∀C,E.nx (ρ1.set i (some (.pu (.obj C ks l))))) fun n=>n∈names∧th E ρ1
theorem cA0 {k k':Nat}{ks:List Str}{φ:ΦM}{x y r:Str}{p cpos apos py rp hpos:Pos}{t:UA}{b0:Stmt}{suite:List Stmt}{th:US}{R:Addr}{B newId initId:String}{bmB:List Value}(i:Nat)(names:List Str)(FB:ExcBaseFacts B newId initId bmB)(F:MkX X.prog X.w X.K X.mg X.base x k ks φ)(hr:bM (k'+1) X.A)(hk:k≤k')(hstk:X.stack=X.env::X.outer)(hfr:X.env.frame=some X.env.locals)(hex:X.ex=[])(hc:X.calm=true)
  (hg:Gl X x) (ha: ∀xe,PUA (X.wish xe) (e::es) t) (hN:X.N.Nodup) (hi:X.N[i]? =some y) (hy:Loc X.env.scope y) (hsuite: ∀a,cZ (X.inX a) (b0::suite) th) (hgr:Gl X r) (hmr:X.mg r=some (.ref R)) (hR:PySem.W.excIn X.K R bmB newId=true) (hu: ∀n∈names,∀C,X.mg n=some (.ref C)→yI X.K R C bmB newId)
  (hl: ∀pins σ H s,Inv X pins σ H s→i<σ.length) (hdb:(x==("__debug__":Str))=false:=by decide) (hd:(r==("__debug__":Str))=false:=by decide)
  (he:starEach (e::es) X.env=(false,eval e X.env)::starEach es X.env:=by rfl) (hpl:(backTo cpos (starEach es X.env)).any (·.1)=false:=by rfl) (hs:swapsWith (.Call (.Name x p) (e::es) [] cpos) (some (.Name y py)) apos.line X.env=pure false:=by rfl) (hf:X.fn y=true∨X.env.scope.names.lookup y=some .local:=by first|exact .inl rfl|exact .inr rfl|assumption) :
  PUS X (.Try [.Assign [.Name y py] (.Call (.Name x p) (e::es) [] cpos) apos] [.ExceptHandler (some (.Name r rp)) none (b0::suite) hpos] [] [] pos) (bT9 i ks φ t names th):=by
 obtain⟨C,f,fd,ps,M,ok,G,b,m⟩:=F.ex
 intro pins s σ H D J q
 refine ps_try (R:=R) (tb:=fun E=>c08 (bB0 C (spI X.K X.mg C ks φ) [] E (lA X.K t)) (wQ i)) (th:=lS X.K th) FB hstk hfr hex hc (fun xe E pins s σ H D I pa h=> ?_) hsuite hgr hmr hR hd pins s σ H D J ?_
 ·refine wpAny_execs_cons (wpAny_Assign_Name (thn (c98 (X:=X.wish xe) M (G.mono hk) hr hg m b pa (ha xe) I h hdb he hpl) fun v s1 ⟨y',H1,I1,r1,q1⟩=> ?_) hs)
  exact wP (X:=X.wish xe) I1 hN hi hy r1 (fun s2 I2=>wpAny_execs_nil ⟨_,H1,I2,q1⟩) hf
 ·obtain⟨C0,ρ,D0,I,h,k⟩:=q
  refine⟨fun cls _ H'=> ∃n Cl ρ1,cls=Value.ref Cl∧X.mg n=some (.ref Cl)∧n∈names∧th D0 ρ1∧EOk X.K C0 ρ1 σ H',?_,?_⟩
  ·exact cF6 (Q0:=fun ρ1 l=> ∀C,D0.nx (ρ1.set i (some (.pu (.obj C ks l))))) (Ex:=fun ρ1 n=>n∈names∧th D0 ρ1) ok I h
    (fun l ρ1 v H' q f s1 r=>k.nx _ _ _ (q C) ((I.frz f).store s1 (show nE X.K (Av C0 ρ1 σ) H H' (.pu (.obj C ks l)) v from r) (hl pins σ H s J))) fun n Cl ρ1 H' z hm' I'=>⟨n,Cl,ρ1,rfl,hm',z.1,z.2,I'⟩
  ·rintro Cl H' ⟨n,Cl',ρ1,e1,hm',hn,ht,I'⟩
   cases e1
   exact⟨hu n hn Cl hm',C0,ρ1,D0,I',ht,k⟩
end
end M
end
section
namespace M
open PySem PySem.Spec PyProof.Rows L2
section
variable {K:PySem.W.Frag}{C:C0}{ρ ρ':Ev}{σ:L2.St}{H H':Hp}
theorem EOk.poke {x:Addr}{o:HO}(I:EOk K C ρ σ H)(ax:C.A0 x)(hx: ∀vs,C.H0 x≠some (.lst vs)):EOk K ⟨fun b=>if b=x then some o else C.H0 b,C.A0⟩ ρ σ (upd H x o):=by
 have ne: ∀a,C.H0 a=none→a≠x:=fun a z e=>by subst e;exact I.a0 a ax z
 have P:jD (Av C ρ σ) H (Av ⟨fun b=>if b=x then some o else C.H0 b,C.A0⟩ ρ σ) (upd H x o):=fun b u nb e=>⟨nb,by rw[cB (fun z=>nb (by subst z;exact .inl ax))];exact e⟩
 refine⟨I.len,?_,?_,I.inj,?_,?_,?_⟩
 ·intro i d h
  obtain⟨v,h1,h2⟩:=I.pu i d h
  exact⟨v,h1,h2.mono P⟩
 ·intro i l h
  obtain⟨a,vs,h1,h2,h3,h4⟩:=I.ow i l h
  have na:=ne a h3
  exact⟨a,vs,h1,by rw[cB na];exact h2,by show(if a=x then some o else C.H0 a)=none;rw[if_neg na];exact h3,h4.mono P⟩
 ·intro i l h
  obtain⟨a,vs,h1,h2,h3,h4⟩:=I.bo i l h
  have na:a≠x:=fun z=>by subst z;exact hx vs h3
  exact⟨a,vs,h1,h2,by show(if a=x then some o else C.H0 a)=_;rw[if_neg na];exact h3,h4.mono P⟩
 ·intro b u h
  by_cases c:b=x
  ·subst c
   have h':(if b=b then some o else C.H0 b)=some u:=h
   rw[if_pos rfl]at h'
   rw[hJ]
   exact h'
  ·have h':(if b=x then some o else C.H0 b)=some u:=h
   rw[if_neg c]at h'
   rw[cB c]
   exact I.ext b u h'
 ·intro a z
  show(if a=x then some o else C.H0 a)≠none
  split
  ·simp
  ·exact I.a0 a z
theorem aA1 {x Cl dx:Addr}{fs:List (Str×V)}{f:Str}{te:UE}{Q0:B→Ev→Prop}{D:aF6}(I:EOk K C ρ σ H)(ax:C.A0 x)(hx:H x=some (.ins Cl dx fs))(h0:ρ[0]? =some (some (.pu (.adr x))))(cl:Cls K Cl)(na:sR K Cl f)(hf:fs.length<1000)(h:te ρ Q0)
  (k: ∀b ρ1 w H',Q0 b ρ1→ρ1[0]? =some (some (.pu (.adr x)))→(∀a o,a≠x→H a=some o→H' a=some o)→H' x=some (.ins Cl dx (o7 f w fs))→(∃C1:C0,C1.A0=C.A0∧EOk K C1 ρ1 σ H')→Rep K C.A0 H' b.d w→(∀d v,Rep K C.A0 H d v→Rep K C.A0 H' d v)→D.nx σ H') :
  bO3 K (a01 0) (lE K te) f D σ H:=by
 refine⟨C,ρ,Q0,I,h,fun b ρ1 w H1 q fz s r=> ?_⟩
 have I1:=(I.frz fz).same s
 have h1:ρ1[0]? =some (some (.pu (.adr x))):=by
  rcases fz.2 0 with z| ⟨l,z,_⟩
  ·rw[z];exact h0
  ·rw[h0]at z;cases z
 obtain⟨v,e1,e2⟩:=I1.pu 0 _ h1
 simp only[Rep]at e2
 subst e2
 have hx1:=s _ _ hx
 have nl: ∀vs,C.H0 x≠some (.lst vs):=fun vs z=>by
  have:=I.ext x _ z
  rw[hx]at this
  cases this
 have P:jD C.A0 H1 C.A0 (upd H1 x (.ins Cl dx (o7 f w fs))):=jD.upd ax
 refine⟨.ref x,e1,x,Cl,dx,fs,rfl,hx1,cl,na,hf,k b ρ1 w _ q h1 (fun a o ne e=>by rw[cB ne];exact s a o e) hJ ⟨⟨fun b=>if b=x then some (.ins Cl dx (o7 f w fs))else C.H0 b,C.A0⟩,rfl,I1.poke (o:= .ins Cl dx (o7 f w fs)) ax nl⟩ ?_ fun d v r'=> ?_⟩
 ·exact((r.rep fun a z=>I.avF fz z).mono (.sub (.refl _) fun a z=> .inl z)).mono P
 ·exact(r'.mono (.same s)).mono P
end
section
variable {X:Cx}{E:XK}{st:Stmt}{sts:List Stmt}{t u:USX}{tS:TS}
theorem cA1 (h1:aR5 X E st t)(h2:PSs X sts tS):PSs X (st::sts) (fun D=>lSX X.K X.mg E t {D with nx:=tS D}):=qF h1 h2
theorem a69 (h1:aR5 X E st t)(h2:PSs X sts (fun D=>lSX X.K X.mg E u {D with nx:=tS D})):PSs X (st::sts) (fun D=>lSX X.K X.mg E (fun Ex=>aQ (t Ex) (u Ex)) {D with nx:=tS D}):=
 a85 (qF h1 h2) fun D σ H ⟨C,ρ,D0,Ex,I,h,k,kx⟩=>⟨C,ρ,{D0 with nx:=u Ex D0},Ex,I,h,⟨fun ρ' σ' H' q I'=>⟨C,ρ',D0,Ex,I',q,k,kx⟩,k.rt,k.bk,k.ct⟩,kx⟩
def tS3 (K:PySem.W.Frag)(f1 f2 f3:Str)(t1 t2 t3:UE):TS:=tSeq (bO3 K (a01 0) (lE K t1) f1) (tSeq (bO3 K (a01 0) (lE K t2) f2) (bO3 K (a01 0) (lE K t3) f3))
end
theorem bU0 {P:Program}{w:World}{K:PySem.W.Frag}{mg:Str→Option Value}{base:Heap}{x qual:Str}{st:Stmt}{f Cl:Addr}{fd:FuncData}{N ps:List Str}{k:Nat}{φ:ΦM}{f1 f2 f3:Str}{t1 t2 t3:UE}(F:Fun K x qual st f fd)(S:aU N ps (aB st))(ok:OkC K Cl [f1,f2,f3])(n1:f1≠f2)(n2:f1≠f3)(n3:f2≠f3)
  (len: ∀ds Q Ex,φ ds Q Ex→ds.length+1=ps.length) (hN:N≠[]) {t:USX}
  (der: ∀(cdv:Value) (A:Around) (outer:List Env) (s:Shared) (H:Hp) (E:XK),bM k (A.deeper (envOfC qual (aB st) s.heap.objs.size f cdv))→
   PSs (cL (CXr P w base) P w K mg base N qual (aB st) f cdv A outer s H E) (aI st) (fun D=>lSX K mg E t {D with nx:=tS3 K f1 f2 f3 t1 t2 t3 D}))
  (rd: ∀a ds Q Ex,φ ds Q Ex→t Ex {nx:=fun ρ=>ρ[0]? =some (some (.pu (.adr a)))∧t1 ρ fun b1 ρ1=>t2 ρ1 fun b2 ρ2=>t3 ρ2 fun b3 _=>Q [b1.d,b2.d,b3.d],rt:=fun _=>False} (init N (.adr a::ds))) :
  kH P w K mg base (CXr P w base) (k+1) f fd ps (spI K mg Cl [f1,f2,f3] φ):=by
 obtain⟨oc,od,kV,doc,pm,an,cdv,ct,osl,rfl,lk,hcd⟩:=F.ex
 refine bO8 lk hcd S (fun vs H Q E h=> ?_) fun A outer s H vs Q E hr h=> ?_
 ·obtain⟨x,dx,vs',A,ds,Q0,Ex,rfl,_,_,_,_,_,r,h,_⟩:=h
  have:=len ds Q0 Ex h
  rw[List.length_cons,←r.length]
  exact this
 ·obtain⟨x,dx,vs',A',ds,Q0,Ex,rfl,hx,hdx,nx,nd,hA,r,h,q,qx⟩:=h
  have hA2: ∀a,(A' a∨a=x)→H a≠none:=fun a z=>by
   rcases z with z|rfl
   ·exact hA a z
   ·rw[hx];simp
  have r2:bC K (fun b=>A' b∨b=x) H (.adr x::ds) (.ref x::vs'):= .cons (by simp only[Rep]) r
  refine⟨_,der cdv A outer s H E hr,⟨H,fun b=>A' b∨b=x⟩,init N (.adr x::ds),_,Ex,aQ3 hA2 r2,rd x ds Q0 Ex h,⟨fun ρ σ H' z I=> ?_,fun _ _ _ z=>z.elim,fun _ _ _ z=>z.elim,fun _ _ _ z=>z.elim⟩,fun n Cl' H' ex hm sm=>qx n Cl' H' ex hm fun b o _ e=>sm b o e⟩
  obtain⟨z0,z⟩:=z
  have hx':H' x=some (.ins Cl dx []):=I.ext x _ hx
  refine aA1 (C:=⟨H,fun b=>A' b∨b=x⟩) I (.inr rfl) hx' z0 ok.1 (ok.2 f1 (by simp)) (by decide) z ?_
  rintro b1 ρ1 w1 H1 z1 z0 k1 x1 ⟨C1,a1,I1⟩ r1 m1
  refine aA1 (C:=C1) I1 (by rw[a1];exact .inr rfl) x1 z0 ok.1 (ok.2 f2 (by simp)) (show 1<1000 by decide) z1 ?_
  rintro b2 ρ2 w2 H2 z2 z0 k2 x2 ⟨C2,a2,I2⟩ r2 m2
  refine aA1 (C:=C2) I2 (by rw[a2,a1];exact .inr rfl) x2 z0 ok.1 (ok.2 f3 (by simp)) (by simp[o7,n1]) z2 ?_
  rintro b3 ρ3 w3 H3 z3 z0 k3 x3 ⟨C3,a3,I3⟩ r3 m3
  rw[a1]at m2 r2
  rw[a2,a1]at m3 r3
  refine q [b1.d,b2.d,b3.d] [w1,w2,w3] H3 z3 (fun b o ne e=>k3 b o ne (k2 b o ne (k1 b o ne (I.ext b o e)))) ?_ rfl (.cons (m3 _ _ (m2 _ _ r1)) (.cons (m3 _ _ r2) (.cons r3 .nil)))
  rw[x3]
  simp[o7,n1,n2,n3]
def aR8 (s:Stmt):List Stmt:=match s with
 | .ClassDef _ _ _ b _ _ _ _ _ _ _=>b
 | _=>[]
section
variable {P:Program}{w:World}{K:PySem.W.Frag}{mg:Str→Option Value}{base:Heap}
theorem bC7 {C fI:Addr}{od an:Option Addr}{osl:Array (Option Value)}{kV doc pm cdv ct:Value}{nm qual:Str}{st:Stmt}{x0 x1 x2 f1 f2:Str}{p1 p2 p3 p4 p5 p6 p7 p8:Pos}
  (l:K.lookup fI=some ⟨.type "function",od,.func (PySem.W.fnOf nm qual (aV st) (aI st) (aB st) .none kV doc pm an cdv ct),osl⟩) (c:PySem.W.codeIn K cdv qual=true) (k:PySem.W.keepIn K (.ref fI)=true)
  (hb:aI st=[.Assign [.Attribute (.Name x0 p1) f1 p2] (.Name x1 p3) p4,.Assign [.Attribute (.Name x0 p5) f2 p6] (.Name x2 p7) p8]) (S:aU [x0,x1,x2] [x0,x1,x2] (aB st))
  (l0:(aB st).names.lookup x0=some .local) (l1:(aB st).names.lookup x1=some .local) (l2:(aB st).names.lookup x2=some .local) (d0:(x0==("__debug__":Str))=false) (d1:(x1==("__debug__":Str))=false) (d2:(x2==("__debug__":Str))=false)
  (bd: ∀(kV doc pm:Value) (an:Option Addr) (cdv ct:Value) (us:List Value),us.length=[x0,x1,x2].length→bindArgs (PySem.W.fnOf nm qual (aV st) (aI st) (aB st) .none kV doc pm an cdv ct) ⟨us,[]⟩=pure ([x0,x1,x2].zip us))
  {cd:ClassData} (hc:PySem.W.clsIn K C=some cd) (hm:nK cd.mro=true) (hd:cd.hasDict=true) (sa:PySem.W.findIn K (.ref C) "__setattr__"=some (some (.builtin "object.__setattr__"))) (n1:PySem.W.findIn K (.ref C) f1=some none) (n2:PySem.W.findIn K (.ref C) f2=some none) :
  aY5 K C fI (PySem.W.fnOf nm qual (aV st) (aI st) (aB st) .none kV doc pm an cdv ct) f1 f2:=
 ⟨⟨_,od,nm,qual,aV st,aB st,kV,doc,pm,an,cdv,ct,osl,x0,x1,x2,p1,p2,p3,p4,p5,p6,p7,p8,by rw[hb],l,rfl,c,S,l0,l1,l2,d0,d1,d2,(bI (st:=st) l c k).binds bd⟩,⟨cd,hc,hm,hd⟩,sa,n1,n2⟩
theorem yK {R C:Addr}{bmB:List Value}{newId:String}{cd:ClassData}(h:PySem.W.excIn K C bmB newId=true∨ ∃fI,vG K C fI bmB newId=true)(hc:PySem.W.clsIn K C=some cd)(hm:cd.mro.contains (.ref R)=true):yI K R C bmB newId:=⟨h,cd,hc,hm⟩
theorem Fn.mkA {x y qual:Str}{st:Stmt}{f:Addr}{fd:FuncData}{N ps:List Str}{k:Nat}{φ:Φ}(F:Fun K y qual st f fd)(m:mg x=some (.ref f))(b:Binds K fd ps [])(S:aU N ps (aB st))
  (len: ∀ds Q,φ ds Q→ds.length=ps.length) {t:US}
  (der: ∀(cdv:Value) (A:Around) (outer:List Env) (s:Shared) (H:Hp) (E:XK),bM k (A.deeper (envOfC qual (aB st) s.heap.objs.size f cdv))→cZ (cL CX0 P w K mg base N qual (aB st) f cdv A outer s H E).nox (aI st) t)
  (rd: ∀ds Q,φ ds Q→t {nx:=fun _=>Q (.pu .non),rt:=Q} (init N ds)):Fn P w K mg base x ps (k+1) φ:=
 ⟨f,fd,aQ4 F S len fun cdv A outer s H E hr=>⟨t,der cdv A outer s H E hr,rd⟩,b,F.kp,m⟩
end
end M
end
section
open PySem L2 M
local macro_rules| `(tactic| walk_at "u")=> `(tactic| simp only[uRev,gRev,uSlT,gSlT,uChain,uPop,bC2,bC4,gAny,aG3,D.isN,gMaxL,uLook,uLR,uIsB,uLookE,uAppZ,b67,vZ,aR7,aQ,bK,cC,uRetN,mK,eG,cN,uOp,uC,aG,zM,aS,aK2,uV,uIx,gIx,iD,jR,aM,aD,aK,i6,gW,yB,mL,lD,eS,M.gSub,dE,aG0,jQ,r6,gI2,nF,gH,isB,B.d,bH1,uOr,aF9,bB6,uOrV,bP6,bO,cM,uPar,b52,uSl,iE,gX,gSl,b56,gMax,gMin,aQ0,bY,wV,bH2,g1,g2,c75,aK4,uIf,aQ6,bH3,wX,bQ1,sH,fN,sG,eJ,a89,aX6,bR6,uZip,bR5,eO,c79,mM,vY,c80,Option.bind_some,Option.bind_none,Option.map_some,Option.map_none,Option.join,
 List.getElem?_cons_zero,List.getElem?_cons_succ,List.set_cons_zero,List.set_cons_succ,List.length_cons,List.length_nil,decide_eq_true_eq,Bool.false_xor,Bool.true_xor,Bool.not_eq_true',decide_eq_false_iff_not,if_true,if_false,reduceCtorEq])
namespace M
def lF:Φ:=fun ds Q=> ∃c k p:Int,ds=[.int c,.int k,.int p]∧0≤k∧k<4294967296∧0<p∧ ∀r:Int,0≤r→r<p→Q (.pu (.int r))
def aA2:US:=(aQ (bK 3 (uOp jQ (uOp dE (uOp eS (uOp eS (uOp eS (aG 0) (uOp dE (uOp dE (uC (.int 7)) (aG 1)) (aG 1))) (uOp dE (uC (.int 13)) (aG 1))) (uC (.int 5))) (uC (.int 48271))) (uC (.int 2147483647)))) (aQ (bK 3 (uOp jQ (uOp dE (aG 3) (aG 3)) (uC (.int 2147483629)))) (cC (uOp jQ (uOp dE (aG 3) (uC (.int 39373))) (aG 2)))))
theorem cF (i:Int){j:Int}(h:0<j):i.fmod j=i%j:=Int.fmod_eq_emod_of_nonneg i (Int.le_of_lt h)
theorem qN (i:Int){j:Int}(h:0<j):i.fdiv j=i/j:=Int.fdiv_eq_ediv_of_nonneg i (Int.le_of_lt h)
theorem cmR {i j:Int}(h1: -18446744073709551616<j)(h2:j<18446744073709551616):b40 i j∨(Sm i∧Sm j):= .inl (.inr ⟨h1,h2⟩)
theorem cmL {i j:Int}(h1: -18446744073709551616<i)(h2:i<18446744073709551616):b40 i j∨(Sm i∧Sm j):= .inl (.inl ⟨h1,h2⟩)
theorem bU1: ∀ds Q,lF ds Q→aA2 {nx:=fun _=>Q (.pu .non),rt:=Q} (init ["c","k","p","f"] ds):=by
 rintro ds Q ⟨c,k,p,rfl,h0,h1,hp,h⟩
 unfold aA2
 show(aQ _ _:US) _ [some (.pu (.int c)),some (.pu (.int k)),some (.pu (.int p)),none]
 walk_at "u"
 rw[cF _ (by decide:(0:Int)<2147483647),cF _ (by decide:(0:Int)<2147483629),cF _ hp]
 refine⟨cmL (by decide) (by decide),cmR (by omega) (by omega),cmL (by decide) (by decide),cmR (by decide) (by decide),by decide,cmR (by omega) (by omega),by decide,cmR (by decide) (by decide),by omega,?_⟩
 exact h _ (Int.emod_nonneg _ (by omega)) (Int.emod_lt_of_pos _ hp)
theorem bJ {ui:UI}{g:UG}{tb:US}{D:UD}{ρ:Ev}(n:Nat)(it:Nat→M.D)(ρ1:Ev)(hui: ∀Q:Nat→(Nat→M.D)→Ev→Prop,Q n it ρ1→ui ρ Q)(Pv:Nat→Ev→Prop)(h0:Pv 0 ρ1)
  (hs: ∀i ρ,i<n→Pv i ρ→g (.pu (it i)) ρ fun ρ2=>tb {D with nx:=Pv (i+1),ct:=Pv (i+1),bk:=D.nx} ρ2) (hd: ∀ρ,Pv n ρ→D.nx ρ):i7 ui g tb D ρ:=hui _ ⟨Pv,h0,hs,hd⟩
theorem bC8 {ws:List Int}{i:Nat}(h:i<ws.length):atI (ws.map D.int) (0+(i:Int))=some (.int ws[i]):=by
 rw[Int.zero_add]
 exact bP (by rw[List.getElem?_map,List.getElem?_eq_getElem h];rfl)
def Below (xs ws:List Int):Prop:=xs.length=ws.length∧ ∀(j:Nat) (x w:Int),xs[j]? =some x→ws[j]? =some w→0≤x∧x<w
theorem cpl {i j:Int}(h1:0≤j)(h2:j≤1000000)(h3:i.natAbs<2^64):c54 i j:=⟨h1,h2,h3⟩
def fT:Φ:=fun ds Q=> ∃(c:Int) (ws:List Int) (p:Int),ds=[.int c,.lst (ws.map .int),.int p]∧ws.length≤1000∧0<p∧(∀w∈ws,0<w∧w<18446744073709551616)∧ ∀xs:List Int,Below xs ws→Q (.ow (xs.map .int))
def aA3:US:=(aQ (bK 3 (uC (.int 0))) (aQ (eG (cN (uOp (nF fun i j=>decide (j≤i)) (aG 0) (uOp r6 (uC (.int 10)) (uC (.int 18))))) (bK 3 (uOp M.gSub (aG 0) (uOp r6 (uC (.int 10)) (uC (.int 18))))) cM) (aQ (bK 4 (i6 aK)) (aQ (i7 (eJ (aD (iD (aS 1)) aK)) (bO 5) (eG (cN (uOp (nF fun i j=>decide (j<i)) (aG 3) (uC (.int 1)))) (aQ (yB 4 (uOp jQ (aG 3) (uIx (aS 1) (aG 5)))) (bK 3 (uOp aG0 (aG 3) (uIx (aS 1) (aG 5))))) (yB 4 (uOp jQ (aM lF (aD (aG 0) (aD (aG 5) (aD (aG 2) aK)))) (uIx (aS 1) (aG 5)))))) (mK 4)))))
theorem aA4 {i:Int}(h1: -18446744073709551616<i)(h2:i<18446744073709551616):Sm i:=by
 unfold Sm
 have h3:i.natAbs<18446744073709551616:=by omega
 exact Nat.lt_of_lt_of_le h3 (by decide +kernel)
theorem aA5 {xs ws:List Int}{x:Int}(h: ∀(j:Nat) (x w:Int),xs[j]? =some x→ws[j]? =some w→0≤x∧x<w)(hl:xs.length<ws.length)(h0:0≤x)(h1:x<ws[xs.length]) :
  ∀(j:Nat) (y w:Int),(xs++[x])[j]? =some y→ws[j]? =some w→0≤y∧y<w:=by
 intro j y w e1 e2
 by_cases hj:j<xs.length
 ·rw[List.getElem?_append_left hj]at e1
  exact h j y w e1 e2
 ·rw[List.getElem?_append_right (by omega)]at e1
  by_cases hj':j=xs.length
  ·subst hj'
   simp at e1
   subst e1
   rw[List.getElem?_eq_getElem hl]at e2
   cases e2
   exact⟨h0,h1⟩
  ·have:j-xs.length≠0:=by omega
   cases e:j-xs.length with
   | zero=>omega
   | succ n=>rw[e]at e1;simp at e1
theorem bU2: ∀ds Q,fT ds Q→aA3 {nx:=fun _=>Q (.pu .non),rt:=Q} (init ["c","w","p","l","f","k"] ds):=by
 rintro ds Q ⟨c,ws,p,rfl,hlen,hp,hw,h⟩
 unfold aA3
 have tail: ∀left:Int,(aQ (bK 4 (i6 aK)) (aQ (i7 (eJ (aD (iD (aS 1)) aK)) (bO 5) (eG (cN (uOp (nF fun i j=>decide (j<i)) (aG 3) (uC (.int 1)))) (aQ (yB 4 (uOp jQ (aG 3) (uIx (aS 1) (aG 5)))) (bK 3 (uOp aG0 (aG 3) (uIx (aS 1) (aG 5))))) (yB 4 (uOp jQ (aM lF (aD (aG 0) (aD (aG 5) (aD (aG 2) aK)))) (uIx (aS 1) (aG 5)))))) (mK 4)):US)
   {nx:=fun _=>Q (.pu .non),rt:=Q} [some (.pu (.int c)),some (.pu (.lst (ws.map .int))),some (.pu (.int p)),some (.pu (.int left)),none,none]:=by
  intro left
  rw[aQ]
  walk_at "u"
  refine⟨by decide,?_⟩
  refine bJ ws.length (fun i=> .int (0+i)) [some (.pu (.int c)),some (.pu (.lst (ws.map .int))),some (.pu (.int p)),some (.pu (.int left)),some (.ow []),none] ?_
   (fun i ρ=> ∃(l:Int) (xs:List Int) (kk:Option B),ρ=[some (.pu (.int c)),some (.pu (.lst (ws.map .int))),some (.pu (.int p)),some (.pu (.int l)),some (.ow (xs.map .int)),kk]∧xs.length=i∧ ∀(j:Nat) (x w:Int),xs[j]? =some x→ws[j]? =some w→0≤x∧x<w)
   ⟨left,[],none,rfl,rfl,fun j x w e=>by simp at e⟩ ?_ ?_
  ·intro Q q
   simp only[eJ]
   walk_at "u"
   rw[List.length_map]
   refine⟨⟨by omega,by omega⟩,?_⟩
   rw[Int.toNat_natCast]
   exact q
  ·rintro i ρ hi ⟨l,xs,kk,rfl,hl,hb⟩
   subst hl
   obtain⟨w0,w1⟩:=hw _ (List.getElem_mem hi)
   walk_at "u"
   refine⟨by decide,?_⟩
   by_cases hc:1<l
   ·rw[if_pos hc]
    simp only[bC8 hi]
    rw[cF _ w0,qN _ w0]
    refine⟨by omega,?_,⟨by omega,aA4 (by omega) w1⟩,_,xs++[l%ws[xs.length]],_,by rw[List.map_append];rfl,by simp,aA5 hb hi (Int.emod_nonneg _ (by omega)) (Int.emod_lt_of_pos _ w0)⟩
    rw[List.length_map]
    exact Nat.lt_of_lt_of_le hi (Nat.le_trans hlen (by decide))
   ·rw[if_neg hc]
    refine⟨c,(0+(xs.length:Int)),p,rfl,by omega,by omega,hp,fun r r0 r1=> ?_⟩
    simp only[bC8 hi]
    rw[cF _ w0]
    refine⟨by omega,?_,l,xs++[r%ws[xs.length]],_,by rw[List.map_append];rfl,by simp,aA5 hb hi (Int.emod_nonneg _ (by omega)) (Int.emod_lt_of_pos _ w0)⟩
    rw[List.length_map]
    exact Nat.lt_of_lt_of_le hi (Nat.le_trans hlen (by decide))
  ·rintro ρ ⟨l,xs,kk,rfl,hl,hb⟩
   walk_at "u"
   exact h xs ⟨hl,hb⟩
 show(aQ _ _:US) _ [some (.pu (.int c)),some (.pu (.lst (ws.map .int))),some (.pu (.int p)),none,none,none]
 refine(show c54 10 18∧(if decide ((10:Int)^(18:Int).toNat≤c)=true then _ else _)from⟨cpl (by decide) (by decide) (by decide),?_⟩)
 split
 ·exact⟨cpl (by decide) (by decide) (by decide),tail _⟩
 ·exact tail _
theorem jT {d:D}{l:List D}:atI (d::l) 0=some d:=bP (j:=0) rfl
theorem aY7 (xs:List Int)(lo hi:Option Int): ∃ys:List Int,cutD (xs.map .int) lo hi=ys.map .int:=by
 unfold cutD
 refine⟨(xs.drop (HT.sIx (xs.map D.int).length 0 lo)).take (HT.sIx (xs.map D.int).length (xs.map D.int).length hi-HT.sIx (xs.map D.int).length 0 lo),?_⟩
 rw[List.map_take,List.map_drop]
theorem bU3 {ys:List Int}{i:Nat}(h:i< (ys.map D.int).length): ∃z,(ys.map D.int).getD i .non= .int z:=by
 rw[List.length_map]at h
 exact⟨ys[i],by rw[List.getD_eq_getElem?_getD,List.getElem?_map,List.getElem?_eq_getElem h];rfl⟩
theorem aY8 (k:Nat)(z:Int):(List.replicate k [D.int z]).flatten=(List.replicate k z).map .int:=by
 induction k with
 | zero=>rfl
 | succ k ih=>rw[List.replicate_succ,List.flatten_cons,ih,List.replicate_succ];rfl
def jU:Φ:=fun ds Q=> ∃(ns:List Int) (k:Int),ds=[.rol (ns.map .int),.int k]∧ns.length≤63∧0≤k∧k<4294967296∧ ∀r:Int,Q (.pu (.int r))
def aR9:US:=(aQ (eG (cN (uOp (gH false) (iD (aS 0)) (uC (.int 0)))) (cC (uOp dE (uC (.int 7919)) (uOp eS (aG 1) (uC (.int 1))))) cM) (aQ (eG (cN (uOp (nF fun i j=>decide (i<j)) (aG 1) (iD (aS 0)))) (cC (uIx (aS 0) (aG 1))) cM) (cC (uOp eS (uIx (aS 0) (uOp jQ (aG 1) (iD (aS 0)))) (uOp dE (uC (.int 104729)) (aG 1))))))
theorem bU4 {ns:List Int}{k:Int}(h0:0≤k)(h1:k<ns.length): ∃z,atI (ns.map D.int) k=some (.int z):=by
 obtain⟨i,rfl⟩: ∃i:Nat,k=(i:Int):=⟨k.toNat,by omega⟩
 have hi:i<ns.length:=by omega
 exact⟨ns[i],bP (by rw[List.getElem?_map,List.getElem?_eq_getElem hi];rfl)⟩
theorem cA2: ∀ds Q,jU ds Q→aR9 {nx:=fun _=>Q (.pu .non),rt:=Q} (init ["s","k"] ds):=by
 rintro ds Q ⟨ns,k,rfl,hl,k0,k1,h⟩
 unfold aR9
 show(aQ _ _:US) _ [some (.pu (.rol (ns.map .int))),some (.pu (.int k))]
 walk_at "u"
 rw[List.length_map]
 split
 ·exact⟨cmL (by decide) (by decide),h _⟩
 ·split
  ·obtain⟨z,hz⟩:=bU4 (ns:=ns) k0 (by omega)
   rw[hz]
   exact h z
  ·refine⟨by omega,?_⟩
   rw[cF _ (by omega)]
   obtain⟨z,hz⟩:=bU4 (ns:=ns) (k:=k%ns.length) (Int.emod_nonneg _ (by omega)) (Int.emod_lt_of_pos _ (by omega))
   rw[hz]
   exact⟨cmL (by decide) (by decide),h _⟩
def jV:Φ:=fun ds Q=> ∃i:Int,ds=[.int i]∧Q (.pu (.bl true))
def aA6:US:=(cC (bB6 (aM bH2 (aD (aG 0) (aD (uC (.ty "int")) aK))) (bP6 (aM bH2 (aD (aG 0) (aD (uC (.ty "bool")) aK))))))
theorem bU5: ∀ds Q,jV ds Q→aA6 {nx:=fun _=>Q (.pu .non),rt:=Q} (init ["f"] ds):=by
 rintro ds Q ⟨i,rfl,h⟩
 unfold aA6
 show(cC _:US) _ [some (.pu (.int i))]
 walk_at "u"
 simpa using h
theorem aS0:bootBuiltins "abs"=some (.builtin "abs"):=by decide +kernel
theorem bt_max:bootBuiltins "max"=some (.builtin "max"):=by decide +kernel
theorem bt_min:bootBuiltins "min"=some (.builtin "min"):=by decide +kernel
theorem kZ:bootBuiltins "isinstance"=some (.builtin "isinstance"):=by decide +kernel
theorem bU6:bootBuiltins "int"=some (.type "int"):=by decide +kernel
theorem cA3:bootBuiltins "bool"=some (.type "bool"):=by decide +kernel
theorem cV:bootBuiltins "tuple"=some (.type "tuple"):=by decide +kernel
theorem aS1:bootBuiltins "list"=some (.type "list"):=by decide +kernel
theorem bI8: ∀ds Q,lF ds Q→ds.length=3:=by rintro ds Q ⟨c,k,p,rfl,_⟩;rfl
theorem bI9: ∀ds Q,fT ds Q→ds.length=3:=by rintro ds Q ⟨c,k,p,rfl,_⟩;rfl
theorem bU7: ∀ds Q,jU ds Q→ds.length=2:=by rintro ds Q ⟨c,k,rfl,_⟩;rfl
theorem bJ0: ∀ds Q,jV ds Q→ds.length=1:=by rintro ds Q ⟨i,rfl,_⟩;rfl
theorem cA4: ∀ds Q,aK6 ds Q→ds.length=1:=by rintro ds Q ⟨i,rfl,_⟩;rfl
theorem fU (t:UE)(D:UD)(ρ:Ev):cC t D ρ=t ρ (fun b _=>D.rt b):=rfl
theorem d8 (φ:Φ)(t:UA)(ρ:Ev)(Q:B→Ev→Prop):aM φ t ρ Q=t ρ fun ds ρ1=>φ ds fun b=>Q b ρ1:=rfl
theorem cJ (t:UE)(u:UA)(ρ:Ev)(Q:List D→Ev→Prop):aD t u ρ Q=t ρ fun x ρ1=>u ρ1 fun xs ρ2=>Q (x.d::xs) ρ2:=rfl
theorem aO (t u:US)(D:UD)(ρ:Ev):aQ t u D ρ=t {D with nx:=u D} ρ:=rfl
theorem lB (i:Nat)(t:UE)(D:UD)(ρ:Ev):bK i t D ρ=t ρ fun b ρ1=>D.nx (ρ1.set i (some b)):=rfl
theorem dA {js:List Nat}{cap:List (Option Nat)}{last t0:Nat}{ui:UI}{te:UE}{ρ:Ev}{Q:B→Ev→Prop}(n:Nat)(it:Nat→D)(ρ1:Ev)(hui: ∀Q:Nat→(Nat→D)→Ev→Prop,Q n it ρ1→ui ρ Q)(hn:n≤1000000)
  (G:Option B→List D→Ev) (x0:Option B) (h0:mM (vY ρ1 js) cap last=G x0 []) (h1: ∀x l b,(G x l).set t0 (some b)=G (some b) l) (h1': ∀x l,t0< (G x l).length) (h2: ∀x l (Q:List D→Prop),Q l→mL (G x l) last Q) (h3: ∀x l l',(G x l).set last (some (.ow l'))=G x l')
  (f:Nat→D) (hte: ∀i l (Q':B→Ev→Prop),i<n→Q' (.pu (f i)) (G (some (.pu (it i))) l)→te (G (some (.pu (it i))) l) Q') (hq:Q (.ow ((List.range n).map f)) (vY ρ1 js)) :
  dQ js cap last ui (bO t0) (fun ρ Q=>Q true ρ) te ρ Q:=by
 refine hui _ ⟨fun i ρ'=> ∃x,ρ'=G x ((List.range i).map f),⟨x0,h0⟩,?_,?_⟩
 ·rintro i ρ' hi ⟨x,rfl⟩
  refine⟨h1' _ _,?_⟩
  rw[h1]
  dsimp only
  rw[if_pos rfl]
  refine hte i _ _ hi (h2 _ _ _ ⟨?_,some (.pu (it i)),?_⟩)
  ·rw[List.length_map,List.length_range]
   exact Nat.lt_of_lt_of_le hi (Nat.le_trans hn (by decide))
  ·rw[h3,List.range_succ,List.map_append]
   rfl
 ·rintro ρ' ⟨x,rfl⟩
  exact h2 _ _ _ hq
def aN (r:List Int):D:= .tup (r.map .int)
def aS2 (t:List (List Int)):D:= .tup (t.map aN)
theorem aS3 (l:List D)(i:Nat)(h:i≤l.length):cutD l none (some (i:Int))=l.take i:=by
 unfold cutD
 rw[HT.sIx_none,HT.sIx_nat,Nat.min_eq_left h]
 simp
theorem xB (l:List D)(i:Nat)(h:i≤l.length):cutD l (some (i:Int)) none=l.drop i:=by
 unfold cutD
 rw[HT.sIx_none,HT.sIx_nat,Nat.min_eq_left h]
 rw[List.take_of_length_le (by rw[List.length_drop];exact Nat.le_refl _)]
def jW:Φ:=fun ds Q=> ∃(t:List (List Int)) (i:Nat),ds=[aS2 t,.int (i:Int)]∧i<t.length∧2≤t.length∧t.length≤1000∧(∀r∈t,1≤r.length)∧Q (.pu (aS2 ((t.eraseIdx i).map List.tail)))
def rE:US:=(cC (aM bY (aD (dQ [] [none,none] 1 (eO (uOp eS (uSl (aS 0) gX (iE (aG 1))) (uSl (aS 0) (iE (uOp eS (aG 1) (uC (.int 1)))) gX))) (bO 0) (fun ρ Q=>Q true ρ) (uSl (aS 0) (iE (uC (.int 1))) gX)) aK)))
theorem aG4: ∀ds Q,jW ds Q→ds.length=2:=by rintro ds Q ⟨a,b,rfl,_⟩;rfl
theorem aS4: ∀ds Q,jW ds Q→rE {nx:=fun _=>Q (.pu .non),rt:=Q} (init ["t","i"] ds):=by
 rintro ds Q ⟨t,i,rfl,hi,h2,h1000,hr,h⟩
 unfold rE
 show(cC _:US) _ [some (.pu (aS2 t)),some (.pu (.int (i:Int)))]
 have hl:(t.map aN).length=t.length:=List.length_map _
 have e1:cutD (t.map aN) none (some (i:Int))=(t.take i).map aN:=by rw[aS3 _ _ (by omega),List.map_take]
 have e2:cutD (t.map aN) (some ((i:Int)+1)) none=(t.drop (i+1)).map aN:=by
  have:=xB (t.map aN) (i+1) (by omega)
  rw[List.map_drop]
  exact_mod_cast this
 have e3:(t.take i).map aN++(t.drop (i+1)).map aN=(t.eraseIdx i).map aN:=by rw[←List.map_append,←List.eraseIdx_eq_take_drop_succ]
 have le:(t.eraseIdx i).length=t.length-1:=List.length_eraseIdx_of_lt hi
 rw[fU,d8,cJ]
 refine dA (t0:=0) ((t.eraseIdx i).map aN).length (fun k=>((t.eraseIdx i).map aN).getD k .non) [some (.pu (aS2 t)),some (.pu (.int (i:Int)))] ?_ (by rw[List.length_map];omega)
  (fun x l=>[x,some (.ow l)]) none rfl (fun _ _ _=>rfl) (fun _ _=>Nat.zero_lt_succ _) (fun _ _ _ q=>q) (fun _ _ _=>rfl) (fun k=>aN (((t.eraseIdx i).getD k []).tail)) ?_ ?_
 ·intro Q' q
  simp only[eO,aS2]
  walk_at "u"
  refine⟨?_,?_,?_,?_⟩
  ·rw[hl,HT.sIx_none,HT.sIx_nat];omega
  ·rw[hl,HT.sIx_none]
   have:HT.sIx t.length 0 (some ((i:Int)+1))=min (i+1) t.length:=by exact_mod_cast HT.sIx_nat t.length 0 (i+1)
   rw[this];omega
  ·rw[e1,e2,List.length_map,List.length_map,List.length_take,List.length_drop]
   exact Nat.le_trans (show _≤2000 by omega) (by decide)
  ·rw[e1,e2,e3]
   exact q
 ·intro k l Q' hk q
  rw[List.length_map]at hk
  have ek:((t.eraseIdx i).map aN).getD k .non=aN ((t.eraseIdx i).getD k []):=by
   rw[List.getD_eq_getElem?_getD,List.getD_eq_getElem?_getD,List.getElem?_map,List.getElem?_eq_getElem hk];rfl
  have hm:1≤((t.eraseIdx i).getD k []).length:=by
   rw[List.getD_eq_getElem?_getD,List.getElem?_eq_getElem hk]
   exact hr _ (List.mem_of_mem_eraseIdx (List.getElem_mem hk))
  rw[ek]at q⊢
  generalize (t.eraseIdx i).getD k []=r at hm q
  simp only[aN]at q⊢
  walk_at "u"
  have lr:(r.map D.int).length=r.length:=List.length_map _
  have ec:cutD (r.map D.int) (some 1) none=r.tail.map D.int:=by
   have:=xB (r.map D.int) 1 (by omega)
   rw[show((1:Nat):Int)=1 from rfl]at this
   rw[this,←List.map_drop,List.drop_one]
  refine⟨?_,by rw[ec];exact q⟩
  rw[lr]
  have:HT.sIx r.length 0 (some 1)=min 1 r.length:=HT.sIx_nat r.length 0 1
  rw[this];omega
 ·have em:(List.range ((t.eraseIdx i).map aN).length).map (fun k=>aN (((t.eraseIdx i).getD k []).tail))=((t.eraseIdx i).map List.tail).map aN:=by
   rw[List.length_map]
   apply List.ext_getElem
   ·simp
   ·intro k h1 h2
    simp at h1
    simp[h1,List.getD_eq_getElem?_getD]
  rw[em]
  exact h
def gI:Nat→List (List Int)→Int
 | 0,_=>0
 | n+1,t=>if t.length=1 then(t.getD 0 []).getD 0 0 else((List.range t.length).map fun i=>(if i%2=0 then 1 else -1)*(t.getD i []).getD 0 0*gI n ((t.eraseIdx i).map List.tail)).sum
structure Sq (n:Nat)(t:List (List Int)):Prop where
 pos:1≤t.length
 le:t.length≤n
 row: ∀r∈t,r.length=t.length
 small: ∀r∈t,∀x∈r,x.natAbs<2^2000
def dJ (n:Nat):Φ:=fun ds Q=> ∃t:List (List Int),ds=[aS2 t]∧Sq n t∧Q (.pu (.int (gI n t)))
def aA7 (dJ:Φ):US:=(aQ (eG (cN (uOp (gH false) (iD (aS 0)) (uC (.int 1)))) (cC (uIx (uV (uIx (aS 0) (uC (.int 0)))) (uC (.int 0)))) cM) (aQ (bK 1 (uC (.int 0))) (aQ (bK 2 (uC (.int 1))) (aQ (i7 (eJ (aD (iD (aS 0)) aK)) (bO 3) (aQ (b52 1 (gI2 fun i j Q=>Q (.pu (.int (i+j)))) (uOp dE (uOp dE (aG 2) (uIx (uV (uIx (aS 0) (aG 3))) (uC (.int 0)))) (aM dJ (aD (aM jW (aD (aG 0) (aD (aG 3) aK))) aK)))) (bK 2 (lD (aG 2))))) (mK 1)))))
theorem uP (n:Nat): ∀ds Q,dJ n ds Q→ds.length=1:=by rintro ds Q ⟨a,rfl,_⟩;rfl
theorem Sq.less {n:Nat}{t:List (List Int)}{i:Nat}(h:Sq (n+1) t)(h2:t.length≠1)(hi:i<t.length):Sq n ((t.eraseIdx i).map List.tail):=by
 have le:(t.eraseIdx i).length=t.length-1:=List.length_eraseIdx_of_lt hi
 have hp:=h.pos
 have hl:=h.le
 refine⟨by rw[List.length_map];omega,by rw[List.length_map];omega,fun r hr=> ?_,fun r hr x hx=> ?_⟩
 ·obtain⟨r',hr',rfl⟩:=List.mem_map.mp hr
  rw[List.length_map,List.length_tail,h.row r' (List.mem_of_mem_eraseIdx hr'),le]
 ·obtain⟨r',hr',rfl⟩:=List.mem_map.mp hr
  exact h.small r' (List.mem_of_mem_eraseIdx hr') x (List.mem_of_mem_tail hx)
theorem uQ (f:Nat→Int)(b:Nat): ∀n:Nat,(∀i,i<n→(f i).natAbs≤b)→(((List.range n).map f).sum).natAbs≤n*b
 | 0,_=>by simp
 | n+1,h=>by
  rw[List.range_succ,List.map_append,List.sum_append]
  have h1:=uQ f b n fun i hi=>h i (Nat.lt_succ_of_lt hi)
  have h2:=h n (Nat.lt_succ_self n)
  have h3:((List.map f [n]).sum)=f n:=by simp
  rw[h3,Nat.succ_mul]
  omega
theorem uS: ∀(n:Nat) (t:List (List Int)),n≤4→Sq n t→(gI n t).natAbs≤2^(2010*n)
 | 0,t,_,h=>by have:=h.pos;have:=h.le;omega
 | n+1,t,hn,h=>by
  have entry: ∀i,i<t.length→((t.getD i []).getD 0 0).natAbs≤2^2000:=fun i hi=>by
   have eg:t.getD i []=t[i]:=by rw[List.getD_eq_getElem?_getD,List.getElem?_eq_getElem hi];rfl
   rw[eg]
   have hr:=h.row _ (List.getElem_mem hi)
   have hp:=h.pos
   have h0:0< (t[i]).length:=by omega
   rw[List.getD_eq_getElem?_getD,List.getElem?_eq_getElem h0]
   exact Nat.le_of_lt (h.small _ (List.getElem_mem hi) _ (List.getElem_mem h0))
  unfold gI
  split
  ·have:=entry 0 (by have:=h.pos;omega)
   exact Nat.le_trans this (Nat.pow_le_pow_right (by decide) (by omega))
  ·rename_i h1
   refine Nat.le_trans (uQ _ (2^2000*2^(2010*n)) _ fun i hi=> ?_) ?_
   ·rw[Int.natAbs_mul,Int.natAbs_mul]
    have e1:(if i%2=0 then(1:Int)else -1).natAbs=1:=by split<;>rfl
    rw[e1,Nat.one_mul]
    exact Nat.mul_le_mul (entry i hi) (uS n _ (by omega) (h.less h1 hi))
   ·have hl:=h.le
    have e:2^(2010*(n+1))=2^10*(2^2000*2^(2010*n)):=by
     rw[←Nat.pow_add,←Nat.pow_add];congr 1;omega
    rw[e]
    exact Nat.mul_le_mul_right _ (by omega)
theorem Sm.pow {i:Int}{k:Nat}(h:i.natAbs≤2^k)(hk:k<9000):Sm i:=Nat.lt_of_le_of_lt h (Nat.pow_lt_pow_right (by decide) hk)
theorem a70 {t:List (List Int)}{i:Nat}(h:i<t.length):atI (t.map aN) (0+(i:Int))=some (aN (t.getD i [])):=by
 rw[Int.zero_add]
 refine bP ?_
 rw[List.getElem?_map,List.getElem?_eq_getElem h,List.getD_eq_getElem?_getD,List.getElem?_eq_getElem h];rfl
theorem sY {r:List Int}(h:0<r.length):atI (r.map D.int) 0=some (.int (r.getD 0 0)):=by
 refine bP (j:=0) ?_
 rw[List.getElem?_map,List.getElem?_eq_getElem h,List.getD_eq_getElem?_getD,List.getElem?_eq_getElem h];rfl
theorem xC (n:Nat)(hn:n<4): ∀ds Q,dJ (n+1) ds Q→aA7 (dJ n) {nx:=fun _=>Q (.pu .non),rt:=Q} (init ["t","o","s","i"] ds):=by
 rintro ds Q ⟨t,rfl,sq,h⟩
 have hp:=sq.pos
 have hle:=sq.le
 have lt:(t.map aN).length=t.length:=List.length_map _
 have lrow: ∀i,i<t.length→0< (t.getD i []).length:=fun i hi=>by
  rw[List.getD_eq_getElem?_getD,List.getElem?_eq_getElem hi]
  have:=sq.row _ (List.getElem_mem hi)
  show 0< (t[i]).length
  omega
 unfold aA7
 show(aQ _ _:US) _ [some (.pu (.tup (t.map aN))),none,none,none]
 walk_at "u"
 rw[lt]
 split
 ·rename_i h1
  have h1':t.length=1:=by omega
  have:=a70 (t:=t) (i:=0) (by omega)
  rw[show(0:Int)+((0:Nat):Int)=0 from rfl]at this
  rw[this]
  simp only[aN]
  rw[sY (lrow 0 (by omega))]
  unfold gI at h
  rw[if_pos h1']at h
  exact h
 ·rename_i h1
  have h1':t.length≠1:=by omega
  unfold gI at h
  rw[if_neg h1']at h
  refine bJ t.length (fun i=> .int (0+i)) [some (.pu (.tup (t.map aN))),some (.pu (.int 0)),some (.pu (.int 1)),none] ?_ (fun i ρ=> ∃x,ρ=[some (.pu (.tup (t.map aN))),some (.pu (.int ((List.range i).map fun i=>(if i%2=0 then 1 else -1)*(t.getD i []).getD 0 0*gI n ((t.eraseIdx i).map List.tail)).sum)),some (.pu (.int (if i%2=0 then 1 else -1))),x]) ?_ ?_ ?_
  ·intro Q' q
   simp only[eJ]
   walk_at "u"
   rw[lt]
   refine⟨⟨by omega,by omega⟩,?_⟩
   rw[Int.toNat_natCast]
   exact q
  ·exact⟨none,rfl⟩
  ·rintro i ρ hi ⟨x,rfl⟩
   walk_at "u"
   refine⟨by decide,?_⟩
   rw[a70 hi]
   simp only[aN]
   rw[sY (lrow i hi)]
   have sg:Sm (if i%2=0 then(1:Int)else -1):=by split<;>exact aA4 (by decide) (by decide)
   have eg:t.getD i []=t[i]:=by rw[List.getD_eq_getElem?_getD,List.getElem?_eq_getElem hi];rfl
   have en:((t.getD i []).getD 0 0).natAbs≤2^2000:=by
    have h0:=lrow i hi
    rw[eg]at h0⊢
    rw[List.getD_eq_getElem?_getD,List.getElem?_eq_getElem h0]
    exact Nat.le_of_lt (sq.small _ (List.getElem_mem hi) _ (List.getElem_mem h0))
   have se:Sm ((t.getD i []).getD 0 0):=Sm.pow en (by decide)
   refine⟨.inr ⟨sg,se⟩,t,i,by rw[Int.zero_add];rfl,hi,by omega,by omega,fun r hr=>by rw[sq.row r hr];exact hp,?_⟩
   refine⟨_,rfl,sq.less h1' hi,?_⟩
   have sd:Sm (gI n ((t.eraseIdx i).map List.tail)):=Sm.pow (uS n _ (by omega) (sq.less h1' hi)) (by omega)
   have sp:Sm ((if i%2=0 then(1:Int)else -1)*(t.getD i []).getD 0 0):=by
    refine Sm.pow (k:=2000) ?_ (by decide)
    rw[Int.natAbs_mul]
    have e1:(if i%2=0 then(1:Int)else -1).natAbs=1:=by split<;>rfl
    rw[e1,Nat.one_mul]
    exact en
   walk_at "u"
   refine⟨.inr ⟨sp,sd⟩,some (.pu (.int (0+(i:Int)))),?_⟩
   have e2: -(if i%2=0 then(1:Int)else -1)=(if(i+1)%2=0 then 1 else -1):=by
    by_cases q:i%2=0
    ·rw[if_pos q,if_neg (by omega)]
    ·rw[if_neg q,if_pos (by omega)];rfl
   rw[e2,List.range_succ,List.map_append,List.sum_append]
   simp
  ·rintro ρ ⟨x,rfl⟩
   walk_at "u"
   exact h
def iG (p:List Int)(k:Nat)(sums:List Int):Int:=
 -(((List.range (min (k-1) (p.length-1))).map fun i=>p.getD (p.length-1-(i+1)) 0*sums.getD (k-(i+1)) 0).sum+(if k≤p.length-1 then(k:Int)*p.getD (p.length-1-k) 0 else 0))
def cR (p:List Int):Nat→List Int
 | 0=>[((p.length-1:Nat):Int)]
 | k+1=>cR p k++[iG p (k+1) (cR p k)]
theorem nL (p:List Int): ∀k,(cR p k).length=k+1
 | 0=>rfl
 | k+1=>by unfold cR;rw[List.length_append,nL p k];rfl
structure a71 (p:List Int):Prop where
 lo:3≤p.length
 hi:p.length≤5
 small: ∀x∈p,x.natAbs≤499
theorem dL {l:List Int}{b:Nat}(h: ∀x∈l,x.natAbs≤b)(i:Nat):(l.getD i 0).natAbs≤b:=by
 rw[List.getD_eq_getElem?_getD]
 cases e:l[i]? with
 | none=>exact Nat.zero_le _
 | some x=>exact h x (List.mem_of_getElem? e)
theorem rF {p:List Int}(hp:a71 p): ∀k,k≤6→ ∀x∈cR p k,x.natAbs≤2^(15*k+3)
 | 0,_,x,hx=>by
  have:=hp.hi
  have e:x=((p.length-1:Nat):Int):=by simpa[cR]using hx
  rw[e,Int.natAbs_natCast]
  have:(2:Nat)^(15*0+3)=8:=rfl
  omega
 | k+1,hk,x,hx=>by
  have ih:=rF hp k (by omega)
  have ep:(2:Nat)^(15*(k+1)+3)=32768*2^(15*k+3):=by
   rw[show 15*(k+1)+3=15+(15*k+3)by omega,Nat.pow_add]
  have hb:8≤2^(15*k+3):=by
   rw[Nat.pow_add]
   have:1≤2^(15*k):=Nat.one_le_two_pow
   omega
  unfold cR at hx
  rcases List.mem_append.mp hx with hx|hx
  ·have:=ih x hx
   omega
  ·have e:x=iG p (k+1) (cR p k):=by simpa using hx
   rw[e]
   unfold iG
   rw[Int.natAbs_neg]
   have hl:=hp.hi
   have s1:=uQ (fun i=>p.getD (p.length-1-(i+1)) 0*(cR p k).getD (k+1-(i+1)) 0) (499*2^(15*k+3)) (min (k+1-1) (p.length-1)) fun i _=>by
    rw[Int.natAbs_mul]
    exact Nat.mul_le_mul (dL hp.small _) (dL ih _)
   have s2:(if k+1≤p.length-1 then((k+1:Nat):Int)*p.getD (p.length-1-(k+1)) 0 else 0).natAbs≤4*499:=by
    split
    ·rw[Int.natAbs_mul,Int.natAbs_natCast]
     exact Nat.mul_le_mul (by omega) (dL hp.small _)
    ·exact Nat.zero_le _
   have s3:min (k+1-1) (p.length-1)*(499*2^(15*k+3))≤4*(499*2^(15*k+3)):=Nat.mul_le_mul_right _ (by omega)
   have s4:=Int.natAbs_add_le (((List.range (min (k+1-1) (p.length-1))).map fun i=>p.getD (p.length-1-(i+1)) 0*(cR p k).getD (k+1-(i+1)) 0).sum) (if k+1≤p.length-1 then((k+1:Nat):Int)*p.getD (p.length-1-(k+1)) 0 else 0)
   omega
def iH:Φ:=fun ds Q=> ∃(p:List Int) (m:Nat),ds=[aN p,.int (m:Int)]∧a71 p∧1≤m∧m≤7∧Q (.ow ((cR p (m-1)).map .int))
def nM:US:=(aQ (bK 2 (uOp M.gSub (iD (aS 0)) (uC (.int 1)))) (aQ (bK 3 (i6 (aD (aG 2) aK))) (aQ (i7 (a89 (aD (uC (.int 1)) (aD (aG 1) aK))) (bO 4) (aQ (bK 5 (aM bH3 (aD (dQ [2,4] [none,some 0,some 2,some 3,some 4,none] 5 (a89 (aD (uC (.int 1)) (aD (uOp eS (aM gMin (aD (uOp M.gSub (aG 4) (uC (.int 1))) (aD (aG 2) aK))) (uC (.int 1))) aK))) (bO 0) (fun ρ Q=>Q true ρ) (uOp dE (uIx (aS 1) (uOp M.gSub (aG 2) (aG 0))) (uIx (aS 3) (uOp M.gSub (aG 4) (aG 0))))) aK))) (aQ (eG (cN (uOp (nF fun i j=>decide (i≤j)) (aG 4) (aG 2))) (b52 5 (gI2 fun i j Q=>Q (.pu (.int (i+j)))) (uOp dE (aG 4) (uIx (aS 0) (uOp M.gSub (aG 2) (aG 4))))) cM) (yB 3 (lD (aG 5)))))) (mK 3))))
theorem a07: ∀ds Q,iH ds Q→ds.length=2:=by rintro ds Q ⟨a,b,rfl,_⟩;rfl
theorem sZ {ns:List Int}{k:Nat}(h:k<ns.length):atI (ns.map D.int) (k:Int)=some (.int (ns.getD k 0)):=by
 refine bP ?_
 rw[List.getElem?_map,List.getElem?_eq_getElem h,List.getD_eq_getElem?_getD,List.getElem?_eq_getElem h];rfl
theorem aA8: ∀ds Q,iH ds Q→nM {nx:=fun _=>Q (.pu .non),rt:=Q} (init ["p","m","n","s","k","t"] ds):=by
 rintro ds Q ⟨p,m,rfl,hp,m1,m7,h⟩
 have hlo:=hp.lo
 have hhi:=hp.hi
 have lp:(p.map D.int).length=p.length:=List.length_map _
 unfold nM
 show(aQ _ _:US) _ [some (.pu (.tup (p.map .int))),some (.pu (.int (m:Int))),none,none,none,none]
 rw[aO,lB]
 walk_at "u"
 rw[lp]
 refine⟨by decide,?_⟩
 have en:(p.length:Int)-1=((p.length-1:Nat):Int):=by omega
 rw[en]
 refine bJ (m-1) (fun i=> .int (1+i)) [some (.pu (.tup (p.map .int))),some (.pu (.int (m:Int))),some (.pu (.int ((p.length-1:Nat):Int))),some (.ow ((cR p 0).map .int)),none,none] ?_
  (fun i ρ=> ∃x4 x5,ρ=[some (.pu (.tup (p.map .int))),some (.pu (.int (m:Int))),some (.pu (.int ((p.length-1:Nat):Int))),some (.ow ((cR p i).map .int)),x4,x5]) ⟨none,none,rfl⟩ ?_ ?_
 ·intro Q' q
  simp only[a89]
  walk_at "u"
  refine⟨by omega,?_⟩
  rw[show((m:Int)-1).toNat=m-1 by omega]
  exact q
 ·rintro i ρ hi ⟨x4,x5,rfl⟩
  have bn:=rF hp i (by omega)
  refine⟨by show 4<6;decide,?_⟩
  dsimp only[List.set_cons_succ,List.set_cons_zero]
  rw[aO,lB,d8,cJ]
  refine dA (t0:=0) (min i (p.length-1)) (fun j=> .int (1+j)) [some (.pu (.tup (p.map .int))),some (.pu (.int (m:Int))),some (.pu (.int ((p.length-1:Nat):Int))),some (.ow ((cR p i).map .int)),some (.pu (.int (1+(i:Int)))),x5] ?_ (by omega)
   (fun x l=>[x,some (.pu (.tup (p.map .int))),some (.pu (.int ((p.length-1:Nat):Int))),some (.bo ((cR p i).map .int)),some (.pu (.int (1+(i:Int)))),some (.ow l)]) none rfl (fun _ _ _=>rfl) (fun _ _=>Nat.zero_lt_succ _) (fun _ _ _ q=>q) (fun _ _ _=>rfl)
   (fun j=> .int (p.getD (p.length-1-(j+1)) 0*(cR p i).getD (i+1-(j+1)) 0)) ?_ ?_
  ·intro Q' q
   simp only[a89]
   walk_at "u"
   have e:(if((p.length-1:Nat):Int)<1+(i:Int)-1 then((p.length-1:Nat):Int)else 1+(i:Int)-1)=((min i (p.length-1):Nat):Int):=by split<;>omega
   rw[e]
   refine⟨by omega,?_⟩
   rw[show(((min i (p.length-1):Nat):Int)+1-1).toNat=min i (p.length-1)by omega]
   exact q
  ·intro j l Q' hj q
   have hj1:j<i:=by omega
   have hj2:j<p.length-1:=by omega
   walk_at "u"
   rw[show((p.length-1:Nat):Int)-(1+(j:Int))=((p.length-1-(j+1):Nat):Int)by omega,show 1+(i:Int)-(1+(j:Int))=((i+1-(j+1):Nat):Int)by omega]
   rw[sZ (by omega),sZ (by rw[nL];omega)]
   exact⟨.inr ⟨Sm.pow (k:=9) (Nat.le_trans (dL hp.small _) (by decide)) (by decide),Sm.pow (dL bn _) (by omega)⟩,q⟩
  ·have es:((List.range (min i (p.length-1))).map fun j=>D.int (p.getD (p.length-1-(j+1)) 0*(cR p i).getD (i+1-(j+1)) 0))=((List.range (min i (p.length-1))).map fun j=>p.getD (p.length-1-(j+1)) 0*(cR p i).getD (i+1-(j+1)) 0).map D.int:=by
    rw[List.map_map];rfl
   rw[es]
   generalize hT:((List.range (min i (p.length-1))).map fun j=>p.getD (p.length-1-(j+1)) 0*(cR p i).getD (i+1-(j+1)) 0)=T
   walk_at "u"
   rw[yE]
   dsimp only
   have last: ∀z:Int,z= -(iG p (i+1) (cR p i))→(cR p i).map D.int++[D.int (-z)]=(cR p (i+1)).map D.int:=fun z hz=>by
    rw[hz]
    conv=>rhs;unfold cR
    rw[List.map_append]
    simp
   have lz:((cR p i).map D.int).length<sizeLine:=by
    rw[List.length_map,nL]
    exact Nat.lt_of_lt_of_le (show _<100 by omega) (by decide)
   by_cases hk:i+1≤p.length-1
   ·rw[if_pos (by omega)]
    rw[show((p.length-1:Nat):Int)-(1+(i:Int))=((p.length-1-(i+1):Nat):Int)by omega,sZ (by omega)]
    have hz1:T.sum+(1+(i:Int))*p.getD (p.length-1-(i+1)) 0= -(iG p (i+1) (cR p i)):=by
     unfold iG
     rw[Int.neg_neg,if_pos hk,←hT]
     rw[show i+1-1=i from rfl,show((i+1:Nat):Int)=1+(i:Int)by omega]
    dsimp only
    rw[last _ hz1]
    exact⟨.inr ⟨aA4 (by omega) (by omega),Sm.pow (k:=9) (Nat.le_trans (dL hp.small _) (by decide)) (by decide)⟩,lz,_,_,rfl⟩
   ·rw[if_neg (by omega)]
    have hz1:T.sum= -(iG p (i+1) (cR p i)):=by
     unfold iG
     rw[Int.neg_neg,if_neg hk,←hT,Int.add_zero]
     rfl
    rw[last _ hz1]
    exact⟨lz,_,_,rfl⟩
 ·rintro ρ ⟨x4,x5,rfl⟩
  walk_at "u"
  exact h
theorem b72: ∀ds Q,¬dJ 0 ds Q:=by
 rintro ds Q ⟨t,rfl,sq,_⟩
 have:=sq.pos
 have:=sq.le
 omega
theorem bU8 (t:UE)(D:UD)(ρ:Ev):wX t D ρ=t ρ (fun _ ρ1=>D.nx ρ1):=rfl
structure cW (p:List Int):Prop where
 ok:a71 p
 one: ∃q,p=q++[1]
def fV:Φ:=fun ds Q=> ∃p:List Int,ds=[aN p]∧cW p∧Q (.pu (.bl true))
def jX:US:=(aQ (eG (uOr (cN (uOp (nF fun i j=>decide (i<j)) (iD (aS 0)) (uC (.int 3)))) (uOr (cN (uOp (nF fun i j=>decide (j<i)) (iD (aS 0)) (uC (.int 5)))) (cN (uOp (gH true) (uIx (aS 0) (lD (uC (.int 1)))) (uC (.int 1)))))) (cC (uC (.bl false))) cM) (cC (aM aQ6 (aD (dQ [] [none,none] 1 (eO (aG 0)) (bO 0) (fun ρ Q=>Q true ρ) (uOp (nF fun i j=>decide (i≤j)) (aM b56 (aD (aG 0) aK)) (uC (.int 499)))) aK))))
theorem w6: ∀ds Q,fV ds Q→ds.length=1:=by rintro ds Q ⟨a,rfl,_⟩;rfl
theorem xD: ∀ds Q,fV ds Q→jX {nx:=fun _=>Q (.pu .non),rt:=Q} (init ["r"] ds):=by
 rintro ds Q ⟨p,rfl,hp,h⟩
 have hlo:=hp.ok.lo
 have hhi:=hp.ok.hi
 have lp:(p.map D.int).length=p.length:=List.length_map _
 unfold jX
 show(aQ _ _:US) _ [some (.pu (.tup (p.map .int)))]
 have fin:(cC (aM aQ6 (aD (dQ [] [none,none] 1 (eO (aG 0)) (bO 0) (fun ρ Q=>Q true ρ) (uOp (nF fun i j=>decide (i≤j)) (aM b56 (aD (aG 0) aK)) (uC (.int 499)))) aK)):US) {nx:=fun _=>Q (.pu .non),rt:=Q} [some (.pu (.tup (p.map .int)))]:=by
  rw[fU,d8,cJ]
  refine dA (t0:=0) (p.map D.int).length (fun k=>(p.map D.int).getD k .non) [some (.pu (.tup (p.map .int)))] ?_ (by omega) (fun x l=>[x,some (.ow l)]) none rfl (fun _ _ _=>rfl) (fun _ _=>Nat.zero_lt_succ _) (fun _ _ _ q=>q) (fun _ _ _=>rfl) (fun _=> .bl true) ?_ ?_
  ·intro Q' q
   simp only[eO]
   walk_at "u"
   exact q
  ·intro k l Q' hk q
   have hk':k<p.length:=by omega
   have ek:(p.map D.int).getD k .non= .int p[k]:=by
    rw[List.getD_eq_getElem?_getD,List.getElem?_map,List.getElem?_eq_getElem hk'];rfl
   rw[ek]at q⊢
   walk_at "u"
   have:=hp.ok.small _ (List.getElem_mem hk')
   rw[decide_eq_true (show(if p[k]<0 then -p[k]else p[k])≤499 by split<;>omega)]
   exact q
  ·have e:((List.range (p.map D.int).length).map fun _=>D.bl true)=(List.replicate p.length true).map D.bl:=by
    rw[List.map_const',List.length_range,lp,List.map_replicate]
   rw[e]
   simp only[aQ6,g1,B.d,aK,rB]
   rw[show(List.replicate p.length true).all id=true by simp]
   exact h
 obtain⟨q,hq⟩:=hp.one
 have el:atI (p.map D.int) (-1)=some (.int 1):=by rw[hq,List.map_append];exact bP1 _ _
 rw[aO]
 show(eG _ _ _:US) _ _
 simp only[eG,uOr,cN,uOp,iD,aS,aK2,uC,uIx,lD,gIx,jR,nF,gH,gI2,isB,B.d,List.getElem?_cons_zero,el,lp]
 rw[if_neg (by simp;omega),if_neg (by simp;omega),if_neg (by simp)]
 exact fin
def bU:Φ:=fun ds Q=> ∃p:List Int,ds=[aN p]∧cW p∧Q (.pu .non)
def iW:US:=(eG (aF9 (cN (aM fV (aD (aG 0) aK)))) (fun _ _=>False) cM)
theorem t6: ∀ds Q,bU ds Q→ds.length=1:=by rintro ds Q ⟨a,rfl,_⟩;rfl
theorem v6: ∀ds Q,bU ds Q→iW {nx:=fun _=>Q (.pu .non),rt:=Q} (init ["r"] ds):=by
 rintro ds Q ⟨p,rfl,hp,h⟩
 unfold iW
 show(eG _ _ _:US) _ [some (.pu (aN p))]
 walk_at "u"
 refine⟨p,rfl,hp,?_⟩
 simpa using h
def gM (p:List Int):List (List Int):=(List.range (p.length-1)).map fun i=>((cR p (2*(p.length-1)-2)).drop i).take (p.length-1)
def jY:Φ:=fun ds Q=> ∃p:List Int,ds=[aN p]∧cW p∧Q (.pu (.int (gI 4 (gM p))))
def rG:US:=(aQ (wX (aM bU (aD (aG 0) aK))) (aQ (bK 1 (uOp M.gSub (iD (aS 0)) (uC (.int 1)))) (aQ (bK 2 (aM iH (aD (aG 0) (aD (uOp M.gSub (uOp dE (uC (.int 2)) (aG 1)) (uC (.int 1))) aK)))) (cC (aM (dJ 4) (aD (aM bY (aD (dQ [1] [none,some 2,some 1,none] 3 (eJ (aD (aG 1) aK)) (bO 0) (fun ρ Q=>Q true ρ) (aM bY (aD (uSl (aS 1) (iE (aG 0)) (iE (uOp eS (aG 0) (aG 2)))) aK))) aK)) aK))))))
theorem aG5: ∀ds Q,jY ds Q→ds.length=1:=by rintro ds Q ⟨a,rfl,_⟩;rfl
theorem bJ1 {p:List Int}(hp:a71 p):Sq 4 (gM p):=by
 have hlo:=hp.lo
 have hhi:=hp.hi
 have bn:=rF hp (2*(p.length-1)-2) (by omega)
 have nl:=nL p (2*(p.length-1)-2)
 have hl:(gM p).length=p.length-1:=by unfold gM;simp
 refine⟨by omega,by omega,fun r hr=> ?_,fun r hr x hx=> ?_⟩
 ·unfold gM at hr
  obtain⟨i,hi,rfl⟩:=List.mem_map.mp hr
  have:=List.mem_range.mp hi
  rw[hl,List.length_take,List.length_drop,nl]
  omega
 ·unfold gM at hr
  obtain⟨i,hi,rfl⟩:=List.mem_map.mp hr
  refine Nat.lt_of_le_of_lt (bn x (List.mem_of_mem_drop (List.mem_of_mem_take hx))) ?_
  exact Nat.pow_lt_pow_right (by decide) (by omega)
theorem cA5 (l:List D)(i n:Nat)(h:i+n≤l.length):cutD l (some (i:Int)) (some ((i+n:Nat):Int))=(l.drop i).take n:=by
 unfold cutD
 rw[HT.sIx_nat,HT.sIx_nat,Nat.min_eq_left (show i≤l.length by omega),Nat.min_eq_left h]
 congr 1
 omega
theorem aS5: ∀ds Q,jY ds Q→rG {nx:=fun _=>Q (.pu .non),rt:=Q} (init ["p","n","s"] ds):=by
 rintro ds Q ⟨p,rfl,hp,h⟩
 have hlo:=hp.ok.lo
 have hhi:=hp.ok.hi
 have lp:(p.map D.int).length=p.length:=List.length_map _
 have en:(p.length:Int)-1=((p.length-1:Nat):Int):=by omega
 have nl:=nL p (2*(p.length-1)-2)
 have fin:(cC (aM (dJ 4) (aD (aM bY (aD (dQ [1] [none,some 2,some 1,none] 3 (eJ (aD (aG 1) aK)) (bO 0) (fun ρ Q=>Q true ρ) (aM bY (aD (uSl (aS 1) (iE (aG 0)) (iE (uOp eS (aG 0) (aG 2)))) aK))) aK)) aK)):US) {nx:=fun _=>Q (.pu .non),rt:=Q}
   [some (.pu (.tup (p.map .int))),some (.pu (.int ((p.length-1:Nat):Int))),some (.ow ((cR p (2*(p.length-1)-2)).map .int))]:=by
  rw[fU,d8,cJ,d8,cJ]
  refine dA (t0:=0) (p.length-1) (fun i=> .int (0+i)) [some (.pu (.tup (p.map .int))),some (.pu (.int ((p.length-1:Nat):Int))),some (.ow ((cR p (2*(p.length-1)-2)).map .int))] ?_ (by omega)
   (fun x l=>[x,some (.bo ((cR p (2*(p.length-1)-2)).map .int)),some (.pu (.int ((p.length-1:Nat):Int))),some (.ow l)]) none rfl (fun _ _ _=>rfl) (fun _ _=>Nat.zero_lt_succ _) (fun _ _ _ q=>q) (fun _ _ _=>rfl)
   (fun i=>aN (((cR p (2*(p.length-1)-2)).drop i).take (p.length-1))) ?_ ?_
  ·intro Q' q
   simp only[eJ]
   walk_at "u"
   refine⟨by omega,?_⟩
   rw[Int.toNat_natCast]
   exact q
  ·intro i l Q' hi q
   walk_at "u"
   have e:cutD ((cR p (2*(p.length-1)-2)).map D.int) (some (0+(i:Int))) (some (0+(i:Int)+((p.length-1:Nat):Int)))=(((cR p (2*(p.length-1)-2)).drop i).take (p.length-1)).map D.int:=by
    rw[Int.zero_add,show(i:Int)+((p.length-1:Nat):Int)=((i+(p.length-1):Nat):Int)by omega,cA5 _ _ _ (by rw[List.length_map,nl];omega),List.map_take,List.map_drop]
   rw[e]
   exact q
  ·simp only[bY,g1,B.d,aK,jR]
   refine⟨gM p,?_,bJ1 hp.ok,h⟩
   unfold aS2 gM
   rw[List.map_map]
   rfl
 unfold rG
 show(aQ _ _:US) _ [some (.pu (.tup (p.map .int))),none,none]
 rw[aO,bU8,d8,cJ]
 simp only[aG,zM,aK,B.d,List.getElem?_cons_zero]
 refine⟨p,rfl,hp,?_⟩
 rw[aO,lB]
 simp only[uOp,iD,aS,aK2,uC,jR,M.gSub,gI2,B.d,List.getElem?_cons_zero,lp,List.set_cons_succ,List.set_cons_zero,en]
 rw[aO,lB,d8]
 simp only[aD,aK,uOp,aG,zM,uC,M.gSub,dE,gI2,B.d,List.getElem?_cons_zero,List.getElem?_cons_succ]
 refine⟨cmL (by decide) (by decide),?_⟩
 refine⟨p,2*(p.length-1)-1,?_,hp.ok,by omega,by omega,?_⟩
 ·rw[show(2:Int)*((p.length-1:Nat):Int)-1=((2*(p.length-1)-1:Nat):Int)by omega];rfl
 ·rw[show 2*(p.length-1)-1-1=2*(p.length-1)-2 by omega]
  exact fin
def one4 (e d c b:Int):Int:=12*e-3*b*d+c*c
def two4 (e d c b:Int):Int:=72*c*e+9*b*c*d-27*d*d-27*b*b*e-2*c*c*c
def cA6:List Int→Int
 | [c0,c1,_]=>c1*c1-4*c0
 | [d,c,b,_]=>b*b*c*c-4*c*c*c-4*b*b*b*d-27*d*d+18*b*c*d
 | [e,d,c,b,_]=>(4*one4 e d c b*one4 e d c b*one4 e d c b-two4 e d c b*two4 e d c b).fdiv 27
 | _=>0
theorem cW.cases {p:List Int}(h:cW p):(∃a b:Int,p=[a,b,1]∧a.natAbs≤499∧b.natAbs≤499)∨(∃a b c:Int,p=[a,b,c,1]∧a.natAbs≤499∧b.natAbs≤499∧c.natAbs≤499)∨
  ∃a b c d:Int,p=[a,b,c,d,1]∧a.natAbs≤499∧b.natAbs≤499∧c.natAbs≤499∧d.natAbs≤499:=by
 obtain⟨q,rfl⟩:=h.one
 have lo:=h.ok.lo
 have hi:=h.ok.hi
 have sm: ∀x∈q,x.natAbs≤499:=fun x hx=>h.ok.small x (List.mem_append_left _ hx)
 rw[List.length_append,List.length_singleton]at lo hi
 match q,lo,hi,sm with
 | [a,b],_,_,sm=>exact .inl ⟨a,b,rfl,sm a (by simp),sm b (by simp)⟩
 | [a,b,c],_,_,sm=>exact .inr (.inl ⟨a,b,c,rfl,sm a (by simp),sm b (by simp),sm c (by simp)⟩)
 | [a,b,c,d],_,_,sm=>exact .inr (.inr ⟨a,b,c,d,rfl,sm a (by simp),sm b (by simp),sm c (by simp),sm d (by simp)⟩)
 | [],lo,_,_=>simp at lo
 | [_],lo,_,_=>simp at lo
 | _::_::_::_::_::_,_,hi,_=>simp at hi
theorem cW.of {q:List Int}(h1:2≤q.length)(h2:q.length≤4)(h3: ∀x∈q,x.natAbs≤499):cW (q++[1]):=by
 refine⟨⟨by simp;omega,by simp;omega,fun x hx=> ?_⟩,q,rfl⟩
 rcases List.mem_append.mp hx with hx|hx
 ·exact h3 x hx
 ·have:x=1:=by simpa using hx
  subst this;decide
def rts3 (a b c:Int):List Int:=[-(a*b*c),a*b+a*c+b*c,-a-b-c]
def sqIn (rs:List Int)(i:Nat)(t:Int):Nat→Int
 | 0=>t
 | j+1=>sqIn rs i t j*(rs.getD i 0-rs.getD j 0)*(rs.getD i 0-rs.getD j 0)
def sqK (rs:List Int):Nat→Int
 | 0=>1
 | i+1=>sqIn rs i (sqK rs i) i
def okR (q rs:List Int):Bool:=(q.all fun x=>decide (x.natAbs≤499))&&decide (cA6 (q++[1])=sqK rs rs.length)
def sh3 (a b c s:Int):List Int:=[a+s*b+s*s*c+s*s*s,b+2*s*c+3*s*s,c+3*s]
def sh4 (a b c d s:Int):List Int:=[a+s*b+s*s*c+s*s*s*d+s*s*s*s,b+2*s*c+3*s*s*d+4*s*s*s,c+3*s*d+6*s*s,d+4*s]
def cA7 (row:List Int)(r:Int):Nat→List Int
 | 0=>0::row
 | k+1=>(cA7 row r k).set k ((cA7 row r k).getD k 0-r*row.getD k 0)
def cF7 (rs:List Int):List Int:=rs.foldl (fun row r=>cA7 row r row.length) [1]
theorem fr3 (a b c:Int):cF7 [a,b,c]=rts3 a b c++[1]:=by
 simp[cF7,cA7,rts3]
 grind
def yL (row:List Int)(s:Int):Nat→List Int
 | 0=>row
 | k+1=>(yL row s k).set (row.length-2-k) ((yL row s k).getD (row.length-2-k) 0+s*(yL row s k).getD (row.length-1-k) 0)
def shK (p:List Int)(s:Int):Nat→List Int
 | 0=>p
 | low+1=>yL (shK p s low) s (p.length-1-low)
theorem she3 (a b c s:Int):shK [a,b,c,1] s 3=sh3 a b c s++[1]:=by
 simp[shK,yL,sh3]
 grind
theorem she4 (a b c d s:Int):shK [a,b,c,d,1] s 4=sh4 a b c d s++[1]:=by
 simp[shK,yL,sh4]
 grind
def rwF (n:Nat)(f:Nat→Int):List Int:=(List.range n).map f
theorem rH (n:Nat)(f:Nat→Int):(rwF n f).length=n:=by simp[rwF]
theorem bC9 {n i:Nat}{f:Nat→Int}(h:i<n):(rwF n f)[i]? =some (f i):=by simp[rwF,h]
theorem bS (n:Nat)(f:Nat→Int):((rwF n f).map D.int).length=n:=by simp[rwF]
theorem qO {n i:Nat}{f:Nat→Int}(h:i<n):((rwF n f).map D.int)[i]? =some (.int (f i)):=by simp[rwF,h]
theorem t7 {n i:Nat}{f:Nat→Int}(h:i<n):((rwF n f).map D.int).getD i .non= .int (f i):=by rw[List.getD_eq_getElem?_getD,qO h];rfl
theorem jZ {n i:Nat}{f:Nat→Int}(h:i<n):atI ((rwF n f).map D.int) (i:Int)=some (.int (f i)):=bP (qO h)
theorem a72 {n j:Nat}{f:Nat→Int}{v:Int}(h:j<n):((rwF n f).map D.int).set j (.int v)=(rwF n fun x=>if x=j then v else f x).map D.int:=by
 apply List.ext_getElem?
 intro k
 by_cases hk:k<n
 ·rw[qO hk]
  by_cases e:j=k
  ·subst e
   rw[gG (by rw[bS];exact hk),if_pos rfl]
  ·rw[get_set_ne e,qO hk,if_neg (fun z=>e z.symm)]
 ·rw[List.getElem?_eq_none (by rw[List.length_set,bS];omega),List.getElem?_eq_none (by rw[bS];omega)]
theorem fO {n:Nat}{f g:Nat→Int}(h: ∀i,i<n→f i=g i):rwF n f=rwF n g:=by
 unfold rwF
 apply List.map_congr_left
 intro i hi
 exact h i (List.mem_range.mp hi)
theorem b73 (r:List Int):r=rwF r.length (fun j=>r.getD j 0):=by
 apply List.ext_getElem?
 intro k
 by_cases hk:k<r.length
 ·rw[bC9 hk,List.getElem?_eq_getElem hk,List.getD_eq_getElem?_getD,List.getElem?_eq_getElem hk];rfl
 ·rw[List.getElem?_eq_none (by omega),List.getElem?_eq_none (by rw[rH];omega)]
theorem qP (n:Nat)(f:Nat→Int):(List.range n).map (fun k=>D.int (f k))=(rwF n f).map D.int:=by
 unfold rwF
 rw[List.map_map]
 rfl
def tbF (n m:Nat)(t:Nat→Nat→Int):List D:=(List.range n).map fun i=>aN (rwF m (t i))
theorem xE (n m:Nat)(t:Nat→Nat→Int):(tbF n m t).length=n:=by simp[tbF]
theorem aS6 {n m i:Nat}{t:Nat→Nat→Int}(h:i<n):(tbF n m t)[i]? =some (aN (rwF m (t i))):=by simp[tbF,h]
theorem bU9 {n m i:Nat}{t:Nat→Nat→Int}(h:i<n):atI (tbF n m t) (i:Int)=some (aN (rwF m (t i))):=bP (aS6 h)
theorem bV0 (n m:Nat)(t:Nat→Nat→Int)(f:Nat→Int):tbF n m t++[aN (rwF m f)]=tbF (n+1) m (fun i=>if i=n then f else t i):=by
 unfold tbF
 rw[List.range_succ,List.map_append]
 congr 1
 ·apply List.map_congr_left
  intro i hi
  have:=List.mem_range.mp hi
  show _=aN (rwF m (if i=n then f else t i))
  rw[if_neg (by omega)]
 ·simp
theorem aS7 {n i:Nat}(h:i<n):ixN n (i:Int)=some i:=by
 unfold ixN
 have h2:(i:Int)< (n:Int):=by omega
 simp[h,h2]
theorem aS8 (g:D→D→(B→Prop)→Prop)(ta tb:UE)(ρ:Ev)(Q:B→Ev→Prop):uOp g ta tb ρ Q=ta ρ fun x ρ1=>tb ρ1 fun y ρ2=>g x.d y.d fun b=>Q b ρ2:=rfl
theorem a73 (c:UT)(t u:US)(E:UD)(ρ:Ev):eG c t u E ρ=c ρ fun b ρ1=>if b=true then t E ρ1 else u E ρ1:=rfl
theorem a74 {ρ:Ev}{i:Nat}{d:D}{Q:B→Ev→Prop}(h:ρ[i]? =some (some (.pu d))):aG i ρ Q=Q (.pu d) ρ:=by unfold aG zM;rw[h]
theorem aY9: ∀r:List Int,pdL (r.map D.int)=some (r.map PyData.int)
 | []=>by simp[pdL]
 | a::r=>by simp[pdL,pd,aY9 r]
theorem b74 (r:List Int):pd (aN r)=some (.tuple (r.map .int)):=by simp[aN,pd,aY9]
theorem aA9: ∀r:List Int,PyData.depthAll (r.map PyData.int)=0
 | []=>by simp[PyData.depthAll]
 | a::r=>by simp[PyData.depthAll,PyData.depth,aA9 r]
theorem cA8 (r:List Int):(PyData.tuple (r.map .int)).depth≤60:=by simp[PyData.depth,aA9]
theorem bD0 (a b:List Int):(PyData.tuple (a.map .int)).eqv (.tuple (b.map .int))=decide (a=b):=by simp only[PyData.eqv];exact PySem.W.ked_eqvAll a b
theorem bV1 {neg:Bool}{a b:List Int}{Q:B→Prop}(h:Q (.pu (.bl (neg ^^ decide (a=b))))):bI1 neg (aN a) (aN b) Q:=⟨_,_,b74 a,b74 b,cA8 a,by rw[bD0];exact h⟩
def eB (f:Nat→Int):Nat→Nat
 | 0=>0
 | n+1=>if f n=0 then eB f n else n+1
theorem rJ (f:Nat→Int): ∀n,eB f n≤n
 | 0=>Nat.le_refl _
 | n+1=>by
  unfold eB
  split
  ·have:=rJ f n;omega
  ·exact Nat.le_refl _
theorem aM0 (f:Nat→Int): ∀n,eB f n=0∨f (eB f n-1)≠0
 | 0=> .inl rfl
 | n+1=>by
  unfold eB
  split
  ·exact aM0 f n
  ·rename_i h
   exact .inr (by simpa using h)
theorem aM1 (f:Nat→Int): ∀n m,eB f n≤m→m<n→f m=0
 | n+1,m,h1,h2=>by
  unfold eB at h1
  split at h1
  ·rename_i h
   by_cases e:m=n
   ·rw[e];exact h
   ·exact aM1 f n m h1 (by omega)
  ·omega
theorem mV {f:Nat→Int}{k:Nat}: ∀{n:Nat},k≤n→(∀m,k≤m→m<n→f m=0)→(k=0∨f (k-1)≠0)→eB f n=k
 | 0,h,_,_=>by have:k=0:=by omega
               rw[this];rfl
 | n+1,h,hz,hl=>by
  unfold eB
  by_cases e:k=n+1
  ·subst e
   rw[if_neg]
   rcases hl with h0|h0
   ·omega
   ·simpa using h0
  ·rw[if_pos (hz n (by omega) (by omega))]
   exact mV (by omega) (fun m h1 h2=>hz m h1 (by omega)) hl
theorem aB0 {f g:Nat→Int}: ∀{n:Nat},(∀m,m<n→f m=g m)→eB f n=eB g n
 | 0,_=>rfl
 | n+1,h=>by
  unfold eB
  rw[h n (Nat.lt_succ_self n),aB0 fun m hm=>h m (Nat.lt_succ_of_lt hm)]
theorem aB1 (n k:Nat)(f:Nat→Int)(h:k≤n):(rwF n f).take k=rwF k f:=by
 unfold rwF
 rw[←List.map_take,List.take_range,Nat.min_eq_left h]
def lH:Φ:=fun ds Q=> ∃(n:Nat) (f:Nat→Int),ds=[aN (rwF n f)]∧n≤1000∧Q (.pu (aN (rwF (eB f n) f)))
def aB2:US:=(aQ (bK 1 (iD (aS 0))) (aQ (aP7 (bH1 (cN (uOp (nF fun i j=>decide (j<i)) (aG 1) (uC (.int 0)))) (cN (uOp (gH false) (uIx (aS 0) (uOp M.gSub (aG 1) (uC (.int 1)))) (uC (.int 0))))) (b52 1 (gI2 fun i j Q=>Q (.pu (.int (i-j)))) (uC (.int 1)))) (cC (uSlT (aG 0) gX (iE (aG 1))))))
theorem bJ2: ∀ds Q,lH ds Q→ds.length=1:=by rintro ds Q ⟨n,f,rfl,_⟩;rfl
theorem bV2: ∀ds Q,lH ds Q→aB2 {nx:=fun _=>Q (.pu .non),rt:=Q} (init ["r","s"] ds):=by
 rintro ds Q ⟨n,f,rfl,hn,h⟩
 unfold aB2
 simp only[aN]
 show(aQ _ _:US) _ [some (.pu (.tup ((rwF n f).map .int))),none]
 rw[aO]
 walk_at "u"
 rw[bS]
 refine⟨fun m ρ=>ρ=[some (.pu (.tup ((rwF n f).map .int))),some (.pu (.int (m:Int)))]∧m≤n∧eB f m=eB f n,⟨n,rfl,Nat.le_refl _,rfl⟩,?_⟩
 rintro m ρ ⟨rfl,hm,hc⟩
 walk_at "u"
 have fin:eB f m=m→Q (.pu (.tup (cutD ((rwF n f).map D.int) none (some (m:Int))))):=fun e=>by
  rw[aS3 _ _ (by rw[bS];exact hm),←List.map_take,aB1 _ _ _ hm]
  rw[←hc,e]at h
  exact h
 split
 ·rename_i h0
  obtain⟨m',rfl⟩: ∃m',m=m'+1:=⟨m-1,by omega⟩
  rw[show((m'+1:Nat):Int)-1=(m':Int)by omega,jZ (show m'<n by omega)]
  dsimp only
  split
  ·rename_i h1
   refine⟨m',by omega,?_,by omega,?_⟩
   ·simp
   ·rw[←hc]
    show _=if f m'=0 then eB f m' else m'+1
    rw[if_pos h1]
  ·rename_i h1
   refine fin ?_
   show(if f m'=0 then eB f m' else m'+1)=m'+1
   rw[if_neg h1]
 ·have:m=0:=by omega
  subst this
  exact fin rfl
def shF (b:Nat→Int)(n m:Nat):Int:=if n≤m then b (m-n)else 0
def divS (b:Nat→Int)(d n:Nat)(f:Nat→Int):Nat→Int:=fun m=>f m-f (n+d)*shF b n m
def divL (b:Nat→Int)(d:Nat):Nat→(Nat→Int)→Nat→Int
 | 0,f=>f
 | n+1,f=>divL b d n (divS b d n f)
def divQ (b:Nat→Int)(d:Nat):Nat→(Nat→Int)→Nat→Int
 | 0,_=>fun _=>0
 | n+1,f=>fun x=>if x=n then f (n+d)else divQ b d n (divS b d n f) x
structure bV3 (L d a e:Nat)(f b:Nat→Int):Prop where
 L9:L≤100
 d9:d≤100
 one:b d=1
 beyond: ∀j,d<j→b j=0
 fb: ∀m,m<L→(f m).natAbs≤2^a
 bb: ∀j,(b j).natAbs≤2^e
 room:a+(e+1)*L<8000
 e8:e<8000
theorem b75 {b f:Nat→Int}{d n a e L:Nat}(hn:n+d<L)(hf: ∀m,m<L→(f m).natAbs≤2^a)(hb: ∀j,(b j).natAbs≤2^e): ∀m,m<L→(divS b d n f m).natAbs≤2^(a+(e+1)):=by
 intro m hm
 unfold divS
 have h1:=hf m hm
 have h2:=hf (n+d) hn
 have h3:(shF b n m).natAbs≤2^e:=by
  unfold shF
  split
  ·exact hb _
  ·simp
 have h4:(f (n+d)*shF b n m).natAbs≤2^a*2^e:=by rw[Int.natAbs_mul];exact Nat.mul_le_mul h2 h3
 have h5:=Int.natAbs_sub_le (f m) (f (n+d)*shF b n m)
 have e1:2^(a+(e+1))=2^a*2^e+2^a*2^e:=by rw[←Nat.add_assoc,Nat.pow_succ,Nat.pow_add];omega
 have h6:2^a≤2^a*2^e:=Nat.le_mul_of_pos_right _ (Nat.pow_pos (by decide))
 omega
theorem aM2 (k:Nat):(List.replicate k [D.int 0]).flatten=(rwF k fun _=>0).map .int:=by
 rw[aY8]
 congr 1
 apply List.ext_getElem<;>simp[rwF]
def bN:Φ:=fun ds Q=> ∃(L d a e:Nat) (f b:Nat→Int),ds=[aN (rwF L f),aN (rwF (d+1) b)]∧bV3 L d a e f b∧
 Q (.pu (.tup [aN (rwF (eB (divQ b d (L-d) f) (L-d)) (divQ b d (L-d) f)),aN (rwF (eB (divL b d (L-d) f) L) (divL b d (L-d) f))]))
def oE:US:=(cC (gW (aD (aM lH (aD (aM bY (aD (aG 5) aK)) aK)) (aD (aM lH (aD (aM bY (aD (aG 4) aK)) aK)) aK))))
def oF:US:=(aQ (i7 (bR6 (aD (aG 3) aK)) (bO 6) (aQ (bK 7 (uIx (aS 4) (uOp eS (aG 6) (aG 2)))) (aQ (aK4 5 (aG 7) (aG 6)) (i7 (bR5 (aD (aG 1) aK)) (sH (fN 8 (fN 9 sG))) (bR4 4 (fun i j=>i-j) (uOp eS (aG 6) (aG 8)) (uOp dE (aG 7) (aG 9))))))) oE)
def kJ:US:=(aQ (bK 2 (uOp M.gSub (iD (aS 1)) (uC (.int 1)))) (aQ (bK 3 (aM gMax (aD (uC (.int 0)) (aD (uOp M.gSub (iD (aS 0)) (aG 2)) aK)))) (aQ (bK 4 (aM wV (aD (aG 0) aK))) (aQ (bK 5 (uOp dE (i6 (aD (uC (.int 0)) aK)) (aG 3))) oF))))
theorem xF: ∀ds Q,bN ds Q→ds.length=2:=by rintro ds Q ⟨L,d,a,e,f,b,rfl,_⟩;rfl
theorem yM: ∀ds Q,bN ds Q→kJ {nx:=fun _=>Q (.pu .non),rt:=Q} (init ["f","g","d","s","l","q","a","m","j","c"] ds):=by
 rintro ds Q ⟨L,d,a,e,f,b,rfl,ok,h⟩
 have L9:=ok.L9
 have d9:=ok.d9
 have room:=ok.room
 unfold kJ
 simp only[aN]at h⊢
 show(aQ _ _:US) _ [some (.pu (.tup ((rwF L f).map .int))),some (.pu (.tup ((rwF (d+1) b).map .int))),none,none,none,none,none,none,none,none]
 walk_at "u"
 rw[bS,bS]
 obtain⟨N,hN⟩: ∃N:Nat,N=L-d:=⟨_,rfl⟩
 have e1:((d+1:Nat):Int)-1=(d:Int):=by omega
 have e2:(if(L:Int)-(d:Int)>0 then(L:Int)-(d:Int)else 0)=(N:Int):=by split<;>omega
 rw[e1,e2,Int.toNat_natCast,aM2]
 refine⟨by decide,⟨by omega,by omega,Nat.le_trans (show 1*N≤100 by omega) (by decide)⟩,?_⟩
 unfold oF
 rw[aO]
 rw[←hN]at h
 refine bJ N (fun k=> .int (((N:Int))-1-k)) [some (.pu (.tup ((rwF L f).map .int))),some (.pu (.tup ((rwF (d+1) b).map .int))),some (.pu (.int (d:Int))),some (.pu (.int (N:Int))),some (.ow ((rwF L f).map .int)),some (.ow ((rwF N fun _=>0).map .int)),none,none,none,none] ?_
  (fun k ρ=> ∃g q z6 z7 z8 z9,ρ=[some (.pu (.tup ((rwF L f).map .int))),some (.pu (.tup ((rwF (d+1) b).map .int))),some (.pu (.int (d:Int))),some (.pu (.int (N:Int))),some (.ow ((rwF L g).map .int)),some (.ow ((rwF N q).map .int)),z6,z7,z8,z9]∧
   divL b d (N-k) g=divL b d N f∧(∀x,x<N→divQ b d N f x=if x<N-k then divQ b d (N-k) g x else q x)∧ ∀m,m<L→(g m).natAbs≤2^(a+(e+1)*k))
  ⟨f,fun _=>0,none,none,none,none,rfl,rfl,fun x hx=>by rw[Nat.sub_zero,if_pos hx],fun m hm=>by simpa using ok.fb m hm⟩ ?_ ?_
 ·intro Q' q
  walk_at "u"
  refine⟨⟨by omega,by omega⟩,?_⟩
  rw[Int.toNat_natCast]
  exact q
 ·rintro k ρ hk ⟨g,q,z6,z7,z8,z9,rfl,hL,hQ,hb⟩
  obtain⟨i,hi⟩: ∃i:Nat,i=N-1-k:=⟨_,rfl⟩
  have ei:(N:Int)-1-(k:Int)=(i:Int):=by omega
  have hiN:i<N:=by omega
  have hid:i+d<L:=by omega
  rw[ei]
  have c1:(i:Int)+(d:Int)=((i+d:Nat):Int):=by omega
  walk_at "u"
  rw[c1,jZ hid]
  dsimp only
  rw[bS,aS7 hiN]
  dsimp only
  rw[a72 hiN]
  refine⟨by simp,?_⟩
  have smg:Sm (g (i+d)):=Sm.pow (hb _ hid) (by
   have:(e+1)*k≤(e+1)*L:=Nat.mul_le_mul_left _ (by omega)
   omega)
  refine bJ (d+1) (fun j=> .tup [.int (j:Int),((rwF (d+1) b).map D.int).getD j .non]) [some (.pu (.tup ((rwF L f).map .int))),some (.pu (.tup ((rwF (d+1) b).map .int))),some (.pu (.int (d:Int))),some (.pu (.int (N:Int))),some (.ow ((rwF L g).map .int)),some (.ow ((rwF N fun x=>if x=i then g (i+d)else q x).map .int)),some (.pu (.int (i:Int))),some (.pu (.int (g (i+d)))),z8,z9] ?_
   (fun j ρ=> ∃z8 z9,ρ=[some (.pu (.tup ((rwF L f).map .int))),some (.pu (.tup ((rwF (d+1) b).map .int))),some (.pu (.int (d:Int))),some (.pu (.int (N:Int))),some (.ow ((rwF L fun m=>if m<i+j then divS b d i g m else g m).map .int)),some (.ow ((rwF N fun x=>if x=i then g (i+d)else q x).map .int)),some (.pu (.int (i:Int))),some (.pu (.int (g (i+d)))),z8,z9]) ⟨z8,z9,?_⟩ ?_ ?_
  ·intro Q' qq
   walk_at "u"
   rw[bS]
   exact qq
  ·have:(rwF L fun m=>if m<i+0 then divS b d i g m else g m)=rwF L g:=by
    apply fO
    intro m hm
    by_cases c:m<i+0
    ·rw[if_pos c]
     unfold divS shF
     rw[if_neg (by omega)]
     omega
    ·rw[if_neg c]
   rw[this]
  ·rintro j ρ hj ⟨z8,z9,rfl⟩
   rw[t7 hj]
   have hij:i+j<L:=by omega
   have c2:(i:Int)+(j:Int)=((i+j:Nat):Int):=by omega
   simp only[bR4]
   walk_at "u"
   rw[c2,bS]
   refine⟨by simp,by simp,trivial,_,i+j,g (i+j),rfl,aS7 hij,by rw[qO hij,if_neg (by omega)],.inr ⟨smg,Sm.pow (ok.bb j) (by have:=ok.e8;omega)⟩,_,rfl,some (.pu (.int (j:Int))),some (.pu (.int (b j))),?_⟩
   rw[a72 hij]
   have:(rwF L fun x=>if x=i+j then g (i+j)-g (i+d)*b j else if x<i+j then divS b d i g x else g x)=rwF L fun m=>if m<i+(j+1)then divS b d i g m else g m:=by
    apply fO
    intro m hm
    by_cases c:m=i+j
    ·subst c
     rw[if_pos rfl,if_pos (by omega)]
     unfold divS shF
     rw[if_pos (by omega),show i+j-i=j by omega]
    ·rw[if_neg c]
     by_cases c3:m<i+j
     ·rw[if_pos c3,if_pos (by omega)]
     ·rw[if_neg c3,if_neg (by omega)]
   rw[this]
  ·rintro ρ ⟨z8,z9,rfl⟩
   have eg:(rwF L fun m=>if m<i+(d+1)then divS b d i g m else g m)=rwF L (divS b d i g):=by
    apply fO
    intro m hm
    by_cases c:m<i+(d+1)
    ·rw[if_pos c]
    ·rw[if_neg c]
     unfold divS shF
     rw[if_pos (by omega),ok.beyond _ (by omega)]
     omega
   rw[eg]
   have en:N-k=i+1:=by omega
   have en2:N-(k+1)=i:=by omega
   rw[en]at hL hQ
   refine⟨_,_,_,_,_,_,rfl,by rw[en2];exact hL,fun x hx=> ?_,?_⟩
   ·rw[en2,hQ x hx]
    by_cases c:x<i
    ·rw[if_pos c,if_pos (by omega)]
     show(if x=i then _ else divQ b d i (divS b d i g) x)=_
     rw[if_neg (by omega)]
    ·rw[if_neg c]
     by_cases c2:x=i
     ·subst c2
      rw[if_pos (by omega),if_pos rfl]
      show(if x=x then _ else _)=_
      rw[if_pos rfl]
     ·rw[if_neg (by omega),if_neg c2]
   ·have:=b75 hid hb ok.bb
    rw[show a+(e+1)*(k+1)=a+(e+1)*k+(e+1)by rw[Nat.mul_succ];omega]
    exact this
 ·rintro ρ ⟨g,q,z6,z7,z8,z9,rfl,hL,hQ,hb⟩
  dsimp only
  unfold oE
  rw[Nat.sub_self]at hL hQ
  have hg:g=divL b d N f:=hL
  have hq: ∀x,x<N→divQ b d N f x=q x:=fun x hx=>by rw[hQ x hx,if_neg (by omega)]
  walk_at "u"
  refine⟨N,q,rfl,by omega,?_⟩
  refine⟨L,g,rfl,by omega,?_⟩
  walk_at "u"
  refine⟨by decide,?_⟩
  have e3:eB (divQ b d N f) N=eB q N:=aB0 fun m hm=>hq m hm
  have e4:rwF (eB q N) (divQ b d N f)=rwF (eB q N) q:=fO fun m hm=>hq m (by have:=rJ q N;omega)
  rw[e3,e4,←hg]at h
  exact h
def conv (u b:Nat→Int):Nat→Nat→Int
 | 0,_=>0
 | n+1,m=>conv u b n m+u n*shF b n m
theorem jK {u b:Nat→Int}{d:Nat}(hb: ∀j,d<j→b j=0): ∀(n m:Nat),n+d≤m→conv u b n m=0
 | 0,m,_=>rfl
 | n+1,m,h=>by
  show conv u b n m+u n*shF b n m=0
  rw[jK hb n m (by omega)]
  unfold shF
  rw[if_pos (by omega),hb _ (by omega)]
  omega
theorem aB3 {u b low:Nat→Int}{d:Nat}(h1:b d=1)(hb: ∀j,d<j→b j=0)(hl: ∀m,d≤m→low m=0): ∀(n:Nat),divL b d n (fun m=>conv u b n m+low m)=low∧ ∀x,x<n→divQ b d n (fun m=>conv u b n m+low m) x=u x
 | 0=>⟨by funext m;show 0+low m=low m;omega,fun x hx=>by omega⟩
 | n+1=>by
  have top:conv u b (n+1) (n+d)+low (n+d)=u n:=by
   show conv u b n (n+d)+u n*shF b n (n+d)+low (n+d)=u n
   rw[jK hb n _ (Nat.le_refl _),hl _ (by omega)]
   unfold shF
   rw[if_pos (by omega),show n+d-n=d by omega,h1]
   omega
  have st:divS b d n (fun m=>conv u b (n+1) m+low m)=fun m=>conv u b n m+low m:=by
   funext m
   show(conv u b (n+1) m+low m)-(conv u b (n+1) (n+d)+low (n+d))*shF b n m=_
   rw[top]
   show conv u b n m+u n*shF b n m+low m-u n*shF b n m=_
   omega
  obtain⟨i1,i2⟩:=aB3 (u:=u) h1 hb hl n
  refine⟨?_,fun x hx=> ?_⟩
  ·show divL b d n (divS b d n _)=low
   rw[st]
   exact i1
  ·show(if x=n then _ else divQ b d n (divS b d n _) x)=u x
   rw[st]
   by_cases c:x=n
   ·rw[if_pos c,c];exact top
   ·rw[if_neg c];exact i2 x (by omega)
theorem zP {n:Nat}{f:Nat→Int}(h:0<n):atI ((rwF n f).map D.int) (-1)=some (.int (f (n-1))):=by
 unfold L2.atI
 have e:ixN ((rwF n f).map D.int).length (-1)=some (n-1):=by
  unfold ixN
  rw[bS,if_neg (by decide),if_pos (by omega)]
  congr 1
  omega
 rw[e]
 exact qO (by omega)
theorem b76 {f:Nat→Int}{n:Nat}(hf: ∀m,n≤m→f m=0): ∀m,eB f n≤m→f m=0:=fun m hm=>by
 by_cases c:m<n
 ·exact aM1 f n m hm c
 ·exact hf m (by omega)
def md (p:Int)(f:Nat→Int):Nat→Int:=fun j=>f j%p
def aG6 (c p:Int):Nat→Int
 | 0=>1
 | n+1=>aG6 c p n*c%p
theorem aB4 {c p:Int}(hp:2≤p): ∀n,0≤aG6 c p n∧aG6 c p n<p
 | 0=>⟨by show(0:Int)≤1;omega,by show(1:Int)<p;omega⟩
 | n+1=>⟨Int.emod_nonneg _ (by omega),Int.emod_lt_of_pos _ (by omega)⟩
structure Pr (p:Int):Prop where
 lo:2≤p
 hi:p<200
 inv: ∀c:Int,0<c→c<p→aG6 c p (p.toNat-2)*c%p=1
def Cg (p:Int)(f g:Nat→Int):Prop:= ∀m,f m%p=g m%p
theorem Cg.divS {p:Int}{b f g:Nat→Int}{d n:Nat}(h:Cg p f g):Cg p (divS b d n f) (divS b d n g):=fun m=>by
 show(f m-f (n+d)*shF b n m)%p=(g m-g (n+d)*shF b n m)%p
 have h1:=h m
 have h2:f (n+d)*shF b n m%p=g (n+d)*shF b n m%p:=by rw[Int.mul_emod,h (n+d),←Int.mul_emod]
 rw[Int.sub_emod,h1,h2,←Int.sub_emod]
theorem Cg.divL {p:Int}{b:Nat→Int}{d:Nat}: ∀(n:Nat) {f g:Nat→Int},Cg p f g→Cg p (divL b d n f) (divL b d n g)
 | 0,_,_,h=>h
 | n+1,_,_,h=>Cg.divL n h.divS
theorem Cg.divQ {p:Int}{b:Nat→Int}{d:Nat}: ∀(n:Nat) {f g:Nat→Int},Cg p f g→Cg p (divQ b d n f) (divQ b d n g)
 | 0,_,_,h=>fun _=>rfl
 | n+1,f,g,h=>fun x=>by
  show(if x=n then f (n+d)else M.divQ b d n (M.divS b d n f) x)%p=(if x=n then g (n+d)else M.divQ b d n (M.divS b d n g) x)%p
  by_cases c:x=n
  ·rw[if_pos c,if_pos c];exact h _
  ·rw[if_neg c,if_neg c];exact Cg.divQ n h.divS x
theorem zQ {b:Nat→Int}{d:Nat}: ∀(n:Nat) (f:Nat→Int) (x:Nat),n≤x→divQ b d n f x=0
 | 0,_,_,_=>rfl
 | n+1,f,x,h=>by
  show(if x=n then f (n+d)else divQ b d n (divS b d n f) x)=0
  rw[if_neg (by omega)]
  exact zQ n _ x (by omega)
theorem a75 {p:Int}{u u' b b':Nat→Int}(h: ∀i j,u' i*b' j%p=u i*b j%p): ∀n,Cg p (conv u' b' n) (conv u b n)
 | 0,_=>rfl
 | n+1,m=>by
  show(conv u' b' n m+u' n*shF b' n m)%p=(conv u b n m+u n*shF b n m)%p
  have h1:=a75 h n m
  have h2:u' n*shF b' n m%p=u n*shF b n m%p:=by
   unfold shF
   by_cases c:n≤m
   ·rw[if_pos c,if_pos c];exact h _ _
   ·rw[if_neg c,if_neg c,Int.mul_zero,Int.mul_zero]
  rw[Int.add_emod,h1,h2,←Int.add_emod]
theorem aZ0 {u b:Nat→Int}{d U:Nat}(hb: ∀j,d<j→b j=0):conv u b (U+1) (U+d)=u U*b d:=by
 show conv u b U (U+d)+u U*shF b U (U+d)=_
 rw[jK hb U _ (Nat.le_refl _)]
 unfold shF
 rw[if_pos (by omega),show U+d-U=d by omega]
 omega
theorem bV4 {p t:Int}{B0 u low A:Nat→Int}{d U n:Nat}(hp:2≤p)(hB: ∀j,d<j→B0 j=0)(hU:U=0∨u (U-1)≠0)(uR: ∀j,0≤u j∧u j<p)(uz: ∀j,U≤j→u j=0)(lz: ∀j,d≤j→low j=0)(lR: ∀j,0≤low j∧low j<p)
  (ht:t*B0 d%p=1) (hA: ∀m,A m=(conv u B0 U m+low m)%p) (hn:U+d≤n) :
  let b:=fun j=>t*B0 j%p
  let LA:=eB A n
  LA≤U+d∧(∀j,t*divQ b d (LA-d) A j%p=u j)∧(∀j,divL b d (LA-d) A j%p=low j)∧(∀m,LA≤m→divL b d (LA-d) A m%p=0):=by
 intro b LA
 have b1:b d=1:=ht
 have bz: ∀j,d<j→b j=0:=fun j hj=>by
  show t*B0 j%p=0
  rw[hB j hj,Int.mul_zero,Int.zero_emod]
 have tc: ∀x:Int,t*(B0 d*x)%p=x%p:=fun x=>by
  rw[←Int.mul_assoc,Int.mul_emod,ht,Int.one_mul,Int.emod_emod]
 have cg:Cg p A (fun m=>conv (fun i=>B0 d*u i) b U m+low m):=fun m=>by
  rw[hA m,Int.emod_emod]
  have:=a75 (p:=p) (u:=u) (b:=B0) (u':=fun i=>B0 d*u i) (b':=b) (fun i j=>by
   show B0 d*u i*(t*B0 j%p)%p=u i*B0 j%p
   rw[Int.mul_emod,Int.emod_emod,←Int.mul_emod]
   have e:B0 d*u i*(t*B0 j)=t*(B0 d*(u i*B0 j)):=by
    simp only[Int.mul_comm,Int.mul_left_comm,Int.mul_assoc]
   rw[e,tc]) U m
  show(conv u B0 U m+low m)%p=(conv (fun i=>B0 d*u i) b U m+low m)%p
  rw[Int.add_emod,←this,←Int.add_emod]
 obtain⟨e1,e2⟩:=aB3 (u:=fun i=>B0 d*u i) (low:=low) b1 bz lz U
 have Az: ∀m,U+d≤m→A m=0:=fun m hm=>by
  rw[hA m,jK hB U m hm,lz m (by omega)]
  exact Int.zero_emod _
 have hL:(U=0∧LA≤d)∨(0<U∧LA=U+d):=by
  have hle:LA≤U+d:=by
   rcases aM0 A n with h|h
   ·show eB A n≤U+d
    omega
   ·exact Decidable.byContradiction fun q=>h (Az _ (by show U+d≤LA-1;omega))
  by_cases c:U=0
  ·exact .inl ⟨c,by omega⟩
  ·refine .inr ⟨by omega,?_⟩
   refine mV hn (fun m m1 m2=>Az m m1) (.inr fun q=> ?_)
   obtain⟨U',rfl⟩: ∃U',U=U'+1:=⟨U-1,by omega⟩
   rw[show U'+1+d-1=U'+d by omega,hA,aZ0 hB,lz _ (by omega),Int.add_zero]at q
   have h1:=tc (u U')
   rw[Int.mul_emod,show B0 d*u U'=u U'*B0 d from Int.mul_comm _ _,q,Int.mul_zero,Int.zero_emod,Int.emod_eq_of_lt (uR _).1 (uR _).2]at h1
   rcases hU with h|h
   ·omega
   ·exact h (by simpa using h1.symm)
 have hN:LA-d=U:=by omega
 have r: ∀j,divL b d U A j%p=low j:=fun j=>by
  rw[Cg.divL U cg j,e1,Int.emod_eq_of_lt (lR j).1 (lR j).2]
 refine⟨by omega,fun j=> ?_,fun j=>by rw[hN];exact r j,fun m hm=> ?_⟩
 ·rw[hN]
  by_cases c:j<U
  ·have h1:=Cg.divQ (b:=b) (d:=d) U cg j
   rw[e2 j c]at h1
   rw[Int.mul_emod,h1,←Int.mul_emod]
   show t*(B0 d*u j)%p=u j
   rw[tc,Int.emod_eq_of_lt (uR _).1 (uR _).2]
  ·rw[zQ U A j (by omega),uz j (by omega),Int.mul_zero,Int.zero_emod]
 ·rw[hN]
  rcases hL with⟨h1,h2⟩| ⟨h1,h2⟩
  ·subst h1
   show A m%p=0
   rw[b76 (fun m hm=>Az m (by omega)) m hm]
   exact Int.zero_emod _
  ·rw[r m]
   exact lz m (by omega)
def cX:Φ:=fun ds Q=> ∃(n:Nat) (f:Nat→Int) (p:Int),ds=[aN (rwF n f),.int p]∧n≤1000∧0<p∧Q (.pu (aN (rwF (eB (md p f) n) (md p f))))
def oY:US:=(cC (aM lH (aD (aM bY (aD (dQ [1] [none,some 1,none] 2 (eO (aG 0)) (bO 0) (fun ρ Q=>Q true ρ) (uOp jQ (aG 0) (aG 1))) aK)) aK)))
theorem aB5: ∀ds Q,cX ds Q→ds.length=2:=by rintro ds Q ⟨n,f,p,rfl,_⟩;rfl
theorem cA9 (Q:B→Ev→Prop)(n:Nat)(f:Nat→Int)(p:Int)(hn:n≤1000)(hp:0<p)(k:Nat→D)(oU:Ev)(x0:D)(hx:x0=aN (rwF n f)∨x0= .lst ((rwF n f).map .int))(h:Q (.ow ((rwF n (md p f)).map .int)) (some (.pu x0)::some (.pu (.int p))::oU)) :
  (dQ [1] [none,some 1,none] 2 (eO (aG 0)) (bO 0) (fun ρ Q=>Q true ρ) (uOp jQ (aG 0) (aG 1)):UE) (some (.pu x0)::some (.pu (.int p))::oU) Q:=by
 refine dA (t0:=0) n (fun k=>((rwF n f).map D.int).getD k .non) (some (.pu x0)::some (.pu (.int p))::oU) ?_ (by omega) (fun x l=>[x,some (.pu (.int p)),some (.ow l)]) none rfl (fun _ _ _=>rfl) (fun _ _=>Nat.zero_lt_succ _) (fun _ _ _ q=>q) (fun _ _ _=>rfl) (fun k=> .int (md p f k)) ?_ ?_
 ·intro Q' q
  rcases hx with rfl|rfl
  ·simp only[aN]at q⊢
   walk_at "u"
   rw[bS]
   exact q
  ·walk_at "u"
   rw[bS]
   exact q
 ·intro k l Q' hk q
  rw[t7 hk]at q⊢
  walk_at "u"
  refine⟨by omega,?_⟩
  rw[cF _ hp]
  exact q
 ·rw[qP]
  exact h
theorem aG7: ∀ds Q,cX ds Q→oY {nx:=fun _=>Q (.pu .non),rt:=Q} (init ["r","p"] ds):=by
 rintro ds Q ⟨n,f,p,rfl,hn,hp,h⟩
 unfold oY
 show(cC _:US) _ [some (.pu (aN (rwF n f))),some (.pu (.int p))]
 rw[fU,d8,cJ,d8,cJ]
 refine cA9 _ n f p hn hp (fun _=> .non) [] _ (.inl rfl) ?_
 walk_at "u"
 exact⟨n,md p f,rfl,hn,h⟩
theorem b77 (u b:Nat→Int)(i N:Nat):(rwF N fun m=>if m<i+0 then conv u b (i+1) m else conv u b i m)=rwF N (conv u b i):=by
 apply fO
 intro m hm
 by_cases c:m<i+0
 ·rw[if_pos c]
  show conv u b i m+u i*shF b i m=_
  unfold shF
  rw[if_neg (by omega)]
  omega
 ·rw[if_neg c]
theorem b78 {u b:Nat→Int}{i V N:Nat}(hz: ∀j,V≤j→b j=0):(rwF N fun m=>if m<i+V then conv u b (i+1) m else conv u b i m)=rwF N (conv u b (i+1)):=by
 apply fO
 intro m hm
 by_cases c:m<i+V
 ·rw[if_pos c]
 ·rw[if_neg c]
  show _=conv u b i m+u i*shF b i m
  unfold shF
  rw[if_pos (by omega),hz _ (by omega)]
  omega
theorem b79 (u b:Nat→Int)(i j N:Nat):(rwF N fun x=>if x=i+j then conv u b i (i+j)+u i*b j else if x<i+j then conv u b (i+1) x else conv u b i x)=rwF N fun m=>if m<i+(j+1)then conv u b (i+1) m else conv u b i m:=by
 apply fO
 intro m hm
 by_cases c:m=i+j
 ·subst c
  rw[if_pos rfl,if_pos (by omega)]
  show _=conv u b i (i+j)+u i*shF b i (i+j)
  unfold shF
  rw[if_pos (by omega),show i+j-i=j by omega]
 ·rw[if_neg c]
  by_cases c3:m<i+j
  ·rw[if_pos c3,if_pos (by omega)]
  ·rw[if_neg c3,if_neg (by omega)]
theorem xG {u b:Nat→Int}{U:Nat}: ∀n,(∀j,U≤j→j<n→u j=0)→U≤n→ ∀m,conv u b n m=conv u b U m
 | 0,h,h2,m=>by rw[show U=0 by omega]
 | n+1,h,h2,m=>by
  by_cases c:U=n+1
  ·rw[c]
  ·show conv u b n m+u n*shF b n m=_
   rw[h n (by omega) (by omega),xG n (fun j a c=>h j a (by omega)) (by omega) m]
   omega
theorem md_nat {p:Int}(h1:2≤p)(h2:p<200)(f:Nat→Int)(j:Nat):(md p f j).natAbs≤2^8:=by
 unfold md
 have a1:=Int.emod_nonneg (f j) (show p≠0 by omega)
 have a2:=Int.emod_lt_of_pos (f j) (show 0<p by omega)
 show _≤256
 omega
def jL:Φ:=fun ds Q=> ∃(n:Nat) (f:Nat→Int) (k p:Int),ds=[aN (rwF n f),.int k,.int p]∧n≤1000∧0≤k∧k<200∧0<p∧Q (.pu (aN (rwF (eB (fun j=>k*f j%p) n) (fun j=>k*f j%p))))
def t8:US:=(cC (aM cX (aD (aM bY (aD (dQ [1] [none,some 1,none] 2 (eO (aG 0)) (bO 0) (fun ρ Q=>Q true ρ) (uOp dE (aG 1) (aG 0))) aK)) (aD (aG 2) aK))))
theorem aS9: ∀ds Q,jL ds Q→ds.length=3:=by rintro ds Q ⟨n,f,k,p,rfl,_⟩;rfl
theorem aZ1: ∀ds Q,jL ds Q→t8 {nx:=fun _=>Q (.pu .non),rt:=Q} (init ["f","k","p"] ds):=by
 rintro ds Q ⟨n,f,k,p,rfl,hn,k0,k9,hp,h⟩
 unfold t8
 show(cC _:US) _ [some (.pu (aN (rwF n f))),some (.pu (.int k)),some (.pu (.int p))]
 rw[fU,d8,cJ,d8,cJ]
 refine dA (t0:=0) n (fun i=>((rwF n f).map D.int).getD i .non) [some (.pu (aN (rwF n f))),some (.pu (.int k)),some (.pu (.int p))] ?_ (by omega) (fun x l=>[x,some (.pu (.int k)),some (.ow l)]) none rfl (fun _ _ _=>rfl) (fun _ _=>Nat.zero_lt_succ _) (fun _ _ _ q=>q) (fun _ _ _=>rfl) (fun i=> .int (k*f i)) ?_ ?_
 ·intro Q' q
  simp only[aN]at q⊢
  walk_at "u"
  rw[bS]
  exact q
 ·intro i l Q' hk q
  rw[t7 hk]at q⊢
  walk_at "u"
  exact⟨cmL (by omega) (by omega),q⟩
 ·rw[qP]
  walk_at "u"
  exact⟨n,fun i=>k*f i,p,rfl,hn,hp,h⟩
def hX:Φ:=fun ds Q=> ∃c p:Int,ds=[.int c,.int p]∧0≤c∧c<p∧2≤p∧p<200∧Q (.pu (.int (aG6 c p (p.toNat-2))))
def lZ:US:=(aQ (bK 2 (uC (.int 1))) (aQ (i7 (eJ (aD (uOp M.gSub (aG 1) (uC (.int 2))) aK)) (bO 3) (bK 2 (uOp jQ (uOp dE (aG 2) (aG 0)) (aG 1)))) (mK 2)))
theorem yN: ∀ds Q,hX ds Q→ds.length=2:=by rintro ds Q ⟨c,p,rfl,_⟩;rfl
theorem a08: ∀ds Q,hX ds Q→lZ {nx:=fun _=>Q (.pu .non),rt:=Q} (init ["c","p","v","s"] ds):=by
 rintro ds Q ⟨c,p,rfl,c0,c1,p2,p9,h⟩
 unfold lZ
 show(aQ _ _:US) _ [some (.pu (.int c)),some (.pu (.int p)),none,none]
 walk_at "u"
 refine bJ (p.toNat-2) (fun k=> .int (0+k)) [some (.pu (.int c)),some (.pu (.int p)),some (.pu (.int 1)),none] ?_
  (fun k ρ=> ∃z,ρ=[some (.pu (.int c)),some (.pu (.int p)),some (.pu (.int (aG6 c p k))),z]) ⟨none,rfl⟩ ?_ ?_
 ·intro Q' q
  walk_at "u"
  refine⟨⟨by omega,by omega⟩,?_⟩
  rw[show(p-2).toNat=p.toNat-2 by omega]
  exact q
 ·rintro k ρ hk ⟨z,rfl⟩
  have:=aB4 (c:=c) p2 k
  walk_at "u"
  refine⟨by simp,cmL (by omega) (by omega),by omega,some (.pu (.int (0+(k:Int)))),?_⟩
  rw[cF _ (by omega)]
  rfl
 ·rintro ρ ⟨z,rfl⟩
  walk_at "u"
  exact h
def hZ:Φ:=fun ds Q=> ∃(n k d:Nat) (f g:Nat→Int) (p:Int),ds=[aN (rwF n f),aN (rwF k g),.int p]∧n≤50∧k≤50∧Pr p∧(∀j,k≤j→g j=0)∧d<k∧(∀j,d<j→md p g j=0)∧md p g d≠0∧
 ∀t,t*md p g d%p=1→0≤t→t<p→
  let b:=fun j=>t*md p g j%p
  let LA:=eB (md p f) n
  let q:=divQ b d (LA-d) (md p f)
  let r:=divL b d (LA-d) (md p f)
  Q (.pu (.tup [aN (rwF (eB (fun j=>t*q j%p) (eB q (LA-d))) fun j=>t*q j%p),aN (rwF (eB (md p r) (eB r LA)) (md p r))]))
def qQ:US:=(cC (gW (aD (aM jL (aD (aG 5) (aD (aG 4) (aD (aG 2) aK)))) (aD (aM cX (aD (aG 6) (aD (aG 2) aK))) aK))))
def kK:US:=(aQ (bQ1 (aM bN (aD (aM cX (aD (aG 0) (aD (aG 2) aK))) (aD (aM jL (aD (aG 3) (aD (aG 4) (aD (aG 2) aK)))) aK))) (sH (fN 5 (fN 6 sG)))) qQ)
def m8:US:=(aQ (bK 3 (aM cX (aD (aG 1) (aD (aG 2) aK)))) (aQ (bK 4 (aM hX (aD (uIx (aS 3) (lD (uC (.int 1)))) (aD (aG 2) aK)))) kK))
theorem yO: ∀ds Q,hZ ds Q→ds.length=3:=by rintro ds Q ⟨n,k,d,f,g,p,rfl,_⟩;rfl
theorem a09: ∀ds Q,hZ ds Q→m8 {nx:=fun _=>Q (.pu .non),rt:=Q} (init ["a","b","p","l","t","q","r"] ds):=by
 rintro ds Q ⟨n,k,d,f,g,p,rfl,hn,hk,pp,gz,dk,dz,d0,h⟩
 have p2:=pp.lo
 have p9:=pp.hi
 unfold m8
 show(aQ _ _:US) _ [some (.pu (aN (rwF n f))),some (.pu (aN (rwF k g))),some (.pu (.int p)),none,none,none,none]
 have ed:eB (md p g) k=d+1:=mV (by omega) (fun m m1 m2=>dz m (by omega)) (.inr (by simpa using d0))
 have c1:=Int.emod_nonneg (g d) (show p≠0 by omega)
 have c2:=Int.emod_lt_of_pos (g d) (show 0<p by omega)
 have c3:0<md p g d:=by
  have:md p g d=g d%p:=rfl
  omega
 have tR:=aB4 (c:=md p g d) p2 (p.toNat-2)
 have ht:=pp.inv _ c3 c2
 generalize et:aG6 (md p g d) p (p.toNat-2)=t at tR ht
 have bA: ∀j,0≤t*md p g j%p∧t*md p g j%p<p:=fun j=>⟨Int.emod_nonneg _ (by omega),Int.emod_lt_of_pos _ (by omega)⟩
 have hc:eB (fun j=>t*md p g j%p) (d+1)=d+1:=mV (Nat.le_refl _) (fun m a b=>by omega) (.inr (by
  show t*md p g d%p≠0
  rw[ht];decide))
 have LA9:=rJ (md p f) n
 have low:aN (rwF (eB (md p g) k) (md p g))= .tup ((rwF (d+1) (md p g)).map .int):=by rw[ed];rfl
 walk_at "u"
 refine⟨k,g,p,rfl,by omega,by omega,?_⟩
 rw[low]
 walk_at "u"
 rw[zP (by omega)]
 walk_at "u"
 refine⟨md p g d,p,rfl,by omega,c2,p2,p9,?_⟩
 rw[et]
 show kK _ [some (.pu (aN (rwF n f))),some (.pu (aN (rwF k g))),some (.pu (.int p)),some (.pu (aN (rwF (d+1) (md p g)))),some (.pu (.int t)),none,none]
 unfold kK
 walk_at "u"
 refine⟨n,f,p,rfl,by omega,by omega,?_⟩
 refine⟨d+1,md p g,t,p,rfl,by omega,by omega,by omega,by omega,?_⟩
 rw[hc]
 refine⟨eB (md p f) n,d,8,8,md p f,fun j=>t*md p g j%p,rfl,⟨by omega,by omega,ht,fun j hj=>by
  show t*md p g j%p=0
  rw[dz j hj,Int.mul_zero,Int.zero_emod],fun m _=>md_nat p2 p9 f m,fun j=>by
   have:=bA j
   show(t*md p g j%p).natAbs≤256
   omega,by omega,by decide⟩,?_⟩
 have hh:=h t ht tR.1 tR.2
 have q9:=rJ (divQ (fun j=>t*md p g j%p) d (eB (md p f) n-d) (md p f)) (eB (md p f) n-d)
 have r9:=rJ (divL (fun j=>t*md p g j%p) d (eB (md p f) n-d) (md p f)) (eB (md p f) n)
 simp only[]at hh
 walk_at "u"
 refine⟨by simp,by simp,trivial,?_⟩
 unfold qQ
 walk_at "u"
 refine⟨_,_,t,p,rfl,by omega,by omega,by omega,by omega,?_⟩
 refine⟨_,_,p,rfl,by omega,by omega,?_⟩
 walk_at "u"
 exact⟨by decide,hh⟩
def prB (i k:Nat):Bool:=if(2:Int)+(i:Int)=2+(k:Int)then true else !decide (((2:Int)+(i:Int))%(2+(k:Int))=0)
def prC (i:Nat):Bool:=((List.range 13).map (prB i)).all id
def prL:List Int:=((List.range 198).filter prC).map fun i:Nat=>(2:Int)+(i:Int)
theorem aZ2 {c p:Nat}(hp:2≤p): ∀n,aG6 (c:Int) (p:Int) n=((c^n%p:Nat):Int)
 | 0=>by
  show(1:Int)=_
  rw[Nat.pow_zero,Nat.mod_eq_of_lt (by omega)]
  rfl
 | n+1=>by
  show aG6 (c:Int) (p:Int) n*(c:Int)%(p:Int)=_
  rw[aZ2 hp n,←Int.natCast_mul,←Int.natCast_emod,Nat.pow_succ,Nat.mod_mul_mod]
theorem pr_all:prL.all (fun p=>decide (2≤p)&&decide (p<200)&&(List.range p.toNat).all fun c=>decide (c=0)||decide (c^(p.toNat-2)%p.toNat*c%p.toNat=1))=true:=by decide +kernel
theorem yP {p:Int}(h:p∈prL):Pr p:=by
 have h1:=List.all_eq_true.mp pr_all p h
 simp only[Bool.and_eq_true,decide_eq_true_eq,List.all_eq_true,List.mem_range,Bool.or_eq_true]at h1
 obtain⟨⟨a,b⟩,c⟩:=h1
 refine⟨a,b,fun x x0 x1=> ?_⟩
 obtain⟨q,rfl⟩: ∃q:Nat,p=(q:Int):=⟨p.toNat,by omega⟩
 obtain⟨y,rfl⟩: ∃y:Nat,x=(y:Int):=⟨x.toNat,by omega⟩
 have h2:=c y (by omega)
 rw[Int.toNat_natCast]at h2⊢
 rw[aZ2 (by omega),←Int.natCast_mul,←Int.natCast_emod]
 rcases h2 with h2|h2
 ·omega
 ·rw[h2];rfl
def T_SMALL_PRIMES:List Int:=[2,3,5,7,11,13,17,19,23,29,31,37,41,43,47,53,59,61,67,71,73,79,83,89,97,101,103,107,109,113,127,131,137,139,149,151,157,163,167,173,179,181,191,193,197,199]
theorem tp_ok: ∀p∈T_SMALL_PRIMES,2≤p∧p<200:=by decide +kernel
theorem aT0:T_SMALL_PRIMES.length=46:=rfl
def dM:Φ:=fun ds Q=>ds=[]∧Q (.ow (T_SMALL_PRIMES.map .int))
def kA:US:=(cC (aM wV (aD (uC (.tup (T_SMALL_PRIMES.map .int))) aK)))
theorem w8: ∀ds Q,dM ds Q→ds.length=0:=by rintro ds Q ⟨rfl,_⟩;rfl
theorem xH: ∀ds Q,dM ds Q→kA {nx:=fun _=>Q (.pu .non),rt:=Q} (init [] ds):=by
 rintro ds Q ⟨rfl,h⟩
 unfold kA
 show(cC _:US) _ []
 walk_at "u"
 exact h
theorem bV5:prL=T_SMALL_PRIMES:=by decide +kernel
def ps (f:Nat→Int)(z:Int):Nat→Int
 | 0=>0
 | n+1=>ps f z n+f n*z^n
def hor (f:Nat→Int)(n:Nat)(z:Int):Nat→Int
 | 0=>0
 | k+1=>hor f n z k*z+f (n-1-k)
theorem bV6 (f:Nat→Int)(n:Nat)(z:Int): ∀k,k≤n→hor f n z k*z^(n-k)+ps f z (n-k)=ps f z n
 | 0,_=>by show(0:Int)*_+_=_;rw[Int.zero_mul,Int.zero_add];rfl
 | k+1,h=>by
  have ih:=bV6 f n z k (by omega)
  obtain⟨m,hm⟩: ∃m,n-k=m+1:=⟨n-k-1,by omega⟩
  have e1:n-(k+1)=m:=by omega
  have e2:n-1-k=m:=by omega
  rw[hm]at ih
  show(hor f n z k*z+f (n-1-k))*z^(n-(k+1))+ps f z (n-(k+1))=_
  rw[e1,e2,←ih]
  show _=hor f n z k*z^(m+1)+(ps f z m+f m*z^m)
  rw[Int.pow_succ,Int.add_mul]
  have e3:hor f n z k*z*z^m=hor f n z k*(z^m*z):=by rw[Int.mul_assoc,Int.mul_comm z]
  omega
theorem cB0 (f:Nat→Int)(n:Nat)(z:Int):hor f n z n=ps f z n:=by
 have:=bV6 f n z n (Nat.le_refl _)
 rw[Nat.sub_self]at this
 have e:hor f n z n*z^0+ps f z 0=hor f n z n:=by
  show hor f n z n*z^0+0=_
  rw[Int.pow_zero,Int.mul_one,Int.add_zero]
 omega
theorem aM3 {f:Nat→Int}{n a b:Nat}{z:Int}(hf: ∀j,(f j).natAbs≤2^a)(hz:z.natAbs≤2^b): ∀k,(hor f n z k).natAbs≤2^(a+(b+1)*k)
 | 0=>by simp[hor]
 | k+1=>by
  show(hor f n z k*z+f (n-1-k)).natAbs≤_
  have ih:=aM3 (n:=n) hf hz k
  have h1:(hor f n z k*z).natAbs≤2^(a+(b+1)*k)*2^b:=by rw[Int.natAbs_mul];exact Nat.mul_le_mul ih hz
  have h2:=hf (n-1-k)
  have h3:=Int.natAbs_add_le (hor f n z k*z) (f (n-1-k))
  have e1:2^(a+(b+1)*(k+1))=2^(a+(b+1)*k)*2^b+2^(a+(b+1)*k)*2^b:=by
   rw[Nat.mul_succ,←Nat.add_assoc,←Nat.add_assoc,Nat.pow_succ,Nat.pow_add 2 (a+(b+1)*k) b];omega
  have h4:2^a≤2^(a+(b+1)*k)*2^b:=by
   rw[←Nat.pow_add]
   exact Nat.pow_le_pow_right (by decide) (by omega)
  omega
theorem bV7 (f g:Nat→Int)(z:Int): ∀n,ps (fun j=>f j+g j) z n=ps f z n+ps g z n
 | 0=>rfl
 | n+1=>by
  show ps (fun j=>f j+g j) z n+(f n+g n)*z^n=ps f z n+f n*z^n+(ps g z n+g n*z^n)
  rw[bV7 f g z n,Int.add_mul]
  omega
theorem bV8 (c:Int)(f:Nat→Int)(z:Int): ∀n,ps (fun j=>c*f j) z n=c*ps f z n
 | 0=>by show(0:Int)=c*0;rw[Int.mul_zero]
 | n+1=>by
  show ps (fun j=>c*f j) z n+c*f n*z^n=c*(ps f z n+f n*z^n)
  rw[bV8 c f z n,Int.mul_add,Int.mul_assoc]
theorem aT1 {f:Nat→Int}{z:Int}{n:Nat}: ∀m,n≤m→(∀j,n≤j→j<m→f j=0)→ps f z m=ps f z n
 | 0,h,_=>by rw[show n=0 by omega]
 | m+1,h,hz=>by
  by_cases c:n=m+1
  ·rw[c]
  ·show ps f z m+f m*z^m=_
   rw[hz m (by omega) (by omega),Int.zero_mul,Int.add_zero]
   exact aT1 m (by omega) fun j a b=>hz j a (by omega)
theorem aM4 (b:Nat→Int)(z:Int)(U:Nat): ∀n,n≤U→ps (shF b U) z n=0
 | 0,_=>rfl
 | n+1,h=>by
  show ps (shF b U) z n+shF b U n*z^n=0
  rw[aM4 b z U n (by omega)]
  unfold shF
  rw[if_neg (by omega),Int.zero_mul]
  rfl
theorem aZ3 (b:Nat→Int)(z:Int)(U:Nat): ∀m,ps (shF b U) z (U+m)=z^U*ps b z m
 | 0=>by rw[Nat.add_zero,aM4 b z U U (Nat.le_refl _)];show(0:Int)=z^U*0;rw[Int.mul_zero]
 | m+1=>by
  show ps (shF b U) z (U+m)+shF b U (U+m)*z^(U+m)=z^U*(ps b z m+b m*z^m)
  rw[aZ3 b z U m]
  unfold shF
  rw[if_pos (by omega),show U+m-U=m by omega,Int.pow_add,Int.mul_add,Int.mul_left_comm]
theorem bD1 {u b:Nat→Int}{z:Int}{V:Nat}(hb: ∀j,V≤j→b j=0): ∀U N,U+V≤N→ps (conv u b U) z N=ps u z U*ps b z V
 | 0,N,_=>by
  have:ps (conv u b 0) z N=0:=by
   have e:ps (conv u b 0) z N=ps (conv u b 0) z 0:=aT1 N (Nat.zero_le _) fun _ _ _=>rfl
   rw[e];rfl
  rw[this]
  show(0:Int)=0*_
  rw[Int.zero_mul]
 | U+1,N,h=>by
  have e:conv u b (U+1)=fun m=>conv u b U m+u U*shF b U m:=rfl
  rw[e,bV7 (conv u b U) (fun m=>u U*shF b U m),bD1 hb U N (by omega),bV8]
  obtain⟨m,rfl⟩: ∃m,N=U+m:=⟨N-U,by omega⟩
  rw[aZ3,aT1 (n:=V) m (by omega) fun j a _=>hb j a]
  show _=(ps u z U+u U*z^U)*ps b z V
  rw[Int.add_mul,Int.mul_assoc (u U)]
structure HorOk (n a b:Nat)(f:Nat→Int)(z:Int):Prop where
 fb: ∀j,(f j).natAbs≤2^a
 zb:z.natAbs≤2^b
 room:a+(b+1)*n<8000
 b8:b<8000
 n9:n≤200
def gY:Φ:=fun ds Q=> ∃(n a b:Nat) (f:Nat→Int) (z:Int),ds=[aN (rwF n f),.int z]∧HorOk n a b f z∧Q (.pu (.int (ps f z n)))
def rK:US:=(aQ (bK 2 (uC (.int 0))) (aQ (i7 (bC2 (aD (aG 0) aK)) (bO 3) (bK 2 (uOp eS (uOp dE (aG 2) (aG 1)) (aG 3)))) (mK 2)))
theorem aG8: ∀ds Q,gY ds Q→ds.length=2:=by rintro ds Q ⟨n,a,b,f,z,rfl,_⟩;rfl
theorem aT2: ∀ds Q,gY ds Q→rK {nx:=fun _=>Q (.pu .non),rt:=Q} (init ["f","z","v","c"] ds):=by
 rintro ds Q ⟨n,a,b,f,z,rfl,ok,h⟩
 unfold rK
 simp only[aN]
 show(aQ _ _:US) _ [some (.pu (.tup ((rwF n f).map .int))),some (.pu (.int z)),none,none]
 walk_at "u"
 refine bJ n (fun k=>((rwF n f).map D.int).getD (n-1-k) .non) [some (.pu (.tup ((rwF n f).map .int))),some (.pu (.int z)),some (.pu (.int 0)),none] ?_
  (fun k ρ=> ∃c,ρ=[some (.pu (.tup ((rwF n f).map .int))),some (.pu (.int z)),some (.pu (.int (hor f n z k))),c]) ⟨none,rfl⟩ ?_ ?_
 ·intro Q' q
  walk_at "u"
  rw[bS]
  exact q
 ·rintro k ρ hk ⟨c,rfl⟩
  rw[t7 (by omega)]
  walk_at "u"
  have room:=ok.room
  have:(b+1)*k≤(b+1)*n:=Nat.mul_le_mul_left _ (by omega)
  exact⟨by simp,.inr ⟨Sm.pow (aM3 ok.fb ok.zb k) (by omega),Sm.pow ok.zb (by have:=ok.b8;omega)⟩,_,rfl⟩
 ·rintro ρ ⟨c,rfl⟩
  walk_at "u"
  rw[cB0]
  exact h
theorem bD2 (f g:Nat→Int)(n m:Nat):shF (fun j=>f j+g j) n m=shF f n m+shF g n m:=by
 unfold shF;dsimp only;split<;>omega
theorem cB1 (c:Int)(f:Nat→Int)(n m:Nat):shF (fun j=>c*f j) n m=c*shF f n m:=by
 unfold shF;dsimp only;split
 ·rfl
 ·rw[Int.mul_zero]
theorem shF_sh (h:Nat→Int)(n k m:Nat):shF (shF h n) k m=shF h (n+k) m:=by
 unfold shF
 by_cases c:k≤m
 ·rw[if_pos c]
  by_cases d:n≤m-k
  ·rw[if_pos d,if_pos (by omega),show m-k-n=m-(n+k)by omega]
  ·rw[if_neg d,if_neg (by omega)]
 ·rw[if_neg c,if_neg (by omega)]
theorem aM5 (f g b:Nat→Int)(m:Nat): ∀n,conv (fun j=>f j+g j) b n m=conv f b n m+conv g b n m
 | 0=>rfl
 | n+1=>by
  show conv (fun j=>f j+g j) b n m+(f n+g n)*shF b n m=conv f b n m+f n*shF b n m+(conv g b n m+g n*shF b n m)
  rw[aM5 f g b m n,Int.add_mul]
  omega
theorem aM6 (c:Int)(f b:Nat→Int)(m:Nat): ∀n,conv (fun j=>c*f j) b n m=c*conv f b n m
 | 0=>by show(0:Int)=c*0;rw[Int.mul_zero]
 | n+1=>by
  show conv (fun j=>c*f j) b n m+c*f n*shF b n m=c*(conv f b n m+f n*shF b n m)
  rw[aM6 c f b m n,Int.mul_add,Int.mul_assoc]
theorem aZ4 (f b:Nat→Int)(k m:Nat): ∀n,conv (shF f k) b (k+n) m=shF (conv f b n) k m
 | 0=>by
  have e: ∀j,j≤k→conv (shF f k) b j m=0:=by
   intro j
   induction j with
   | zero=>intro _;rfl
   | succ j ih=>
    intro hj
    show conv (shF f k) b j m+shF f k j*shF b j m=0
    rw[ih (by omega)]
    unfold shF
    rw[if_neg (by omega),Int.zero_mul]
    rfl
  rw[Nat.add_zero,e k (Nat.le_refl _)]
  unfold shF
  split<;>rfl
 | n+1=>by
  show conv (shF f k) b (k+n) m+shF f k (k+n)*shF b (k+n) m=shF (fun m=>conv f b n m+f n*shF b n m) k m
  rw[aZ4 f b k m n,bD2,cB1,shF_sh,Nat.add_comm n k]
  congr 2
  unfold shF
  rw[if_pos (by omega),show k+n-k=n by omega]
theorem aB6 {u b c:Nat→Int}{V:Nat}(hb: ∀j,V≤j→b j=0)(m:Nat): ∀U,conv u (conv b c V) U m=conv (conv u b U) c (U+V) m
 | 0=>by
  have e: ∀n,conv (conv u b 0) c n m=0:=by
   intro n
   induction n with
   | zero=>rfl
   | succ n ih=>
    show conv (conv u b 0) c n m+0*shF c n m=0
    rw[ih,Int.zero_mul];rfl
  rw[e];rfl
 | U+1=>by
  show conv u (conv b c V) U m+u U*shF (conv b c V) U m=conv (fun m=>conv u b U m+u U*shF b U m) c (U+1+V) m
  rw[aM5,aM6,aB6 hb m U]
  have z1: ∀j,U+V≤j→j<U+1+V→conv u b U j=0:=fun j h1 h2=>by
   have: ∀i,V<i+1→b i=0:=fun i hi=>hb i (by omega)
   by_cases v:V=0
   ·subst v
    have e:b=fun _=>0:=funext fun j=>hb j (Nat.zero_le _)
    rw[e]
    have nul: ∀n,conv u (fun _=>0) n j=0:=by
     intro n
     induction n with
     | zero=>rfl
     | succ n ih=>
      show conv u (fun _=>0) n j+u n*shF (fun _=>0) n j=0
      rw[ih]
      unfold shF
      split<;>rw[Int.mul_zero]<;>rfl
    exact nul U
   ·exact jK (d:=V-1) (fun i hi=>hb i (by omega)) U j (by omega)
  rw[xG (u:=conv u b U) (b:=c) (U:=U+V) (U+1+V) z1 (by omega)]
  have z2: ∀j,U+V≤j→j<U+1+V→shF b U j=0:=fun j h1 h2=>by
   unfold shF
   rw[if_pos (by omega)]
   exact hb _ (by omega)
  rw[xG (u:=shF b U) (b:=c) (U:=U+V) (U+1+V) z2 (by omega),aZ4]
theorem yQ (u f g:Nat→Int)(m:Nat): ∀n,conv u (fun j=>f j+g j) n m=conv u f n m+conv u g n m
 | 0=>rfl
 | n+1=>by
  show conv u (fun j=>f j+g j) n m+u n*shF (fun j=>f j+g j) n m=conv u f n m+u n*shF f n m+(conv u g n m+u n*shF g n m)
  rw[yQ u f g m n,bD2,Int.mul_add]
  omega
theorem xI {u:Nat→Int}{n:Nat}(c:Int)(k:Nat)(hu: ∀j,n≤j→u j=0)(m:Nat):conv u (fun j=>if j=k then c else 0) n m=c*shF u k m:=by
 have e: ∀n,conv u (fun j=>if j=k then c else 0) n m=if k≤m∧m-k<n then c*u (m-k)else 0:=by
  intro n
  induction n with
  | zero=>rw[if_neg (by omega)];rfl
  | succ n ih=>
   show conv u (fun j=>if j=k then c else 0) n m+u n*shF (fun j=>if j=k then c else 0) n m=_
   have sh:shF (fun j=>if j=k then c else 0) n m=if n≤m∧m-n=k then c else 0:=by
    unfold shF
    dsimp only
    by_cases h3:n≤m
    ·rw[if_pos h3]
     by_cases h4:m-n=k
     ·rw[if_pos h4,if_pos ⟨h3,h4⟩]
     ·rw[if_neg h4,if_neg (fun z=>h4 z.2)]
    ·rw[if_neg h3,if_neg (fun z=>h3 z.1)]
   rw[ih,sh]
   by_cases h1:k≤m∧m-k<n
   ·rw[if_pos h1,if_neg (show ¬(n≤m∧m-n=k)by omega),if_pos (show k≤m∧m-k<n+1 by omega),Int.mul_zero,Int.add_zero]
   ·rw[if_neg h1]
    by_cases h2:k≤m∧m-k=n
    ·rw[if_pos (show n≤m∧m-n=k by omega),if_pos (show k≤m∧m-k<n+1 by omega),h2.2,Int.zero_add,Int.mul_comm]
    ·rw[if_neg (show ¬(n≤m∧m-n=k)by omega),if_neg (show ¬(k≤m∧m-k<n+1)by omega),Int.mul_zero]
     rfl
 rw[e n]
 unfold shF
 by_cases h1:k≤m
 ·rw[if_pos h1]
  by_cases h2:m-k<n
  ·rw[if_pos ⟨h1,h2⟩]
  ·rw[if_neg (by omega),hu _ (by omega),Int.mul_zero]
 ·rw[if_neg h1,if_neg (by omega),Int.mul_zero]
theorem aM7 {u b:Nat→Int}{U V:Nat}(hu: ∀j,U≤j→u j=0)(hb: ∀j,V≤j→b j=0)(m:Nat):conv u b U m=conv b u V m:=by
 have e: ∀n,conv u b n m=conv b (fun j=>if j<n then u j else 0) V m:=by
  intro n
  induction n with
  | zero=>
   have:(fun j=>if j<0 then u j else 0)=fun j=>if j=0 then(0:Int)else 0:=funext fun j=>by simp
   rw[this,xI 0 0 hb,Int.zero_mul]
   rfl
  | succ n ih=>
   have:(fun j=>if j<n+1 then u j else 0)=fun j=>(if j<n then u j else 0)+(if j=n then u n else 0):=funext fun j=>by
    by_cases h1:j<n
    ·rw[if_pos (by omega),if_pos h1,if_neg (by omega),Int.add_zero]
    ·by_cases h2:j=n
     ·subst h2;rw[if_pos (by omega),if_neg h1,if_pos rfl,Int.zero_add]
     ·rw[if_neg (by omega),if_neg h1,if_neg h2];rfl
   rw[this,yQ b (fun j=>if j<n then u j else 0) (fun j=>if j=n then u n else 0),xI _ _ hb,←ih]
   rfl
 rw[e U]
 congr 1
 funext j
 by_cases h:j<U
 ·rw[if_pos h]
 ·rw[if_neg h,hu j (by omega)]
theorem emL (a b p:Int):a%p*b%p=a*b%p:=by rw[Int.mul_emod,Int.emod_emod,←Int.mul_emod]
theorem emR (a b p:Int):a*(b%p)%p=a*b%p:=by rw[Int.mul_emod,Int.emod_emod,←Int.mul_emod]
structure MP (p:Int)(n:Nat)(f:Nat→Int):Prop where
 top:f n=1
 hi: ∀j,n<j→f j=0
 rng: ∀j,0≤f j∧f j<p
theorem MP.z {p:Int}{n:Nat}{f:Nat→Int}(h:MP p n f): ∀j,n+1≤j→f j=0:=fun j hj=>h.hi j hj
def tm (p:Int)(a b:Nat×(Nat→Int)):Nat×(Nat→Int):=(a.1+b.1,md p (conv a.2 b.2 (a.1+1)))
theorem aZ5 {p:Int}(u b:Nat→Int)(n m:Nat):conv (md p u) b n m%p=conv u b n m%p:=a75 (fun i j=>by show u i%p*b j%p=_;rw[emL]) n m
theorem bV9 {p:Int}(u b:Nat→Int)(n m:Nat):conv u (md p b) n m%p=conv u b n m%p:=a75 (fun i j=>by show u i*(b j%p)%p=_;rw[emR]) n m
theorem MP.tm {p:Int}{a b:Nat×(Nat→Int)}(hp:2≤p)(ha:MP p a.1 a.2)(hb:MP p b.1 b.2):MP p (M.tm p a b).1 (M.tm p a b).2:=by
 refine⟨?_,fun j hj=> ?_,fun j=>⟨Int.emod_nonneg _ (by omega),Int.emod_lt_of_pos _ (by omega)⟩⟩
 ·show conv a.2 b.2 (a.1+1) (a.1+b.1)%p=1
  rw[aZ0 hb.hi,ha.top,hb.top]
  exact Int.emod_eq_of_lt (by decide) (by omega)
 ·show conv a.2 b.2 (a.1+1) j%p=0
  have hj':a.1+b.1<j:=hj
  rw[jK (d:=b.1) hb.hi (a.1+1) j (by omega),Int.zero_emod]
theorem t9 {p:Int}{a b c:Nat×(Nat→Int)}(hb: ∀j,b.1<j→b.2 j=0):tm p a (tm p b c)=tm p (tm p a b) c:=by
 refine Prod.ext (Nat.add_assoc _ _ _).symm (funext fun m=> ?_)
 show conv a.2 (md p (conv b.2 c.2 (b.1+1))) (a.1+1) m%p=conv (md p (conv a.2 b.2 (a.1+1))) c.2 (a.1+b.1+1) m%p
 rw[bV9,aZ5,aB6 (V:=b.1+1) (fun j hj=>hb j hj) m (a.1+1)]
 rw[xG (u:=conv a.2 b.2 (a.1+1)) (b:=c.2) (U:=a.1+b.1+1) (a.1+1+(b.1+1)) (fun j h1 h2=>jK (d:=b.1) hb (a.1+1) j (by omega)) (by omega)]
theorem a76 {p:Int}{a b:Nat×(Nat→Int)}(ha: ∀j,a.1<j→a.2 j=0)(hb: ∀j,b.1<j→b.2 j=0):tm p a b=tm p b a:=by
 refine Prod.ext (Nat.add_comm _ _) (funext fun m=> ?_)
 show conv a.2 b.2 (a.1+1) m%p=conv b.2 a.2 (b.1+1) m%p
 rw[aM7 (U:=a.1+1) (V:=b.1+1) (fun j hj=>ha j hj) (fun j hj=>hb j hj)]
def mW:Nat×(Nat→Int):=(0,fun j=>if j=0 then 1 else 0)
theorem MP.one {p:Int}(hp:2≤p):MP p mW.1 mW.2:=⟨rfl,fun j hj=>if_neg (by have:0<j:=hj;omega),fun j=>by show 0≤(if j=0 then(1:Int)else 0)∧(if j=0 then(1:Int)else 0)<p;split<;>omega⟩
theorem bW0 {p:Int}{a:Nat×(Nat→Int)}(ha:MP p a.1 a.2):tm p mW a=a:=by
 refine Prod.ext (Nat.zero_add _) (funext fun m=> ?_)
 show(0+(if(0:Nat)=0 then(1:Int)else 0)*shF a.2 0 m)%p=a.2 m
 rw[if_pos rfl,Int.one_mul,Int.zero_add]
 unfold shF
 rw[if_pos (Nat.zero_le _),Nat.sub_zero]
 exact Int.emod_eq_of_lt (ha.rng m).1 (ha.rng m).2
def nN (c:Int):Nat×(Nat→Int):=(1,fun j=>if j=0 then c else if j=1 then 1 else 0)
theorem MP.lin {p c:Int}(hp:2≤p)(h0:0≤c)(h1:c<p):MP p (nN c).1 (nN c).2:=⟨rfl,fun j hj=>by
  have:1<j:=hj
  show(if j=0 then c else if j=1 then 1 else 0)=0
  rw[if_neg (by omega),if_neg (by omega)],fun j=>by
  show 0≤(if j=0 then c else if j=1 then 1 else 0)∧(if j=0 then c else if j=1 then 1 else 0)<p
  split
  ·omega
  ·split<;>omega⟩
def va (p:Int)(a:Nat×(Nat→Int))(z:Int):Int:=ps a.2 z (a.1+1)%p
theorem cF8 (p:Int)(f:Nat→Int)(z:Int): ∀n,ps (md p f) z n%p=ps f z n%p
 | 0=>rfl
 | n+1=>by
  show(ps (md p f) z n+f n%p*z^n)%p=(ps f z n+f n*z^n)%p
  rw[Int.add_emod,cF8 p f z n,emL,←Int.add_emod]
theorem va_tm {p:Int}{a b:Nat×(Nat→Int)}(hb: ∀j,b.1<j→b.2 j=0)(z:Int):va p (tm p a b) z=va p a z*va p b z%p:=by
 show ps (md p (conv a.2 b.2 (a.1+1))) z (a.1+b.1+1)%p=ps a.2 z (a.1+1)%p*(ps b.2 z (b.1+1)%p)%p
 rw[cF8,←Int.mul_emod]
 have h:=bD1 (u:=a.2) (b:=b.2) (z:=z) (V:=b.1+1) (fun j hj=>hb j hj) (a.1+1) (a.1+1+(b.1+1)) (Nat.le_refl _)
 rw[←h,aT1 (n:=a.1+b.1+1) (a.1+1+(b.1+1)) (by omega) (fun j h1 h2=>jK (d:=b.1) hb (a.1+1) j (by omega))]
def hqA (c:Int)(f:Nat→Int)(n:Nat):Nat→Int
 | 0=>f n
 | k+1=>f (n-1-k)-c*hqA c f n k
def hq (c:Int)(f:Nat→Int)(n:Nat):Nat→Int:=fun j=>if j<n then hqA c f n (n-1-j)else 0
theorem bD3 {c:Int}{f:Nat→Int}{n:Nat}(hf: ∀j,n<j→f j=0)(j:Nat)(hj:1≤j):f j=hq c f n (j-1)+c*hq c f n j:=by
 unfold hq
 by_cases h1:j<n
 ·rw[if_pos (show j-1<n by omega),if_pos h1,show n-1-(j-1)=(n-1-j)+1 by omega]
  show f j=f (n-1-(n-1-j))-c*hqA c f n (n-1-j)+c*hqA c f n (n-1-j)
  rw[show n-1-(n-1-j)=j by omega]
  omega
 ·by_cases h2:j=n
  ·subst h2
   rw[if_pos (show j-1<j by omega),if_neg h1,show j-1-(j-1)=0 by omega,Int.mul_zero,Int.add_zero]
   rfl
  ·rw[if_neg (show ¬j-1<n by omega),if_neg h1,hf j (by omega),Int.mul_zero]
   rfl
theorem cF9 {c:Int}{f:Nat→Int}{n:Nat}(hf: ∀j,n<j→f j=0): ∀m,ps f (-c) (m+1)=f 0-c*hq c f n 0+c*hq c f n m*(-c)^m
 | 0=>by
  show 0+f 0*(-c)^0=_
  rw[Int.pow_zero,Int.mul_one,Int.mul_one]
  omega
 | m+1=>by
  show ps f (-c) (m+1)+f (m+1)*(-c)^(m+1)=_
  rw[cF9 hf m,bD3 (c:=c) hf (m+1) (by omega),Nat.add_sub_cancel,Int.pow_succ]
  grind
theorem hq_at {c:Int}{f:Nat→Int}{n:Nat}(hf: ∀j,n<j→f j=0):ps f (-c) (n+1)=f 0-c*hq c f n 0:=by
 rw[cF9 hf n]
 have:hq c f n n=0:=by unfold hq;rw[if_neg (Nat.lt_irrefl _)]
 rw[this,Int.mul_zero,Int.zero_mul,Int.add_zero]
theorem bW1 {u:Nat→Int}{n:Nat}(c:Int)(hu: ∀j,n≤j→u j=0)(m:Nat):conv u (nN c).2 n m=c*u m+(if m=0 then 0 else u (m-1)):=by
 have e:(nN c).2=fun j=>(if j=0 then c else 0)+(if j=1 then 1 else 0):=funext fun j=>by
  show(if j=0 then c else if j=1 then 1 else 0)=_
  by_cases h0:j=0
  ·subst h0;simp
  ·rw[if_neg h0,if_neg h0,Int.zero_add]
 rw[e,yQ u (fun j=>if j=0 then c else 0) (fun j=>if j=1 then 1 else 0),xI c 0 hu,xI 1 1 hu,Int.one_mul]
 unfold shF
 rw[if_pos (Nat.zero_le _),Nat.sub_zero]
 congr 1
 by_cases h0:m=0
 ·rw[if_pos h0,if_neg (by omega)]
 ·rw[if_neg h0,if_pos (by omega)]
theorem cB2 {c:Int}{f:Nat→Int}{n:Nat}(hf: ∀j,n<j→f j=0)(m:Nat):f m=conv (hq c f n) (nN c).2 n m+(if m=0 then f 0-c*hq c f n 0 else 0):=by
 rw[bW1 c (fun j hj=>by unfold hq;rw[if_neg (by omega)])]
 by_cases h0:m=0
 ·subst h0;rw[if_pos rfl,if_pos rfl];omega
 ·rw[if_neg h0,if_neg h0,bD3 (c:=c) hf m (by omega)];omega
def powT (p:Int)(a g:Nat×(Nat→Int)):Nat→Nat×(Nat→Int)
 | 0=>a
 | k+1=>tm p (powT p a g k) g
theorem MP.powT {p:Int}{a g:Nat×(Nat→Int)}(hp:2≤p)(ha:MP p a.1 a.2)(hg:MP p g.1 g.2): ∀k,MP p (M.powT p a g k).1 (M.powT p a g k).2
 | 0=>ha
 | k+1=>MP.tm hp (MP.powT hp ha hg k) hg
theorem xJ (p:Int)(a g:Nat×(Nat→Int)): ∀k,(powT p a g k).1=a.1+g.1*k
 | 0=>rfl
 | k+1=>by
  show(powT p a g k).1+g.1=_
  rw[xJ p a g k,Nat.mul_succ,Nat.add_assoc]
def allT (p:Int)(a:Nat×(Nat→Int)):List ((Nat×(Nat→Int))×Nat)→Nat×(Nat→Int)
 | []=>a
 | x::l=>allT p (powT p a x.1 x.2) l
theorem oG (p:Int): ∀(l m:List ((Nat×(Nat→Int))×Nat)) (a:Nat×(Nat→Int)),allT p a (l++m)=allT p (allT p a l) m
 | [],m,a=>rfl
 | x::l,m,a=>oG p l m _
theorem MP.allT {p:Int}(hp:2≤p): ∀(l:List ((Nat×(Nat→Int))×Nat)) {a:Nat×(Nat→Int)},MP p a.1 a.2→(∀x∈l,MP p x.1.1 x.1.2)→MP p (M.allT p a l).1 (M.allT p a l).2
 | [],a,ha,_=>ha
 | x::l,a,ha,h=>MP.allT hp l (MP.powT hp ha (h x (.head _)) x.2) fun y hy=>h y (.tail _ hy)
theorem aZ6 (p:Int): ∀(l:List ((Nat×(Nat→Int))×Nat)) (a:Nat×(Nat→Int)) (x:(Nat×(Nat→Int))×Nat),x∈l→a.1+x.1.1*x.2≤(allT p a l).1
 | y::l,a,x,hx=>by
  show _≤(allT p (powT p a y.1 y.2) l).1
  have mono: ∀(l:List ((Nat×(Nat→Int))×Nat)) (a:Nat×(Nat→Int)),a.1≤(allT p a l).1:=by
   intro l
   induction l with
   | nil=>intro a;exact Nat.le_refl _
   | cons z l ih=>intro a;exact Nat.le_trans (by rw[xJ];omega) (ih (powT p a z.1 z.2))
  rcases List.mem_cons.mp hx with rfl|hx
  ·have:=mono l (powT p a x.1 x.2)
   rw[xJ]at this
   exact this
  ·have:=aZ6 p l (powT p a y.1 y.2) x hx
   rw[xJ]at this
   omega
def tD (x:(Nat×(Nat→Int))×Nat):D:= .tup [aN (rwF (x.1.1+1) x.1.2),.int (x.2:Int)]
def lnP (x:Int×Nat):(Nat×(Nat→Int))×Nat:=(nN x.1,x.2)
structure LK (p:Int)(F:Nat×(Nat→Int))(C:Nat)(cs:List (Int×Nat))(L:Nat×(Nat→Int)):Prop where
 prod:F=tm p (allT p mW (cs.map lnP)) L
 mp:MP p L.1 L.2
 asc:cs.Pairwise fun a b=>a.1<b.1
 mem: ∀x∈cs,0≤x.1∧x.1< (C:Int)∧1≤x.2
 nr: ∀c:Nat,c<C→va p L (-(c:Int))≠0
 len:cs.length≤C
theorem bD4 {p:Int}(hp:2≤p){cs:List (Int×Nat)}(h: ∀x∈cs,0≤x.1∧x.1<p): ∀y∈cs.map lnP,MP p y.1.1 y.1.2:=by
 intro y hy
 obtain⟨x,hx,rfl⟩:=List.mem_map.mp hy
 exact MP.lin hp (h x hx).1 (h x hx).2
def iI:Φ:=fun ds Q=> ∃(n:Nat) (f:Nat→Int) (p:Int),ds=[aN (rwF (n+1) f),.int p]∧n≤40∧Pr p∧MP p n f∧ ∀cs L,LK p (n,f) p.toNat cs L→Q (.pu (.tup [.lst (cs.map fun x=>tD (lnP x)),aN (rwF (L.1+1) L.2)]))
def sK:US:=(cC (gW (aD (aG 2) (aD (aG 3) aK))))
def sL:US:=(aQ (i7 (eJ (aD (aG 1) aK)) (bO 4) (aQ (bK 5 (uC (.int 0))) (aQ (aP7 (cN (uOp (gH false) (uOp jQ (aM gY (aD (aG 3) (aD (lD (aG 4)) aK))) (aG 1)) (uC (.int 0)))) (aQ (bK 3 (uIx (uV (aM hZ (aD (aG 3) (aD (gW (aD (aG 4) (aD (uC (.int 1)) aK))) (aD (aG 1) aK))))) (uC (.int 0)))) (b52 5 (gI2 fun i j Q=>Q (.pu (.int (i+j)))) (uC (.int 1))))) (eG (cN (uOp (nF fun i j=>decide (j<i)) (aG 5) (uC (.int 0)))) (yB 2 (gW (aD (gW (aD (aG 4) (aD (uC (.int 1)) aK))) (aD (aG 5) aK)))) cM)))) sK)
def sM:US:=(aQ (bK 3 (aG 0)) sL)
def nO:US:=(aQ (bK 2 (i6 aK)) sM)
theorem a53: ∀ds Q,iI ds Q→ds.length=2:=by rintro ds Q ⟨n,f,p,rfl,_⟩;rfl
theorem bW2 {p:Int}(pp:Pr p){L:Nat×(Nat→Int)}(mp:MP p L.1 L.2){c:Int}(c0:0≤c)(c1:c<p)(hz:va p L (-c)=0){t:Int}(ht:t*md p (nN c).2 1%p=1)(t0:0≤t)(t1:t<p) :
  1≤L.1∧ ∃u:Nat→Int,MP p (L.1-1) u∧L=tm p (L.1-1,u) (nN c)∧
   (let b:=fun j=>t*md p (nN c).2 j%p
    let LA:=eB (md p L.2) (L.1+1)
    let q:=divQ b 1 (LA-1) (md p L.2)
    rwF (eB (fun j=>t*q j%p) (eB q (LA-1))) (fun j=>t*q j%p)=rwF L.1 u):=by
 have p2:=pp.lo
 have mdL:md p L.2=L.2:=funext fun j=>Int.emod_eq_of_lt (mp.rng j).1 (mp.rng j).2
 have ml:=MP.lin p2 c0 c1
 have mdG:md p (nN c).2=(nN c).2:=funext fun j=>Int.emod_eq_of_lt (ml.rng j).1 (ml.rng j).2
 have l1:1≤L.1:=by
  refine Nat.pos_of_ne_zero fun z=> ?_
  unfold va at hz
  rw[z]at hz
  have e:ps L.2 (-c) (0+1)=L.2 0*(-c)^0:=by show 0+L.2 0*(-c)^0=_;omega
  have e2:L.2 0=1:=by have:=mp.top;rw[z]at this;exact this
  rw[e,e2,Int.pow_zero,Int.mul_one,Int.emod_eq_of_lt (by decide) (by omega)]at hz
  cases hz
 have r0:(L.2 0-c*hq c L.2 L.1 0)%p=0:=by rw[←hq_at mp.hi];exact hz
 have fm: ∀m,L.2 m=conv (md p (hq c L.2 L.1)) (nN c).2 L.1 m%p:=fun m=>by
  have h:=cB2 (c:=c) mp.hi m
  rw[aZ5]
  have e:L.2 m%p=L.2 m:=Int.emod_eq_of_lt (mp.rng m).1 (mp.rng m).2
  rw[←e]
  conv=>lhs;rw[h]
  by_cases h0:m=0
  ·rw[if_pos h0,Int.add_emod,r0,Int.add_zero,Int.emod_emod]
  ·rw[if_neg h0,Int.add_zero]
 have ut:md p (hq c L.2 L.1) (L.1-1)=1:=by
  show hq c L.2 L.1 (L.1-1)%p=1
  unfold hq
  rw[if_pos (by omega),Nat.sub_self]
  show L.2 L.1%p=1
  rw[mp.top]
  exact Int.emod_eq_of_lt (by decide) (by omega)
 have uz: ∀j,L.1≤j→md p (hq c L.2 L.1) j=0:=fun j hj=>by
  show hq c L.2 L.1 j%p=0
  unfold hq
  rw[if_neg (by omega),Int.zero_emod]
 have ur: ∀j,0≤md p (hq c L.2 L.1) j∧md p (hq c L.2 L.1) j<p:=fun j=>⟨Int.emod_nonneg _ (by omega),Int.emod_lt_of_pos _ (by omega)⟩
 refine⟨l1,md p (hq c L.2 L.1),⟨ut,fun j hj=>uz j (by omega),ur⟩,?_,?_⟩
 ·refine Prod.ext (show L.1=L.1-1+1 by omega) (funext fun m=> ?_)
  show L.2 m=conv (md p (hq c L.2 L.1)) (nN c).2 (L.1-1+1) m%p
  rw[show L.1-1+1=L.1 by omega]
  exact fm m
 ·have mm:=bV4 (p:=p) (t:=t) (B0:=md p (nN c).2) (u:=md p (hq c L.2 L.1)) (low:=fun _=>0) (A:=md p L.2) (d:=1) (U:=L.1) (n:=L.1+1) p2 (fun j hj=>by rw[mdG];exact ml.hi j hj) (.inr (by rw[ut];decide)) ur uz (fun _ _=>rfl) (fun _=>⟨by decide,by omega⟩) ht (fun m=>by rw[mdL,mdG,Int.add_zero];exact fm m) (Nat.le_refl _)
  obtain⟨_,e1,_,_⟩:=mm
  have eLA:eB (md p L.2) (L.1+1)=L.1+1:=mV (Nat.le_refl _) (fun m h1 h2=>by omega) (.inr (by rw[mdL,Nat.add_sub_cancel,mp.top];decide))
  rw[eLA]at e1⊢
  have eu:(fun j=>t*divQ (fun j=>t*md p (nN c).2 j%p) 1 (L.1+1-1) (md p L.2) j%p)=md p (hq c L.2 L.1):=funext e1
  dsimp only
  rw[eu]
  have eq:eB (divQ (fun j=>t*md p (nN c).2 j%p) 1 (L.1+1-1) (md p L.2)) (L.1+1-1)=L.1:=by
   rw[Nat.add_sub_cancel]
   refine mV (Nat.le_refl _) (fun m h1 h2=>by omega) (.inr fun z=> ?_)
   have h:=e1 (L.1-1)
   rw[Nat.add_sub_cancel]at h
   rw[z,Int.mul_zero,Int.zero_emod,ut]at h
   cases h
  rw[eq,mV (k:=L.1) (Nat.le_refl _) (fun m h1 h2=>by omega) (.inr (by rw[ut];decide))]
theorem bW3 {p:Int}{a b:Nat×(Nat→Int)}(hb: ∀j,b.1<j→b.2 j=0){z:Int}(h:va p (tm p a b) z≠0):va p a z≠0∧va p b z≠0:=by
 rw[va_tm hb]at h
 refine⟨fun e=>h ?_,fun e=>h ?_⟩
 ·rw[e,Int.zero_mul,Int.zero_emod]
 ·rw[e,Int.mul_zero,Int.zero_emod]
theorem bW4 {p:Int}(pp:Pr p){n:Nat}{f:Nat→Int}(h:MP p n f)(j:Nat):(f j).natAbs≤2^8:=by
 have h1:=h.rng j
 have h2:=pp.hi
 have:(2:Nat)^8=256:=rfl
 omega
theorem aB7: ∀ds Q,iI ds Q→nO {nx:=fun _=>Q (.pu .non),rt:=Q} (init ["f","p","a","l","c","o"] ds):=by
 rintro ds Q ⟨n,f,p,rfl,n4,pp,mp,h⟩
 have p2:=pp.lo
 have p3:=pp.hi
 unfold nO
 show(aQ _ _:US) _ [some (.pu (aN (rwF (n+1) f))),some (.pu (.int p)),none,none,none,none]
 rw[aO]
 walk_at "u"
 refine⟨by decide,?_⟩
 unfold sM
 rw[aO]
 walk_at "u"
 unfold sL
 rw[aO]
 refine bJ p.toNat (fun i=> .int (0+i)) [some (.pu (aN (rwF (n+1) f))),some (.pu (.int p)),some (.ow []),some (.pu (aN (rwF (n+1) f))),none,none] ?_
  (fun i ρ=> ∃(cs:List (Int×Nat)) (L:Nat×(Nat→Int)) (x y:Option B),ρ=[some (.pu (aN (rwF (n+1) f))),some (.pu (.int p)),some (.ow (cs.map fun x=>tD (lnP x))),some (.pu (aN (rwF (L.1+1) L.2))),x,y]∧LK p (n,f) i cs L)
  ⟨[],(n,f),none,none,rfl,(bW0 (p:=p) (a:=(n,f)) mp).symm,mp,.nil,(by simp),(by simp),Nat.le_refl _⟩ ?_ ?_
 ·intro Q' q
  walk_at "u"
  refine⟨⟨by omega,by omega⟩,?_⟩
  exact q
 ·rintro i ρ hi ⟨cs,L,x,y,rfl,lk⟩
  have hLn:L.1≤n:=by
   have:=congrArg Prod.fst lk.prod
   have e:n=(allT p mW (cs.map lnP)).1+L.1:=this
   omega
  have mcs:=bD4 p2 (cs:=cs) (fun x hx=>⟨(lk.mem x hx).1,by have:=(lk.mem x hx).2.1;omega⟩)
  have mA:=MP.allT p2 (cs.map lnP) (MP.one p2) mcs
  have mlin:=MP.lin p2 (c:=(i:Int)) (by omega) (by omega)
  rw[Int.zero_add]
  walk_at "u"
  refine⟨by simp,?_⟩
  refine⟨fun k ρ=> ∃(o:Nat) (L':Nat×(Nat→Int)),ρ=[some (.pu (aN (rwF (n+1) f))),some (.pu (.int p)),some (.ow (cs.map fun x=>tD (lnP x))),some (.pu (aN (rwF (L'.1+1) L'.2))),some (.pu (.int (i:Int))),some (.pu (.int (o:Int)))]∧k=L'.1∧L'.1≤n∧(n,f)=tm p (powT p (allT p mW (cs.map lnP)) (nN (i:Int)) o) L'∧MP p L'.1 L'.2∧ ∀c:Nat,c<i→va p L' (-(c:Int))≠0,⟨L.1,0,L,rfl,rfl,hLn,lk.prod,lk.mp,lk.nr⟩,?_⟩
  rintro k ρ ⟨o,L',rfl,rfl,hL',e,mp',nr⟩
  walk_at "u"
  refine⟨L'.1+1,8,8,L'.2,-(i:Int),rfl,⟨bW4 pp mp',by have:(2:Nat)^8=256:=rfl;omega,by omega,by decide,by omega⟩,?_⟩
  walk_at "u"
  refine⟨by omega,?_⟩
  rw[cF _ (by omega)]
  by_cases c:va p L' (-(i:Int))=0
  ·rw[if_pos (show ps L'.2 (-(i:Int)) (L'.1+1)%p=0 from c)]
   refine⟨by decide,L'.1+1,2,1,L'.2,(nN (i:Int)).2,p,rfl,by omega,by decide,pp,fun j hj=>mlin.hi j hj,by decide,fun j hj=>by show(nN (i:Int)).2 j%p=0;rw[mlin.hi j hj,Int.zero_emod],by show(1:Int)%p≠0;rw[Int.emod_eq_of_lt (by decide) (by omega)];decide,fun t ht t0 t1=> ?_⟩
   obtain⟨l1,u,mu,eu,er⟩:=bW2 pp mp' (c:=(i:Int)) (by omega) (by omega) c ht t0 t1
   dsimp only at er⊢
   rw[er,jT]
   dsimp only
   have eL:rwF L'.1 u=rwF (L'.1-1+1) u:=by rw[show L'.1-1+1=L'.1 by omega]
   rw[eL]
   refine⟨L'.1-1,by omega,o+1,(L'.1-1,u),by rw[Int.natCast_succ],rfl,by show L'.1-1≤n;omega,?_,mu,fun c' hc'=> ?_⟩
   ·show(n,f)=tm p (tm p (powT p (allT p mW (cs.map lnP)) (nN (i:Int)) o) (nN (i:Int))) (L'.1-1,u)
    rw[e]
    conv=>lhs;rw[eu]
    rw[a76 (a:=(L'.1-1,u)) (fun j hj=>mu.hi j hj) mlin.hi,t9 mlin.hi]
   ·have:=nr c' hc'
    rw[eu]at this
    exact(bW3 mlin.hi this).1
  ·rw[if_neg (show ¬ps L'.2 (-(i:Int)) (L'.1+1)%p=0 from c)]
   have nr': ∀c:Nat,c<i+1→va p L' (-(c:Int))≠0:=fun c' hc'=>by
    by_cases h1:c'<i
    ·exact nr c' h1
    ·rw[show c'=i by omega];exact c
   by_cases c2:(0:Int)< (o:Int)
   ·rw[if_pos c2]
    refine⟨by decide,by decide,?_,cs++[((i:Int),o)],L',_,_,by rw[List.map_append];rfl,?_,mp',?_,?_,nr',?_⟩
    ·rw[List.length_map]
     exact Nat.lt_of_le_of_lt lk.len (Nat.lt_of_lt_of_le hi (Nat.le_trans (show p.toNat≤200 by omega) (by decide)))
    ·rw[List.map_append,oG]
     exact e
    ·rw[List.pairwise_append]
     refine⟨lk.asc,List.pairwise_singleton _ _,fun a ha b hb=> ?_⟩
     rw[List.mem_singleton.mp hb]
     exact(lk.mem a ha).2.1
    ·intro z hz
     rcases List.mem_append.mp hz with hz|hz
     ·have:=lk.mem z hz
      exact⟨this.1,by omega,this.2.2⟩
     ·rw[List.mem_singleton.mp hz]
      exact⟨by show(0:Int)≤(i:Int);omega,by show(i:Int)< ((i+1:Nat):Int);omega,by show 1≤o;omega⟩
    ·rw[List.length_append]
     exact Nat.succ_le_succ lk.len
   ·rw[if_neg c2]
    have o0:o=0:=by omega
    subst o0
    exact⟨cs,L',_,_,rfl,e,mp',lk.asc,fun z hz=>⟨(lk.mem z hz).1,by have:=(lk.mem z hz).2.1;omega,(lk.mem z hz).2.2⟩,nr',Nat.le_succ_of_le lk.len⟩
 ·rintro ρ ⟨cs,L,x,y,rfl,lk⟩
  dsimp only
  unfold sK
  walk_at "u"
  exact⟨by decide,h cs L lk⟩
def quF (v u:Int):Nat×(Nat→Int):=(2,fun j=>if j=0 then v else if j=1 then u else if j=2 then 1 else 0)
theorem MP.qu {p v u:Int}(hp:2≤p)(v0:0≤v)(v1:v<p)(u0:0≤u)(u1:u<p):MP p (quF v u).1 (quF v u).2:=⟨rfl,fun j hj=>by
  have:2<j:=hj
  show(if j=0 then v else if j=1 then u else if j=2 then 1 else 0)=0
  rw[if_neg (by omega),if_neg (by omega),if_neg (by omega)],fun j=>by
  show 0≤(if j=0 then v else if j=1 then u else if j=2 then 1 else 0)∧(if j=0 then v else if j=1 then u else if j=2 then 1 else 0)<p
  split
  ·omega
  ·split
   ·omega
   ·split<;>omega⟩
theorem cB3 (v u w s:Int):conv (quF v u).2 (quF w s).2 3 0=v*w∧conv (quF v u).2 (quF w s).2 3 1=v*s+u*w∧conv (quF v u).2 (quF w s).2 3 2=v+u*s+w∧conv (quF v u).2 (quF w s).2 3 3=u+s:=by
 refine⟨?_,?_,?_,?_⟩<;>simp[conv,shF,quF]
theorem cG0 {p:Int}{f:Nat→Int}(mp:MP p 4 f){v u w s:Int}(m1:MP p (quF v u).1 (quF v u).2)(m2:MP p (quF w s).1 (quF w s).2)(hp:2≤p) :
  ((4,f):Nat×(Nat→Int))=tm p (quF v u) (quF w s)↔f 0=v*w%p∧f 1=(v*s+u*w)%p∧f 2=(v+u*s+w)%p∧f 3=(u+s)%p:=by
 obtain⟨e0,e1,e2,e3⟩:=cB3 v u w s
 have mt:=MP.tm hp m1 m2
 constructor
 ·intro e
  have h: ∀m,f m=conv (quF v u).2 (quF w s).2 3 m%p:=fun m=>congrFun (congrArg Prod.snd e) m
  exact⟨by rw[h 0,e0],by rw[h 1,e1],by rw[h 2,e2],by rw[h 3,e3]⟩
 ·rintro⟨h0,h1,h2,h3⟩
  refine Prod.ext rfl (funext fun m=> ?_)
  show f m=conv (quF v u).2 (quF w s).2 3 m%p
  match m with
  | 0=>rw[h0,e0]
  | 1=>rw[h1,e1]
  | 2=>rw[h2,e2]
  | 3=>rw[h3,e3]
  | 4=>exact mp.top.trans mt.top.symm
  | m+5=>exact(mp.hi _ (by omega)).trans (mt.hi (m+5) (show 2+2<m+5 by omega)).symm
def NoQ (p:Int)(F:Nat×(Nat→Int)):Prop:= ∀v u w s:Int,0≤v→v<p→0≤u→u<p→0≤w→w<p→0≤s→s<p→F≠tm p (quF v u) (quF w s)
def jA:Φ:=fun ds Q=> ∃(f:Nat→Int) (p:Int),ds=[aN (rwF 5 f),.int p]∧Pr p∧MP p 4 f∧
 (∀v u w s:Int,0≤v→v<p→0≤u→u<p→0≤w→w<p→0≤s→s<p→((4,f):Nat×(Nat→Int))=tm p (quF v u) (quF w s)→Q (.ow [aN [v,u,1],aN [w,s,1]]))∧(NoQ p (4,f)→Q (.ow []))
def qR:US:=(cC (i6 aK))
def mB:US:=(aQ (i7 (eJ (aD (aG 1) aK)) (bO 2) (aQ (bK 3 (uOp jQ (uOp M.gSub (uIx (aS 0) (uC (.int 3))) (aG 2)) (aG 1))) (aQ (bK 4 (uOp M.gSub (uIx (aS 0) (uC (.int 2))) (uOp dE (aG 2) (aG 3)))) (i7 (eJ (aD (aG 1) aK)) (bO 5) (aQ (bK 6 (uOp jQ (uOp M.gSub (aG 4) (aG 5)) (aG 1))) (eG (bH1 (cN (uOp (gH false) (uOp jQ (uOp dE (aG 5) (aG 6)) (aG 1)) (uIx (aS 0) (uC (.int 0))))) (cN (uOp (gH false) (uOp jQ (uOp eS (uOp dE (aG 2) (aG 6)) (uOp dE (aG 5) (aG 3))) (aG 1)) (uIx (aS 0) (uC (.int 1)))))) (cC (i6 (aD (gW (aD (aG 5) (aD (aG 2) (aD (uC (.int 1)) aK)))) (aD (gW (aD (aG 6) (aD (aG 3) (aD (uC (.int 1)) aK)))) aK)))) cM)))))) qR)
theorem yR: ∀ds Q,jA ds Q→ds.length=2:=by rintro ds Q ⟨f,p,rfl,_⟩;rfl
def bJ3 (p:Int)(f:Nat→Int)(u v:Int):Prop:=v*((f 2-u*((f 3-u)%p)-v)%p)%p=f 0∧(u*((f 2-u*((f 3-u)%p)-v)%p)+v*((f 3-u)%p))%p=f 1
theorem aZ7 {p a b x:Int}(h0:0≤a)(h1:a<p)(h:x=(a+b)%p):(x-b)%p=a:=by
 rw[h,Int.sub_emod,Int.emod_emod,←Int.sub_emod,Int.add_sub_cancel]
 exact Int.emod_eq_of_lt h0 h1
theorem a54: ∀ds Q,jA ds Q→mB {nx:=fun _=>Q (.pu .non),rt:=Q} (init ["f","p","u","s","t","v","w"] ds):=by
 rintro ds Q ⟨f,p,rfl,pp,mp,yes,no⟩
 have p2:=pp.lo
 have p3:=pp.hi
 have a0:atI ((rwF 5 f).map D.int) 0=some (.int (f 0)):=jZ (i:=0) (by decide)
 have a1:atI ((rwF 5 f).map D.int) 1=some (.int (f 1)):=jZ (i:=1) (by decide)
 have a2:atI ((rwF 5 f).map D.int) 2=some (.int (f 2)):=jZ (i:=2) (by decide)
 have a3:atI ((rwF 5 f).map D.int) 3=some (.int (f 3)):=jZ (i:=3) (by decide)
 unfold mB
 simp only[aN]
 show(aQ _ _:US) _ [some (.pu (.tup ((rwF 5 f).map .int))),some (.pu (.int p)),none,none,none,none,none]
 rw[aO]
 refine bJ p.toNat (fun i=> .int (0+i)) [some (.pu (.tup ((rwF 5 f).map .int))),some (.pu (.int p)),none,none,none,none,none] ?_
  (fun i ρ=> ∃x y z a b,ρ=[some (.pu (.tup ((rwF 5 f).map .int))),some (.pu (.int p)),x,y,z,a,b]∧ ∀u v:Nat,u<i→v<p.toNat→ ¬bJ3 p f (u:Int) (v:Int))
  ⟨none,none,none,none,none,rfl,fun u v hu=>by omega⟩ ?_ ?_
 ·intro Q' q
  walk_at "u"
  refine⟨⟨by omega,by omega⟩,?_⟩
  exact q
 ·rintro i ρ hi ⟨x,y,z,a,b,rfl,nh⟩
  rw[Int.zero_add]
  walk_at "u"
  rw[a3]
  dsimp only
  refine⟨by simp,by omega,?_⟩
  rw[cF _ (by omega),a2]
  dsimp only
  have s0:=Int.emod_nonneg (f 3-(i:Int)) (show p≠0 by omega)
  have s1:=Int.emod_lt_of_pos (f 3-(i:Int)) (show 0<p by omega)
  generalize hS:(f 3-(i:Int))%p=S at *
  refine⟨cmL (by omega) (by omega),?_⟩
  refine bJ p.toNat (fun i=> .int (0+i)) [some (.pu (.tup ((rwF 5 f).map .int))),some (.pu (.int p)),some (.pu (.int (i:Int))),some (.pu (.int S)),some (.pu (.int (f 2-(i:Int)*S))),a,b] ?_
   (fun j ρ=> ∃a b,ρ=[some (.pu (.tup ((rwF 5 f).map .int))),some (.pu (.int p)),some (.pu (.int (i:Int))),some (.pu (.int S)),some (.pu (.int (f 2-(i:Int)*S))),a,b]∧ ∀v:Nat,v<j→ ¬bJ3 p f (i:Int) (v:Int))
   ⟨a,b,rfl,fun v hv=>by omega⟩ ?_ ?_
  ·intro Q' q
   walk_at "u"
   refine⟨⟨by omega,by omega⟩,?_⟩
   exact q
  ·rintro j ρ hj ⟨a,b,rfl,nj⟩
   rw[Int.zero_add]
   walk_at "u"
   refine⟨by simp,by omega,?_⟩
   rw[cF _ (by omega)]
   have w0:=Int.emod_nonneg (f 2-(i:Int)*S-(j:Int)) (show p≠0 by omega)
   have w1:=Int.emod_lt_of_pos (f 2-(i:Int)*S-(j:Int)) (show 0<p by omega)
   generalize hW:(f 2-(i:Int)*S-(j:Int))%p=W at *
   refine⟨cmL (by omega) (by omega),by omega,?_⟩
   rw[cF _ (by omega),a0]
   dsimp only
   have step: ¬bJ3 p f (i:Int) (j:Int)→ ∃a b,[some (B.pu (.tup ((rwF 5 f).map .int))),some (.pu (.int p)),some (.pu (.int (i:Int))),some (.pu (.int S)),some (.pu (.int (f 2-(i:Int)*S))),some (.pu (.int (j:Int))),some (.pu (.int W))]=[some (.pu (.tup ((rwF 5 f).map .int))),some (.pu (.int p)),some (.pu (.int (i:Int))),some (.pu (.int S)),some (.pu (.int (f 2-(i:Int)*S))),a,b]∧ ∀v:Nat,v<j+1→ ¬bJ3 p f (i:Int) (v:Int):=fun nh'=>⟨_,_,rfl,fun v hv=>by
    by_cases h1:v<j
    ·exact nj v h1
    ·rw[show v=j by omega];exact nh'⟩
   by_cases c1:(j:Int)*W%p=f 0
   ·rw[if_pos c1]
    refine⟨cmL (by omega) (by omega),cmL (by omega) (by omega),by omega,?_⟩
    rw[cF _ (by omega),a1]
    dsimp only
    by_cases c2:((i:Int)*W+(j:Int)*S)%p=f 1
    ·rw[if_pos c2]
     refine⟨by decide,by decide,by decide,yes (j:Int) (i:Int) W S (by omega) (by omega) (by omega) (by omega) w0 w1 s0 s1 ((cG0 mp (MP.qu p2 (by omega) (by omega) (by omega) (by omega)) (MP.qu p2 w0 w1 s0 s1) p2).mpr ⟨c1.symm,by rw[←c2,Int.add_comm],?_,?_⟩)⟩
     ·rw[←hW,Int.add_emod,Int.emod_emod,←Int.add_emod]
      have:(j:Int)+(i:Int)*S+(f 2-(i:Int)*S-(j:Int))=f 2:=by omega
      rw[this]
      exact(Int.emod_eq_of_lt (mp.rng 2).1 (mp.rng 2).2).symm
     ·rw[←hS,Int.add_emod,Int.emod_emod,←Int.add_emod]
      have:(i:Int)+(f 3-(i:Int))=f 3:=by omega
      rw[this]
      exact(Int.emod_eq_of_lt (mp.rng 3).1 (mp.rng 3).2).symm
    ·rw[if_neg c2]
     exact step fun z=>c2 (by have:=z.2;unfold bJ3 at z;rw[hS,hW]at this;exact this)
   ·rw[if_neg c1]
    exact step fun z=>c1 (by have:=z.1;rw[hS,hW]at this;exact this)
  ·rintro ρ ⟨a,b,rfl,nj⟩
   refine⟨_,_,_,_,_,rfl,fun u v hu hv=> ?_⟩
   by_cases h1:u<i
   ·exact nh u v h1 hv
   ·rw[show u=i by omega];exact nj v hv
 ·rintro ρ ⟨x,y,z,a,b,rfl,nh⟩
  dsimp only
  unfold qR
  walk_at "u"
  refine⟨by decide,no ?_⟩
  intro v u w s v0 v1 u0 u1 w0 w1 s0 s1 e
  obtain⟨h0,h1,h2,h3⟩:=(cG0 mp (MP.qu p2 v0 v1 u0 u1) (MP.qu p2 w0 w1 s0 s1) p2).mp e
  obtain⟨v',rfl⟩: ∃v':Nat,v=(v':Int):=⟨v.toNat,by omega⟩
  obtain⟨u',rfl⟩: ∃u':Nat,u=(u':Int):=⟨u.toNat,by omega⟩
  refine nh u' v' (by omega) (by omega) ?_
  have es:(f 3-(u':Int))%p=s:=aZ7 s0 s1 (by rw[h3,Int.add_comm])
  have ew:(f 2-(u':Int)*s-(v':Int))%p=w:=by
   have:=aZ7 (x:=f 2) (b:=(v':Int)+(u':Int)*s) w0 w1 (by rw[h2,Int.add_comm w])
   rw[←this]
   congr 1
   omega
  unfold bJ3
  rw[es,ew]
  exact⟨h0.symm,by rw[h1,Int.add_comm]⟩
theorem at0 {a b:D}:atI [a,b] 0=some a:=bP (j:=0) rfl
theorem at1 {a b:D}:atI [a,b] 1=some b:=bP (j:=1) rfl
def NoR (p:Int)(F:Nat×(Nat→Int)):Prop:= ∀c:Nat,c<p.toNat→va p F (-(c:Int))≠0
def ltP (x y:(Nat×(Nat→Int))×Nat):Prop:=x.1.1<y.1.1∨(x.1.1=y.1.1∧ltL (rwF (x.1.1+1) x.1.2) (rwF (y.1.1+1) y.1.2)=true)
structure RL (p:Int)(F:Nat×(Nat→Int))(rs:List ((Nat×(Nat→Int))×Nat)):Prop where
 prod: ∀a:Nat×(Nat→Int),MP p a.1 a.2→allT p a rs=tm p a F
 mem: ∀x∈rs,MP p x.1.1 x.1.2∧2≤x.1.1∧x.1.1≤4∧1≤x.2∧x.2≤2∧NoR p x.1∧(x.1.1=4→NoQ p x.1)
 ord:rs.Pairwise ltP
 len:rs.length≤2
theorem cB4 {p:Int}(hp:2≤p){a:Nat×(Nat→Int)}(ha:MP p a.1 a.2):tm p a mW=a:=by
 rw[a76 ha.hi (MP.one hp).hi,bW0 ha]
theorem RL.single {p:Int}{F:Nat×(Nat→Int)}(mp:MP p F.1 F.2)(h2:2≤F.1)(h4:F.1≤4)(nr:NoR p F)(nq:F.1=4→NoQ p F):RL p F [(F,1)]:=
 ⟨fun a _=>rfl,fun x hx=>by rw[List.mem_singleton.mp hx];exact⟨mp,h2,h4,Nat.le_refl _,show 1≤2 by decide,nr,nq⟩,List.pairwise_singleton _ _,show 1≤2 by decide⟩
theorem row_lt {v u w s:Int}(h: ¬(v=w∧u=s)):ltL [w,s,1] [v,u,1]=false→ltL [v,u,1] [w,s,1]=true:=by
 unfold ltL
 by_cases c:v=w
 ·rw[if_pos c,if_pos c.symm]
  unfold ltL
  have:u≠s:=fun z=>h ⟨c,z⟩
  rw[if_neg this,if_neg (fun z=>this z.symm)]
  simp only[decide_eq_false_iff_not,decide_eq_true_eq]
  omega
 ·rw[if_neg c,if_neg (fun z=>c z.symm)]
  simp only[decide_eq_false_iff_not,decide_eq_true_eq]
  omega
def eQ:Φ:=fun ds Q=> ∃(n:Nat) (f:Nat→Int) (p:Int),ds=[aN (rwF (n+1) f),.int p]∧n≤4∧Pr p∧MP p n f∧NoR p (n,f)∧ ∀rs,RL p (n,f) rs→Q (.ow (rs.map tD))
def lJ:US:=(cC (dQ [] [none,none] 1 (eO (aM b67 (aD (aG 2) aK))) (bO 0) (fun ρ Q=>Q true ρ) (gW (aD (aG 0) (aD (uC (.int 1)) aK)))))
def lK:US:=(aQ (eG (cN (uOp (bI1 false) (uIx (aS 2) (uC (.int 0))) (uIx (aS 2) (uC (.int 1))))) (cC (i6 (aD (gW (aD (uIx (aS 2) (uC (.int 0))) (aD (uC (.int 2)) aK))) aK))) cM) lJ)
def fW:US:=(aQ (eG (cN (uOp (gH false) (iD (aS 2)) (uC (.int 0)))) (cC (i6 (aD (gW (aD (aG 0) (aD (uC (.int 1)) aK))) aK))) cM) lK)
def lL:US:=(aQ (bK 2 (uIf (cN (uOp (gH false) (iD (aS 0)) (uC (.int 5)))) (aM jA (aD (aG 0) (aD (aG 1) aK))) (i6 aK))) fW)
def iX:US:=(aQ (eG (cN (uOp (gH false) (iD (aS 0)) (uC (.int 1)))) (cC (i6 aK)) cM) lL)
theorem tE: ∀ds Q,eQ ds Q→ds.length=2:=by rintro ds Q ⟨n,f,p,rfl,_⟩;rfl
theorem bW5 {p:Int}(pp:Pr p){F:Nat×(Nat→Int)}(mp:MP p F.1 F.2)(h1:F.1=1)(nr:NoR p F):False:=by
 have p2:=pp.lo
 have r:=mp.rng 0
 refine nr (F.2 0).toNat (by omega) ?_
 unfold va
 rw[h1,show(((F.2 0).toNat:Nat):Int)=F.2 0 by omega]
 have t:F.2 1=1:=by have:=mp.top;rw[h1]at this;exact this
 show(0+F.2 0*(-F.2 0)^0+F.2 1*(-F.2 0)^1)%p=0
 rw[t,Int.pow_zero,Int.pow_succ,Int.pow_zero]
 have:0+F.2 0*1+1*(1* -F.2 0)=0:=by omega
 rw[this,Int.zero_emod]
theorem v7: ∀ds Q,eQ ds Q→iX {nx:=fun _=>Q (.pu .non),rt:=Q} (init ["f","p","a"] ds):=by
 rintro ds Q ⟨n,f,p,rfl,n4,pp,mp,nr,h⟩
 have p2:=pp.lo
 unfold iX
 simp only[aN]
 show(aQ _ _:US) _ [some (.pu (.tup ((rwF (n+1) f).map .int))),some (.pu (.int p)),none]
 rw[aO]
 walk_at "u"
 rw[bS]
 by_cases n0:n=0
 ·rw[if_pos (by omega)]
  subst n0
  refine⟨by decide,h [] ⟨fun a ha=> ?_,by simp,.nil,by decide⟩⟩
  have e:((0,f):Nat×(Nat→Int))=mW:=Prod.ext rfl (funext fun j=>by
   show f j=if j=0 then 1 else 0
   by_cases c:j=0
   ·rw[if_pos c,c];exact mp.top
   ·rw[if_neg c];exact mp.hi j (by omega))
  rw[e,cB4 p2 ha]
  rfl
 rw[if_neg (by omega)]
 have n1:n≠1:=fun z=>bW5 pp (F:=(n,f)) mp z nr
 have alone:(n=4→NoQ p (n,f))→fW {nx:=fun _=>Q (.pu .non),rt:=Q} [some (.pu (.tup ((rwF (n+1) f).map .int))),some (.pu (.int p)),some (.ow [])]:=fun nq=>by
  unfold fW
  rw[aO]
  walk_at "u"
  rw[if_pos (by rfl)]
  exact⟨by decide,by decide,h [((n,f),1)] (RL.single mp (by show 2≤n;omega) n4 nr nq)⟩
 unfold lL
 rw[aO]
 walk_at "u"
 simp only[uIf,iD,aS,aK2,uC,isB,B.d,jR,gH,List.getElem?_cons_zero,bS]
 by_cases c:n=4
 ·subst c
  rw[if_pos (by rfl)]
  refine⟨f,p,rfl,pp,mp,fun v u w s v0 v1 u0 u1 w0 w1 s0 s1 e=> ?_,fun nq=> ?_⟩
  ·have m1:=MP.qu p2 v0 v1 u0 u1
   have m2:=MP.qu p2 w0 w1 s0 s1
   have k1:NoR p (quF v u):=fun c hc=>by have:=nr c hc;rw[e]at this;exact(bW3 m2.hi this).1
   have k2:NoR p (quF w s):=fun c hc=>by have:=nr c hc;rw[e]at this;exact(bW3 m2.hi this).2
   dsimp only
   simp only[aN]
   unfold fW
   rw[aO]
   walk_at "u"
   rw[if_neg (by decide)]
   unfold lK
   rw[aO]
   walk_at "u"
   rw[at0,at1]
   dsimp only
   refine bV1 ?_
   by_cases c:[v,u,(1:Int)]=[w,s,1]
   ·have c1:v=w:=by simp at c;exact c.1
    have c2:u=s:=by simp at c;exact c.2
    subst c1 c2
    rw[decide_eq_true rfl]
    dsimp only
    rw[if_pos (by decide)]
    refine⟨by decide,by decide,h [(quF v u,2)] ⟨fun a ha=> ?_,fun x hx=> ?_,List.pairwise_singleton _ _,show 1≤2 by decide⟩⟩
    ·show tm p (tm p a (quF v u)) (quF v u)=tm p a (4,f)
     rw[e,t9 m1.hi]
    ·rw[List.mem_singleton.mp hx]
     exact⟨m1,Nat.le_refl _,show 2≤4 by decide,show 1≤2 by decide,Nat.le_refl _,k1,fun z=>by cases z⟩
   ·rw[decide_eq_false c]
    dsimp only
    rw[if_neg (by decide)]
    have nc: ¬(v=w∧u=s):=fun z=>c (by rw[z.1,z.2])
    unfold lJ
    rw[fU]
    have fin2: ∀(v u w s:Int),MP p (quF v u).1 (quF v u).2→MP p (quF w s).1 (quF w s).2→NoR p (quF v u)→NoR p (quF w s)→((4,f):Nat×(Nat→Int))=tm p (quF v u) (quF w s)→ltL [v,u,1] [w,s,1]=true→Q (.ow [.tup [.tup ([v,u,1].map D.int),.int 1],.tup [.tup ([w,s,1].map D.int),.int 1]]):=fun v u w s m1 m2 k1 k2 e lt=>by
     refine h [(quF v u,1),(quF w s,1)] ⟨fun a ha=> ?_,fun x hx=> ?_,?_,Nat.le_refl _⟩
     ·show tm p (tm p a (quF v u)) (quF w s)=tm p a (4,f)
      rw[e,t9 m1.hi]
     ·rcases List.mem_cons.mp hx with rfl|hx
      ·exact⟨m1,Nat.le_refl _,show 2≤4 by decide,Nat.le_refl _,show 1≤2 by decide,k1,fun z=>by cases z⟩
      ·rw[List.mem_singleton.mp hx]
       exact⟨m2,Nat.le_refl _,show 2≤4 by decide,Nat.le_refl _,show 1≤2 by decide,k2,fun z=>by cases z⟩
     ·refine List.pairwise_cons.mpr ⟨fun y hy=> ?_,List.pairwise_singleton _ _⟩
      rw[List.mem_singleton.mp hy]
      exact .inr ⟨rfl,lt⟩
    refine dA (t0:=0) 2 (fun k=>(if ltL [w,s,1] [v,u,1]=true then [D.tup ([w,s,1].map D.int),.tup ([v,u,1].map D.int)]else [.tup ([v,u,1].map D.int),.tup ([w,s,1].map D.int)]).getD k .non) [some (.pu (.tup ((rwF (4+1) f).map .int))),some (.pu (.int p)),some (.pu (.lst [.tup ([v,u,1].map D.int),.tup ([w,s,1].map D.int)]))] ?_ (by decide) (fun x l'=>[x,some (.ow l')]) none rfl (fun _ _ _=>rfl) (fun _ _=>Nat.zero_lt_succ _) (fun _ _ _ q=>q) (fun _ _ _=>rfl)
     (fun k=> .tup [(if ltL [w,s,1] [v,u,1]=true then [D.tup ([w,s,1].map D.int),.tup ([v,u,1].map D.int)]else [.tup ([v,u,1].map D.int),.tup ([w,s,1].map D.int)]).getD k .non,.int 1]) ?_ ?_
    ·intro Q' q
     walk_at "u"
     refine⟨v,w,[u,1],[s,1],rfl,?_⟩
     cases l:ltL [w,s,1] [v,u,1]
     ·rw[l]at q;exact q
     ·rw[l]at q;exact q
    ·intro k l' Q' hk q
     walk_at "u"
     exact⟨by decide,q⟩
    ·cases l:ltL [w,s,1] [v,u,1]
     ·exact fin2 v u w s m1 m2 k1 k2 e (row_lt nc l)
     ·exact fin2 w s v u m2 m1 k2 k1 (by rw[e,a76 m1.hi m2.hi]) l
  ·exact alone fun _=>nq
 ·rw[if_neg (by simp;omega)]
  refine⟨by decide,?_⟩
  exact alone fun z=>absurd z c
structure SP (p:Int)(F:Nat×(Nat→Int))(xs:List ((Nat×(Nat→Int))×Nat)):Prop where
 prod:allT p mW xs=F
 mem: ∀x∈xs,MP p x.1.1 x.1.2∧1≤x.1.1∧x.1.1≤4∧1≤x.2∧x.2≤4∧(2≤x.1.1→NoR p x.1)∧(x.1.1=4→NoQ p x.1)
 ord:xs.Pairwise ltP
 len:xs.length≤300
theorem SP.of {p:Int}(pp:Pr p){F L:Nat×(Nat→Int)}{cs:List (Int×Nat)}{rs:List ((Nat×(Nat→Int))×Nat)}(h4:F.1≤4)(lk:LK p F p.toNat cs L)(rl:RL p L rs):SP p F (cs.map lnP++rs):=by
 have p2:=pp.lo
 have p3:=pp.hi
 have rg: ∀x∈cs,0≤x.1∧x.1<p:=fun x hx=>⟨(lk.mem x hx).1,by have:=(lk.mem x hx).2.1;omega⟩
 have mcs:=bD4 p2 rg
 have mA:=MP.allT p2 (cs.map lnP) (MP.one p2) mcs
 refine⟨by rw[oG,rl.prod _ mA];exact lk.prod.symm,fun x hx=> ?_,?_,?_⟩
 ·rcases List.mem_append.mp hx with hx|hx
  ·obtain⟨y,hy,rfl⟩:=List.mem_map.mp hx
   have hd:=aZ6 p (cs.map lnP) mW (lnP y) hx
   have e:F.1=(allT p mW (cs.map lnP)).1+L.1:=congrArg Prod.fst lk.prod
   have hd':0+1*y.2≤(allT p mW (cs.map lnP)).1:=hd
   refine⟨mcs _ hx,Nat.le_refl _,show 1≤4 by decide,(lk.mem y hy).2.2,show y.2≤4 by omega,fun z=> ?_,fun z=> ?_⟩
   ·have:2≤1:=z
    omega
   ·have:1=4:=z
    omega
  ·obtain⟨a,b,c,d,e,f,g⟩:=rl.mem x hx
   exact⟨a,by omega,c,d,by omega,fun _=>f,g⟩
 ·rw[List.pairwise_append]
  refine⟨?_,rl.ord,fun x hx y hy=> ?_⟩
  ·rw[List.pairwise_map]
   refine lk.asc.imp fun {a b} h=> .inr ⟨rfl,?_⟩
   show ltL [a.1,1] [b.1,1]=true
   unfold ltL
   rw[if_neg (by omega),decide_eq_true h]
  ·obtain⟨z,hz,rfl⟩:=List.mem_map.mp hx
   have:=(rl.mem y hy).2.1
   exact .inl (show 1<y.1.1 by omega)
 ·have a:=lk.len
  have b:=rl.len
  rw[List.length_append,List.length_map]
  omega
def j4:Φ:=fun ds Q=> ∃(n:Nat) (g:Nat→Int) (p:Int),ds=[aN (rwF (n+1) g),.int p]∧n≤4∧p∈prL∧MP p n (md p g)∧ ∀xs,SP p (n,md p g) xs→Q (.ow (xs.map tD))
def tF:US:=(cC (uOp eS (aG 2) (aM eQ (aD (aG 3) (aD (aG 1) aK)))))
def tG:US:=(aQ (bQ1 (aM iI (aD (aM cX (aD (aG 0) (aD (aG 1) aK))) (aD (aG 1) aK))) (sH (fN 2 (fN 3 sG)))) tF)
def oZ:US:=(aQ (eG (cN (uOp (gIn true) (aG 1) (aM dM aK))) (fun _ _=>False) cM) tG)
theorem aB8: ∀ds Q,j4 ds Q→ds.length=2:=by rintro ds Q ⟨n,f,p,rfl,_⟩;rfl
theorem aG9: ∀ds Q,j4 ds Q→oZ {nx:=fun _=>Q (.pu .non),rt:=Q} (init ["f","p","a","l"] ds):=by
 rintro ds Q ⟨n,g,p,rfl,n4,hp,mp,h⟩
 have pp:=yP hp
 have p2:=pp.lo
 unfold oZ
 show(aQ _ _:US) _ [some (.pu (aN (rwF (n+1) g))),some (.pu (.int p)),none,none]
 rw[aO]
 walk_at "u"
 refine⟨rfl,p,T_SMALL_PRIMES,rfl,.inr (.inl rfl),?_⟩
 rw[decide_eq_true (show p∈T_SMALL_PRIMES by rw[←bV5];exact hp)]
 dsimp only
 rw[if_neg (by decide)]
 unfold tG
 rw[aO]
 walk_at "u"
 refine⟨n+1,g,p,rfl,by omega,by omega,?_⟩
 walk_at "u"
 have e:eB (md p g) (n+1)=n+1:=mV (Nat.le_refl _) (fun m h1 h2=>by omega) (.inr (by rw[Nat.add_sub_cancel,mp.top];decide))
 rw[e]
 refine⟨n,md p g,p,rfl,by omega,pp,mp,fun cs L lk=> ?_⟩
 walk_at "u"
 refine⟨by decide,by decide,trivial,?_⟩
 unfold tF
 rw[fU,aS8]
 walk_at "u"
 have hL:L.1≤4:=by
  have e:n=(allT p mW (cs.map lnP)).1+L.1:=congrArg Prod.fst lk.prod
  omega
 refine⟨L.1,L.2,p,rfl,hL,pp,lk.mp,lk.nr,fun rs rl=> ?_⟩
 have sp:=SP.of pp (F:=(n,md p g)) n4 lk rl
 have e2:(cs.map fun x=>tD (lnP x))++rs.map tD=(cs.map lnP++rs).map tD:=by rw[List.map_append,List.map_map];rfl
 walk_at "u"
 rw[e2]
 refine⟨?_,h _ sp⟩
 rw[←List.length_append,e2,List.length_map]
 exact Nat.le_trans sp.len (by decide)
def stB (xs:List ((Nat×(Nat→Int))×Nat)):Bool:=match xs with
 | [x]=>decide (x.2=1)
 | _=>false
theorem aM8 {p:Int}(hp:2≤p){g a h:Nat×(Nat→Int)}(ma:MP p a.1 a.2)(mh:MP p h.1 h.2): ∀k,powT p (tm p g a) h k=tm p g (powT p a h k)
 | 0=>rfl
 | k+1=>by
  show tm p (powT p (tm p g a) h k) h=tm p g (tm p (powT p a h k) h)
  rw[aM8 hp ma mh k,t9 (MP.powT hp ma mh k).hi]
theorem aM9 {p:Int}(hp:2≤p){g:Nat×(Nat→Int)}: ∀(l:List ((Nat×(Nat→Int))×Nat)) {a:Nat×(Nat→Int)},MP p a.1 a.2→(∀x∈l,MP p x.1.1 x.1.2)→allT p (tm p g a) l=tm p g (allT p a l)
 | [],a,_,_=>rfl
 | x::l,a,ma,h=>by
  show allT p (powT p (tm p g a) x.1 x.2) l=tm p g (allT p (powT p a x.1 x.2) l)
  rw[aM8 hp ma (h x (.head _)),aM9 hp l (MP.powT hp ma (h x (.head _)) x.2) fun y hy=>h y (.tail _ hy)]
theorem mp_two {p:Int}{F:Nat×(Nat→Int)}(mp:MP p F.1 F.2)(h2:F.1=2):F=quF (F.2 0) (F.2 1):=by
 refine Prod.ext h2 (funext fun j=> ?_)
 show F.2 j=if j=0 then F.2 0 else if j=1 then F.2 1 else if j=2 then 1 else 0
 by_cases c0:j=0
 ·rw[if_pos c0,c0]
 ·by_cases c1:j=1
  ·rw[if_neg c0,if_pos c1,c1]
  ·by_cases c2:j=2
   ·rw[if_neg c0,if_neg c1,if_pos c2,c2]
    have:=mp.top
    rw[h2]at this
    exact this
   ·rw[if_neg c0,if_neg c1,if_neg c2]
    exact mp.hi j (by omega)
theorem cB5 {p:Int}(f:Nat→Int){z y:Int}(h:z%p=y%p): ∀n,ps f z n%p=ps f y n%p:=by
 have pw: ∀n,z^n%p=y^n%p:=by
  intro n
  induction n with
  | zero=>rw[Int.pow_zero,Int.pow_zero]
  | succ n ih=>rw[Int.pow_succ,Int.pow_succ,Int.mul_emod,ih,h,←Int.mul_emod]
 intro n
 induction n with
 | zero=>rfl
 | succ n ih=>
  show(ps f z n+f n*z^n)%p=(ps f y n+f n*y^n)%p
  rw[Int.add_emod,ih,Int.mul_emod,pw,←Int.mul_emod,←Int.add_emod]
theorem NoR.any {p:Int}(hp:2≤p){F:Nat×(Nat→Int)}(h:NoR p F)(z:Nat)(hz:z<p.toNat):ps F.2 (z:Int) (F.1+1)%p≠0:=by
 by_cases z0:z=0
 ·subst z0
  exact h 0 hz
 ·intro q
  refine h (p.toNat-z) (by omega) ?_
  unfold va
  rw[←q]
  refine cB5 F.2 ?_ _
  have e: -(((p.toNat-z:Nat)):Int)=(z:Int)+p*(-1):=by omega
  rw[e,Int.add_mul_emod_self_left]
theorem bW6 {p X r:Int}(h:X%p=r): ∃k,X=r+p*k:=⟨X/p,by rw[←h];exact(Int.emod_add_mul_ediv X p).symm⟩
theorem no_div {p:Int}(pp:Pr p){k:Int}(h2:2≤k)(h:k<p):1≤p%k:=by
 have h0:=Int.emod_nonneg p (show k≠0 by omega)
 refine Decidable.byContradiction fun z=> ?_
 obtain⟨m,hm⟩:=Int.dvd_of_emod_eq_zero (show p%k=0 by omega)
 obtain⟨t,ht⟩:=bW6 (pp.inv k (by omega) h)
 have h1:k*(aG6 k p (p.toNat-2)-m*t)=1:=by
  rw[Int.mul_sub,Int.mul_comm k,ht,←Int.mul_assoc,←hm]
  omega
 have h3:k∣1:=⟨_,h1.symm⟩
 have:=Int.le_of_dvd (by decide) h3
 omega
structure Bk (p:Int)(k:Nat)(B:Nat→Int):Prop where
 rng: ∀j,0≤B j∧B j<p
 inv: ∀j,1≤j→j<k→B j*(j:Int)%p=1
theorem Bk.step {p:Int}(pp:Pr p){k:Nat}(h2:2≤k)(hk:(k:Int)<p){B:Nat→Int}(b:Bk p k B):Bk p (k+1) (fun x=>if x=k then(p-p/(k:Int))*B (p%(k:Int)).toNat%p else B x):=by
 have p2:=pp.lo
 refine⟨fun j=> ?_,fun j j1 jk=> ?_⟩
 ·split
  ·exact⟨Int.emod_nonneg _ (by omega),Int.emod_lt_of_pos _ (by omega)⟩
  ·exact b.rng j
 ·by_cases c:j=k
  ·subst c
   rw[if_pos rfl]
   have r1:=no_div pp (k:=(j:Int)) (by omega) hk
   have r2:=Int.emod_lt_of_pos p (show(0:Int)< (j:Int)by omega)
   have iv:=b.inv (p%(j:Int)).toNat (by omega) (by omega)
   rw[show(((p%(j:Int)).toNat:Nat):Int)=p%(j:Int)by omega]at iv
   have dm:=Int.emod_add_mul_ediv p (j:Int)
   generalize p%(j:Int)=r at *
   generalize p/(j:Int)=q at *
   generalize B r.toNat=x at *
   obtain⟨t,ht⟩:=bW6 iv
   rw[emL]
   have e:(p-q)*x*(j:Int)=1+p*(t+x*(j:Int)-x):=by
    have:(p-q)*x*(j:Int)=x*r+p*(x*(j:Int)-x):=by
     have:(j:Int)*q=p-r:=by omega
     grind
    rw[this,ht]
    grind
   rw[e,Int.add_mul_emod_self_left]
   exact Int.emod_eq_of_lt (by decide) (by omega)
  ·rw[if_neg c]
   exact b.inv j j1 (by omega)
theorem aZ8 {js:List Nat}{cap:List (Option Nat)}{last t0 t1:Nat}{ui:UI}{te:UE}{ρ:Ev}{Q:B→Ev→Prop}(n:Nat)(it i1 i2:Nat→D)(hit: ∀i,i<n→it i= .tup [i1 i,i2 i])(ρ1:Ev)(hui: ∀Q:Nat→(Nat→D)→Ev→Prop,Q n it ρ1→ui ρ Q)(hn:n≤1000000)
  (G:Option B→Option B→List D→Ev) (x0 y0:Option B) (h0:mM (vY ρ1 js) cap last=G x0 y0 []) (h1: ∀x y l b c,((G x y l).set t0 (some b)).set t1 (some c)=G (some b) (some c) l) (h1': ∀x y l,t0< (G x y l).length∧t1< (G x y l).length)
  (h2: ∀x y l (Q:List D→Prop),Q l→mL (G x y l) last Q) (h3: ∀x y l l',(G x y l).set last (some (.ow l'))=G x y l')
  (f:Nat→D) (hte: ∀i l (Q':B→Ev→Prop),i<n→Q' (.pu (f i)) (G (some (.pu (i1 i))) (some (.pu (i2 i))) l)→te (G (some (.pu (i1 i))) (some (.pu (i2 i))) l) Q') (hq:Q (.ow ((List.range n).map f)) (vY ρ1 js)) :
  dQ js cap last ui (sH (fN t0 (fN t1 sG))) (fun ρ Q=>Q true ρ) te ρ Q:=by
 refine hui _ ⟨fun i ρ'=> ∃x y,ρ'=G x y ((List.range i).map f),⟨x0,y0,h0⟩,?_,?_⟩
 ·rintro i ρ' hi ⟨x,y,rfl⟩
  rw[hit i hi]
  refine⟨(h1' _ _ _).1,by rw[List.length_set];exact(h1' _ _ _).2,rfl,?_⟩
  rw[h1]
  dsimp only
  rw[if_pos rfl]
  refine hte i _ _ hi (h2 _ _ _ _ ⟨?_,some (.pu (i1 i)),some (.pu (i2 i)),?_⟩)
  ·rw[List.length_map,List.length_range]
   exact Nat.lt_of_lt_of_le hi (Nat.le_trans hn (by decide))
  ·rw[h3,List.range_succ,List.map_append]
   rfl
 ·rintro ρ' ⟨x,y,rfl⟩
  exact h2 _ _ _ _ hq
theorem aZ9 {js:List Nat}{cap:List (Option Nat)}{last t0:Nat}{ui:UI}{tt:UT}{te:UE}{ρ:Ev}{Q:B→Ev→Prop}(n:Nat)(it:Nat→D)(ρ1:Ev)(hui: ∀Q:Nat→(Nat→D)→Ev→Prop,Q n it ρ1→ui ρ Q)(hn:n≤1000)
  (G:Option B→List D→Ev) (x0:Option B) (h0:mM (vY ρ1 js) cap last=G x0 []) (h1: ∀x l b,(G x l).set t0 (some b)=G (some b) l) (h1': ∀x l,t0< (G x l).length) (h2: ∀x l (Q:List D→Prop),Q l→mL (G x l) last Q) (h3: ∀x l l',(G x l).set last (some (.ow l'))=G x l')
  (c:Nat→Bool) (P:D→Prop) (htt: ∀i l (Q':Bool→Ev→Prop),i<n→Q' (c i) (G (some (.pu (it i))) l)→tt (G (some (.pu (it i))) l) Q')
  (hte: ∀i l (Q':B→Ev→Prop),i<n→c i=true→(∀d,P d→Q' (.pu d) (G (some (.pu (it i))) l))→te (G (some (.pu (it i))) l) Q') (hq: ∀l:List D,l.length≤n→(∀d∈l,P d)→Q (.ow l) (vY ρ1 js)) :
  dQ js cap last ui (bO t0) tt te ρ Q:=by
 refine hui _ ⟨fun i ρ'=> ∃x l,l.length≤i∧(∀d∈l,P d)∧ρ'=G x l,⟨x0,[],Nat.le_refl _,by simp,h0⟩,?_,?_⟩
 ·rintro i ρ' hi ⟨x,l,hl,hP,rfl⟩
  refine⟨h1' _ _,?_⟩
  rw[h1]
  dsimp only
  refine htt i _ _ hi ?_
  by_cases hc:c i=true
  ·rw[if_pos hc]
   refine hte i _ _ hi hc fun d hd=>h2 _ _ _ ⟨?_,some (.pu (it i)),l++[d],?_,?_,?_⟩
   ·exact Nat.lt_of_le_of_lt hl (Nat.lt_of_lt_of_le hi (Nat.le_trans hn (by decide)))
   ·rw[List.length_append];exact Nat.succ_le_succ hl
   ·intro e he
    rcases List.mem_append.mp he with he|he
    ·exact hP e he
    ·have:e=d:=by simpa using he
     rw[this];exact hd
   ·rw[h3];rfl
  ·rw[if_neg hc]
   exact⟨some (.pu (it i)),l,Nat.le_succ_of_le hl,hP,rfl⟩
 ·rintro ρ' ⟨x,l,hl,hP,rfl⟩
  exact h2 _ _ _ (hq l hl hP)
def aB9 (n:Nat)(f:Nat→Int)(g:Nat×(Nat→Int)):List Int:=rwF (eB (divL g.2 g.1 (n+1-g.1) f) (n+1)) (divL g.2 g.1 (n+1-g.1) f)
def ptD (n:Nat)(f:Nat→Int)(x:(Nat×(Nat→Int))×Nat):D:= .tup [aN (rwF (x.1.1+1) x.1.2),.int (x.2:Int),aN (aB9 n f x.1)]
def j5:Φ:=fun ds Q=> ∃(n:Nat) (f:Nat→Int) (p:Int),ds=[aN (rwF (n+1) f),.int p]∧n≤4∧p∈prL∧MP p n (md p f)∧(∀j,(f j).natAbs≤2^9)∧ ∀xs,SP p (n,md p f) xs→Q (.ow (xs.map (ptD n f)))
def pA:US:=(cC (dQ [0] [none,none,some 0,none] 3 (eO (aM j4 (aD (aG 0) (aD (aG 1) aK)))) (sH (fN 0 (fN 1 sG))) (fun ρ Q=>Q true ρ) (gW (aD (aG 0) (aD (aG 1) (aD (uIx (uV (aM bN (aD (aG 2) (aD (aG 0) aK)))) (uC (.int 1))) aK))))))
theorem aC0: ∀ds Q,j5 ds Q→ds.length=2:=by rintro ds Q ⟨n,f,p,rfl,_⟩;rfl
theorem bD5 {p:Int}(pp:Pr p){n:Nat}{f:Nat→Int}(n4:n≤4)(fb: ∀j,(f j).natAbs≤2^9){g:Nat×(Nat→Int)}(mg:MP p g.1 g.2)(g4:g.1≤4):bV3 (n+1) g.1 9 8 f g.2:=
 ⟨by omega,by omega,mg.top,mg.hi,fun m _=>fb m,fun j=>bW4 pp mg j,by omega,by decide⟩
theorem aH0: ∀ds Q,j5 ds Q→pA {nx:=fun _=>Q (.pu .non),rt:=Q} (init ["f","p"] ds):=by
 rintro ds Q ⟨n,f,p,rfl,n4,hp,mp,fb,h⟩
 have pp:=yP hp
 unfold pA
 show(cC _:US) _ [some (.pu (aN (rwF (n+1) f))),some (.pu (.int p))]
 rw[fU]
 have key: ∀xs,SP p (n,md p f) xs→dQ [0] [none,none,some 0,none] 3 (fun ρ Q=>Q (xs.map tD).length (fun i=>(xs.map tD).getD i .non) ρ) (sH (fN 0 (fN 1 sG))) (fun ρ Q=>Q true ρ) (gW (aD (aG 0) (aD (aG 1) (aD (uIx (uV (aM bN (aD (aG 2) (aD (aG 0) aK)))) (uC (.int 1))) aK)))) [some (.pu (aN (rwF (n+1) f))),some (.pu (.int p))] fun b _=>Q b:=by
  intro xs sp
  refine aZ8 (t0:=0) (t1:=1) xs.length (fun i=>(xs.map tD).getD i .non) (fun i=>aN (rwF ((xs.getD i (mW,0)).1.1+1) (xs.getD i (mW,0)).1.2)) (fun i=> .int ((xs.getD i (mW,0)).2:Int)) (fun i hi=> ?_) [some (.pu (aN (rwF (n+1) f))),some (.pu (.int p))] (fun Q' q=> ?_) (Nat.le_trans sp.len (by decide)) (fun x y l=>[x,y,some (.pu (aN (rwF (n+1) f))),some (.ow l)]) none none rfl (fun _ _ _ _ _=>rfl) (fun _ _ _=>⟨by simp,by simp⟩) (fun _ _ _ _ q=>q) (fun _ _ _ _=>rfl) (fun i=>ptD n f (xs.getD i (mW,0))) ?_ ?_
  ·rw[List.getD_eq_getElem?_getD,List.getElem?_map,List.getD_eq_getElem?_getD,List.getElem?_eq_getElem hi]
   rfl
  ·rw[List.length_map];exact q
  ·intro i l Q' hi q
   have hm:xs.getD i (mW,0)∈xs:=by
    rw[List.getD_eq_getElem?_getD,List.getElem?_eq_getElem hi]
    exact List.getElem_mem hi
   obtain⟨mx,x1,x4,_⟩:=sp.mem _ hm
   generalize xs.getD i (mW,0)=x at *
   walk_at "u"
   refine⟨n+1,x.1.1,9,8,f,x.1.2,rfl,bD5 pp n4 fb mx x4,?_⟩
   walk_at "u"
   rw[at1]
   exact⟨by decide,q⟩
  ·have e:(List.range xs.length).map (fun i=>ptD n f (xs.getD i (mW,0)))=xs.map (ptD n f):=by
    apply List.ext_getElem
    ·simp
    ·intro i h1 h2
     simp at h1
     simp[List.getD_eq_getElem?_getD,h1]
   rw[e]
   exact h xs sp
 exact⟨n,f,p,rfl,n4,hp,mp,fun xs sp=>key xs sp⟩
structure RF (n:Nat)(f:Nat→Int):Prop where
 n1:1≤n
 n4:n≤4
 top:f n=1
 hi: ∀j,n<j→f j=0
 fb: ∀j,(f j).natAbs≤2^9
theorem RF.mp {n:Nat}{f:Nat→Int}(h:RF n f){p:Int}(hp:2≤p):MP p n (md p f):=by
 refine⟨?_,fun j hj=> ?_,fun j=>⟨Int.emod_nonneg _ (by omega),Int.emod_lt_of_pos _ (by omega)⟩⟩
 ·show f n%p=1
  rw[h.top]
  exact Int.emod_eq_of_lt (by decide) (by omega)
 ·show f j%p=0
  rw[h.hi j hj,Int.zero_emod]
def PRow (n:Nat)(f:Nat→Int)(size:Int)(d:D):Prop:= ∃(p:Int) (xs:List ((Nat×(Nat→Int))×Nat)),p∈prL∧size%(p*p)=0∧SP p (n,md p f) xs∧d= .tup [.int p,.lst (xs.map (ptD n f))]
def iJ:Φ:=fun ds Q=> ∃(n:Nat) (f:Nat→Int) (size:Int),ds=[aN (rwF (n+1) f),.int size]∧RF n f∧ ∀l:List D,l.length≤46→(∀d∈l,PRow n f size d)→Q (.ow l)
def nP:US:=(cC (dQ [0,1] [none,some 0,some 1,none] 3 (eO (aM dM aK)) (bO 0) (cN (uOp (gH false) (uOp jQ (aG 2) (uOp dE (aG 0) (aG 0))) (uC (.int 0)))) (gW (aD (aG 0) (aD (aM j5 (aD (aG 1) (aD (aG 0) aK))) aK)))))
theorem a55: ∀ds Q,iJ ds Q→ds.length=2:=by rintro ds Q ⟨n,f,p,rfl,_⟩;rfl
theorem aC1: ∀ds Q,iJ ds Q→nP {nx:=fun _=>Q (.pu .non),rt:=Q} (init ["f","s"] ds):=by
 rintro ds Q ⟨n,f,size,rfl,rf,h⟩
 unfold nP
 show(cC _:US) _ [some (.pu (aN (rwF (n+1) f))),some (.pu (.int size))]
 rw[fU]
 refine aZ9 (t0:=0) 46 (fun i=>(T_SMALL_PRIMES.map D.int).getD i .non) [some (.pu (aN (rwF (n+1) f))),some (.pu (.int size))] (fun Q' q=> ?_) (by decide) (fun x l=>[x,some (.pu (aN (rwF (n+1) f))),some (.pu (.int size)),some (.ow l)]) none rfl (fun _ _ _=>rfl) (fun _ _=>Nat.zero_lt_succ _) (fun _ _ _ q=>q) (fun _ _ _=>rfl)
  (fun i=>decide (size%(T_SMALL_PRIMES.getD i 0*T_SMALL_PRIMES.getD i 0)=0)) (PRow n f size) ?_ ?_ (fun l hl hP=>h l hl hP)
 ·exact⟨rfl,q⟩
 ·intro i l Q' hi q
  have e:(T_SMALL_PRIMES.map D.int).getD i .non= .int (T_SMALL_PRIMES.getD i 0):=by
   have hi':i<T_SMALL_PRIMES.length:=by rw[aT0];exact hi
   rw[List.getD_eq_getElem?_getD,List.getElem?_map,List.getD_eq_getElem?_getD,List.getElem?_eq_getElem hi']
   rfl
  have hm:T_SMALL_PRIMES.getD i 0∈T_SMALL_PRIMES:=by
   have hi':i<T_SMALL_PRIMES.length:=by rw[aT0];exact hi
   rw[List.getD_eq_getElem?_getD,List.getElem?_eq_getElem hi']
   exact List.getElem_mem hi'
  obtain⟨p2,p3⟩:=tp_ok _ hm
  rw[e]at q⊢
  generalize T_SMALL_PRIMES.getD i 0=p at *
  have pq:0<p*p:=Int.mul_pos (by omega) (by omega)
  walk_at "u"
  refine⟨cmL (by omega) (by omega),by omega,?_⟩
  rw[cF _ pq]
  exact q
 ·intro i l Q' hi hc q
  have e:(T_SMALL_PRIMES.map D.int).getD i .non= .int (T_SMALL_PRIMES.getD i 0):=by
   have hi':i<T_SMALL_PRIMES.length:=by rw[aT0];exact hi
   rw[List.getD_eq_getElem?_getD,List.getElem?_map,List.getD_eq_getElem?_getD,List.getElem?_eq_getElem hi']
   rfl
  have hm:T_SMALL_PRIMES.getD i 0∈prL:=by
   have hi':i<T_SMALL_PRIMES.length:=by rw[aT0];exact hi
   rw[bV5,List.getD_eq_getElem?_getD,List.getElem?_eq_getElem hi']
   exact List.getElem_mem hi'
  have pp:=yP hm
  have hc':=of_decide_eq_true hc
  rw[e]at q⊢
  generalize T_SMALL_PRIMES.getD i 0=p at *
  walk_at "u"
  refine⟨n,f,p,rfl,rf.n4,hm,rf.mp pp.lo,rf.fb,fun xs sp=> ?_⟩
  walk_at "u"
  exact⟨by decide,q _ ⟨p,xs,hm,hc',sp,rfl⟩⟩
theorem bJ4 {p:Int}(hp:2≤p){F:Nat×(Nat→Int)}{xs:List ((Nat×(Nat→Int))×Nat)}(sp:SP p F xs){x:(Nat×(Nat→Int))×Nat}(hx:x∈xs)(h2:2≤x.2): ∃R:Nat×(Nat→Int),MP p R.1 R.2∧F=tm p (tm p x.1 x.1) R:=by
 obtain⟨l,m,rfl⟩:=List.append_of_mem hx
 obtain⟨k,hk⟩: ∃k,x.2=k+2:=⟨x.2-2,by omega⟩
 have mx:=(sp.mem x hx).1
 have ml: ∀y∈l,MP p y.1.1 y.1.2:=fun y hy=>(sp.mem y (List.mem_append_left _ hy)).1
 have mm: ∀y∈m,MP p y.1.1 y.1.2:=fun y hy=>(sp.mem y (List.mem_append_right _ (.tail _ hy))).1
 have mA:=MP.allT hp l (MP.one hp) ml
 have mP:=MP.powT hp mA mx k
 have mxx:=MP.tm hp mx mx
 refine⟨allT p (powT p (allT p mW l) x.1 k) m,MP.allT hp m mP mm,?_⟩
 rw[←sp.prod,oG]
 show allT p (powT p (allT p mW l) x.1 x.2) m=_
 rw[hk]
 show allT p (tm p (tm p (powT p (allT p mW l) x.1 k) x.1) x.1) m=_
 rw[←t9 mx.hi,a76 mP.hi mxx.hi,aM9 hp m mP mm]
structure cB6 (n:Nat)(f:Nat→Int)(size p:Int)(g:Nat×(Nat→Int)):Prop where
 pr:p∈prL
 sq:size%(p*p)=0
 mg:MP p g.1 g.2
 g1:1≤g.1
 g4:g.1≤4
 tw: ∃R:Nat×(Nat→Int),MP p R.1 R.2∧(n,md p f)=tm p (tm p g g) R
 all: ∀c∈aB9 n f g,c%(p*p)=0
def cB7 (n:Nat)(f:Nat→Int)(g:Nat×(Nat→Int)):List Int:=rwF (eB (divQ g.2 g.1 (n+1-g.1) f) (n+1-g.1)) (divQ g.2 g.1 (n+1-g.1) f)
def i4:Φ:=fun ds Q=> ∃(n:Nat) (f:Nat→Int) (size:Int) (l:List D),ds=[aN (rwF (n+1) f),.lst l]∧RF n f∧l.length≤46∧(∀d∈l,PRow n f size d)∧Q (.pu .non)∧ ∀p g,cB6 n f size p g→Q (.pu (.tup [.int p,aN (cB7 n f g)]))
def yS:US:=(cC (uC .non))
def mC:US:=(aQ (i7 (eO (aG 1)) (sH (fN 2 (fN 3 sG))) (i7 (eO (aG 3)) (sH (fN 4 (fN 5 (fN 6 sG)))) (eG (bH1 (cN (uOp (nF fun i j=>decide (j≤i)) (aG 5) (uC (.int 2)))) (cN (aM aQ6 (aD (dQ [2] [none,some 2,none] 2 (eO (aG 6)) (bO 0) (fun ρ Q=>Q true ρ) (uOp (gH false) (uOp jQ (aG 0) (uOp dE (aG 1) (aG 1))) (uC (.int 0)))) aK)))) (cC (gW (aD (aG 2) (aD (uIx (uV (aM bN (aD (aG 0) (aD (aG 4) aK)))) (uC (.int 0))) aK)))) cM))) yS)
theorem yT: ∀ds Q,i4 ds Q→ds.length=2:=by rintro ds Q ⟨n,f,p,l,rfl,_⟩;rfl
theorem a56: ∀ds Q,i4 ds Q→mC {nx:=fun _=>Q (.pu .non),rt:=Q} (init ["f","r","p","a","g","o","c"] ds):=by
 rintro ds Q ⟨n,f,size,l,rfl,rf,l46,hP,h0,h1⟩
 unfold mC
 show(aQ _ _:US) _ [some (.pu (aN (rwF (n+1) f))),some (.pu (.lst l)),none,none,none,none,none]
 rw[aO]
 refine bJ l.length (fun i=>l.getD i .non) [some (.pu (aN (rwF (n+1) f))),some (.pu (.lst l)),none,none,none,none,none] (fun Q' q=>q)
  (fun i ρ=> ∃a b c d e,ρ=[some (.pu (aN (rwF (n+1) f))),some (.pu (.lst l)),a,b,c,d,e]) ⟨none,none,none,none,none,rfl⟩ ?_ ?_
 ·rintro i ρ hi ⟨a,b,c,d,e,rfl⟩
  have hm:l.getD i .non∈l:=by
   rw[List.getD_eq_getElem?_getD,List.getElem?_eq_getElem hi]
   exact List.getElem_mem hi
  obtain⟨p,xs,hp,hs,sp,e1⟩:=hP _ hm
  have pp:=yP hp
  rw[e1]
  refine⟨by simp,by simp,rfl,?_⟩
  show(i7 _ _ _:US) _ [some (.pu (aN (rwF (n+1) f))),some (.pu (.lst l)),some (.pu (.int p)),some (.pu (.lst (xs.map (ptD n f)))),c,d,e]
  refine bJ xs.length (fun i=>(xs.map (ptD n f)).getD i .non) [some (.pu (aN (rwF (n+1) f))),some (.pu (.lst l)),some (.pu (.int p)),some (.pu (.lst (xs.map (ptD n f)))),c,d,e] (fun Q' q=> ?_)
   (fun j ρ=> ∃c d e,ρ=[some (.pu (aN (rwF (n+1) f))),some (.pu (.lst l)),some (.pu (.int p)),some (.pu (.lst (xs.map (ptD n f)))),c,d,e]) ⟨c,d,e,rfl⟩ ?_ ?_
  ·walk_at "u"
   rw[List.length_map]
   exact q
  ·rintro j ρ hj ⟨c,d,e,rfl⟩
   have hx:xs[j]∈xs:=List.getElem_mem hj
   have e2:(xs.map (ptD n f)).getD j .non=ptD n f xs[j]:=by
    rw[List.getD_eq_getElem?_getD,List.getElem?_map,List.getElem?_eq_getElem hj]
    rfl
   rw[e2]
   obtain⟨mx,x1,x4,_⟩:=sp.mem _ hx
   have tw:2≤xs[j].2→_:=fun h2=>bJ4 pp.lo sp hx h2
   generalize xs[j]=x at *
   refine⟨by simp,by simp,by simp,rfl,?_⟩
   show(eG _ _ _:US) _ [some (.pu (aN (rwF (n+1) f))),some (.pu (.lst l)),some (.pu (.int p)),some (.pu (.lst (xs.map (ptD n f)))),some (.pu (aN (rwF (x.1.1+1) x.1.2))),some (.pu (.int (x.2:Int))),some (.pu (aN (aB9 n f x.1)))]
   simp only[aN]
   walk_at "u"
   by_cases c2:(2:Int)≤(x.2:Int)
   ·rw[if_pos c2]
    have p2:=pp.lo
    have p3:=pp.hi
    have pq:0<p*p:=Int.mul_pos (by omega) (by omega)
    generalize hr:aB9 n f x.1=r at *
    have rl:r.length≤1000:=by
     rw[←hr]
     unfold aB9
     rw[rH]
     have:=rJ (divL x.1.2 x.1.1 (n+1-x.1.1) f) (n+1)
     have:=rf.n4
     omega
    refine dA (t0:=0) r.length (fun k=>(r.map D.int).getD k .non) [some (.pu (.tup ((rwF (n+1) f).map .int))),some (.pu (.lst l)),some (.pu (.int p)),some (.pu (.lst (xs.map (ptD n f)))),some (.pu (.tup ((rwF (x.1.1+1) x.1.2).map .int))),some (.pu (.int (x.2:Int))),some (.pu (.tup (r.map .int)))] (fun Q' q=> ?_) (by omega) (fun x l'=>[x,some (.pu (.int p)),some (.ow l')]) none rfl (fun _ _ _=>rfl) (fun _ _=>Nat.zero_lt_succ _) (fun _ _ _ q=>q) (fun _ _ _=>rfl) (fun k=> .bl (decide (r.getD k 0%(p*p)=0))) ?_ ?_
    ·walk_at "u"
     rw[List.length_map]
     exact q
    ·intro k l' Q' hk q
     have e3:(r.map D.int).getD k .non= .int (r.getD k 0):=by
      rw[List.getD_eq_getElem?_getD,List.getElem?_map,List.getD_eq_getElem?_getD,List.getElem?_eq_getElem hk]
      rfl
     rw[e3]at q⊢
     walk_at "u"
     refine⟨cmL (by omega) (by omega),by omega,?_⟩
     rw[cF _ pq]
     exact q
    ·have e4:(List.range r.length).map (fun k=>D.bl (decide (r.getD k 0%(p*p)=0)))=((List.range r.length).map fun k=>decide (r.getD k 0%(p*p)=0)).map D.bl:=by rw[List.map_map];rfl
     rw[e4]
     dsimp only
     rw[rB]
     dsimp only
     by_cases c3:(((List.range r.length).map fun k=>decide (r.getD k 0%(p*p)=0)).all id)=true
     ·rw[if_pos c3]
      walk_at "u"
      refine⟨n+1,x.1.1,9,8,f,x.1.2,rfl,bD5 pp rf.n4 rf.fb mx x4,?_⟩
      walk_at "u"
      rw[at0]
      refine⟨by decide,h1 p x.1 ⟨hp,hs,mx,x1,x4,tw (by omega),fun c hc=> ?_⟩⟩
      rw[hr]at hc
      obtain⟨k,hk,rfl⟩:=List.mem_iff_getElem.mp hc
      rw[List.all_eq_true]at c3
      have:=c3 (decide (r.getD k 0%(p*p)=0)) (List.mem_map.mpr ⟨k,List.mem_range.mpr hk,rfl⟩)
      have:=of_decide_eq_true (show decide (r.getD k 0%(p*p)=0)=true from this)
      rw[List.getD_eq_getElem?_getD,List.getElem?_eq_getElem hk]at this
      exact this
     ·rw[if_neg c3]
      exact⟨_,_,_,rfl⟩
   ·rw[if_neg c2]
    exact⟨_,_,_,rfl⟩
  ·rintro ρ ⟨c,d,e,rfl⟩
   exact⟨_,_,_,_,_,rfl⟩
 ·rintro ρ ⟨a,b,c,d,e,rfl⟩
  exact h0
theorem amgm {g q b m:Int}(h1:g+(q+1)≤2*(b+1))(hg:0≤g)(hq:0≤q)(h2:m<g*(q+1)):m< (b+1)*(b+1):=by
 have a1:0≤(g-(q+1))*(g-(q+1)):=by
  rcases Int.le_total 0 (g-(q+1))with h|h
  ·exact Int.mul_nonneg h h
  ·exact Int.mul_nonneg_of_nonpos_of_nonpos h h
 have a2:(g+(q+1))*(g+(q+1))≤(2*(b+1))*(2*(b+1)):=Int.mul_le_mul h1 h1 (by omega) (by omega)
 grind
theorem b80 {g m:Int}(hg:1≤g)(h:g≤(g+m/g)/2):g*g≤m:=by
 have h1:g≤m/g:=by omega
 have h2:g*(m/g)≤m:=by
  have:=Int.emod_add_mul_ediv m g
  have:=Int.emod_nonneg m (show g≠0 by omega)
  omega
 exact Int.le_trans (Int.mul_le_mul_of_nonneg_left h1 (by omega)) h2
theorem b00 {g m:Int}(hg:1≤g)(hm:0≤m):m< ((g+m/g)/2+1)*((g+m/g)/2+1):=by
 have e:=Int.emod_add_mul_ediv m g
 have l:=Int.emod_lt_of_pos m (show 0<g by omega)
 have q0:0≤m/g:=Int.ediv_nonneg hm (by omega)
 refine amgm (g:=g) (q:=m/g) (by omega) (by omega) q0 ?_
 rw[Int.mul_add,Int.mul_one]
 omega
def qS:Φ:=fun ds Q=> ∃m:Int,ds=[.int m]∧0≤m∧Sm m∧ ∀r:Int,0≤r→r*r≤m→m< (r+1)*(r+1)→Q (.pu (.int r))
def yU:US:=(aQ (bK 1 (aG 0)) (aQ (bK 2 (uOp aG0 (uOp eS (aG 0) (uC (.int 1))) (uC (.int 2)))) (aQ (aP7 (cN (uOp (nF fun i j=>decide (i<j)) (aG 2) (aG 1))) (aQ (bK 1 (aG 2)) (bK 2 (uOp aG0 (uOp eS (aG 1) (uOp aG0 (aG 0) (aG 1))) (uC (.int 2)))))) (mK 1))))
theorem Sm.le {i m:Int}(h:Sm m)(h0:0≤i)(h1:i≤m):Sm i:=by
 unfold Sm at h⊢
 exact Nat.lt_of_le_of_lt (by omega) h
theorem bJ5: ∀ds Q,qS ds Q→yU {nx:=fun _=>Q (.pu .non),rt:=Q} (init ["m","g","b"] ds):=by
 rintro ds Q ⟨m,rfl,m0,ms,h⟩
 unfold yU
 show(aQ _ _:US) _ [some (.pu (.int m)),none,none]
 walk_at "u"
 rw[qN _ (by decide)]
 refine⟨⟨by decide,aA4 (by decide) (by decide)⟩,?_⟩
 refine⟨fun n ρ=> ∃g b:Int,ρ=[some (.pu (.int m)),some (.pu (.int g)),some (.pu (.int b))]∧n=g.toNat∧0≤g∧g≤m∧m< (g+1)*(g+1)∧((m=0∧b=0)∨(1≤g∧b=(g+m/g)/2)),⟨_,m,(m+1)/2,rfl,rfl,m0,Int.le_refl _,?_,?_⟩,?_⟩
 ·have:m*1≤m*m+m:=by
   rcases Int.le_total m 0 with z|z
   ·have:m=0:=by omega
    subst this;decide
   ·have:=Int.mul_nonneg z z
    omega
  grind
 ·by_cases z:m=0
  ·subst z;exact .inl ⟨rfl,rfl⟩
  ·right
   rw[Int.ediv_self z]
   exact⟨by omega,rfl⟩
 ·rintro n ρ ⟨g,b,rfl,rfl,g0,gm,hg,hb⟩
  walk_at "u"
  split
  ·rename_i hlt
   rcases hb with⟨rfl,rfl⟩| ⟨g1,rfl⟩
   ·omega
   ·have b1:1≤(g+m/g)/2:=by
     have:1≤m/g:=Int.le_ediv_of_mul_le (by omega) (by omega)
     omega
    rw[qN _ (show 0< (g+m/g)/2 by omega),qN _ (by decide)]
    refine⟨⟨by omega,ms.le (by omega) (by omega)⟩,⟨by decide,aA4 (by decide) (by decide)⟩,_,?_,_,_,rfl,rfl,by omega,by omega,b00 g1 m0,.inr ⟨b1,rfl⟩⟩
    omega
  ·rename_i hge
   refine h g g0 ?_ hg
   rcases hb with⟨rfl,rfl⟩| ⟨g1,rfl⟩
   ·have:g=0:=by omega
    subst this;decide
   ·exact b80 g1 (by omega)
theorem b81: ∀ds Q,qS ds Q→ds.length=1:=by rintro ds Q ⟨i,rfl,_⟩;rfl
def ev (p:List Int)(z:Int):Int:=ps (fun j=>p.getD j 0) z p.length
theorem ev2 (a b z:Int):ev [a,b,1] z=a+b*z+z*z:=by simp[ev,ps];grind
theorem ev3 (a b c z:Int):ev [a,b,c,1] z=a+b*z+c*(z*z)+z*z*z:=by simp[ev,ps];grind
theorem ev4 (a b c d z:Int):ev [a,b,c,d,1] z=a+b*z+c*(z*z)+d*(z*z*z)+z*z*z*z:=by simp[ev,ps];grind
def qq (v u w s:Int):List Int:=[v*w,u*w+v*s,v+w+u*s,u+s,1]
def Red (p:List Int):Prop:=(∃z,ev p z=0)∨ ∃v u w s,p=qq v u w s
structure Fac (p l r:List Int):Prop where
 l2:2≤l.length
 r2:2≤r.length
 l4:l.length≤4
 r4:r.length≤4
 l1:l.getD (l.length-1) 0=1
 r1:r.getD (r.length-1) 0=1
 pr:rwF (l.length+r.length-1) (conv (fun j=>l.getD j 0) (fun j=>r.getD j 0) l.length)=p
 bl: ∀x∈l,x.natAbs≤2^40
 br: ∀x∈r,x.natAbs≤2^40
theorem cW.cs {p:List Int}(h:cW p):(∃a b,p=[a,b,1])∨(∃a b c,p=[a,b,c,1])∨ ∃a b c d,p=[a,b,c,d,1]:=by
 obtain⟨q,rfl⟩:=h.one
 have lo:=h.ok.lo
 have hi:=h.ok.hi
 rw[List.length_append,List.length_singleton]at lo hi
 match q,lo,hi with
 | [a,b],_,_=>exact .inl ⟨a,b,rfl⟩
 | [a,b,c],_,_=>exact .inr (.inl ⟨a,b,c,rfl⟩)
 | [a,b,c,d],_,_=>exact .inr (.inr ⟨a,b,c,d,rfl⟩)
 | [],h,_=>simp at h
 | [_],h,_=>simp at h
 | _::_::_::_::_::_,_,h=>simp at h
theorem bW7 {p:List Int}(h:cW p){z:Int}(hz:ev p z=0):z∣p.getD 0 0:=by
 rcases h.cs with⟨a,b,rfl⟩| ⟨a,b,c,rfl⟩| ⟨a,b,c,d,rfl⟩
 ·rw[ev2]at hz
  exact⟨-(b+z),by show a=_;grind⟩
 ·rw[ev3]at hz
  exact⟨-(b+c*z+z*z),by show a=_;grind⟩
 ·rw[ev4]at hz
  exact⟨-(b+c*z+d*(z*z)+z*z*z),by show a=_;grind⟩
theorem bD6 {p:List Int}(h:cW p):ev p 0=p.getD 0 0:=by
 rcases h.cs with⟨a,b,rfl⟩| ⟨a,b,c,rfl⟩| ⟨a,b,c,d,rfl⟩
 ·rw[ev2];simp
 ·rw[ev3];simp
 ·rw[ev4];simp
def o8 (z:Int):Nat→Int:=fun j=>[-z,1].getD j 0
theorem eY {a b:Int}{m n:Nat}(h1:a.natAbs≤m)(h2:b.natAbs≤n):(a*b).natAbs≤m*n:=by rw[Int.natAbs_mul];exact Nat.mul_le_mul h1 h2
set_option maxHeartbeats 2000000 in
theorem quo {p:List Int}(h:cW p){z:Int}(hz:ev p z=0)(z9:z.natAbs≤499): ∃r:List Int,r.length+1=p.length∧2≤r.length∧r.getD (r.length-1) 0=1∧p=rwF p.length (fun m=>conv (fun j=>r.getD j 0) (o8 z) r.length m+0)∧(∀x∈r,x.natAbs≤2^40)∧Fac p [-z,1] r:=by
 have sm:=h.ok.small
 have n1:(-z).natAbs≤2^40:=by rw[Int.natAbs_neg];exact Nat.le_trans z9 (by decide)
 have k1:(1:Int).natAbs≤2^40:=by decide
 rcases h.cs with⟨a,b,rfl⟩| ⟨a,b,c,rfl⟩| ⟨a,b,c,d,rfl⟩
 ·rw[ev2]at hz
  simp only[List.forall_mem_cons]at sm
  have bd: ∀x∈[b+z,1],x.natAbs≤2^40:=by
   simp only[List.forall_mem_cons]
   refine⟨?_,k1,by simp⟩
   have:(2:Nat)^40=1099511627776:=by decide
   omega
  refine⟨[b+z,1],rfl,by simp,rfl,?_,bd,⟨by simp,by simp,by simp,by simp,rfl,rfl,?_,by simp only[List.forall_mem_cons];exact⟨n1,k1,by simp⟩,bd⟩⟩
  ·simp[rwF,conv,shF,o8,List.range_succ]
   grind
  ·simp[rwF,conv,shF,List.range_succ]
   grind
 ·rw[ev3]at hz
  simp only[List.forall_mem_cons]at sm
  have m1:(z*z).natAbs≤499*499:=eY z9 z9
  have m2:(c*z).natAbs≤499*499:=eY sm.2.2.1 z9
  have bd: ∀x∈[b+c*z+z*z,c+z,1],x.natAbs≤2^40:=by
   simp only[List.forall_mem_cons]
   have:(2:Nat)^40=1099511627776:=by decide
   refine⟨?_,?_,k1,by simp⟩
   ·omega
   ·omega
  refine⟨[b+c*z+z*z,c+z,1],rfl,by simp,rfl,?_,bd,⟨by simp,by simp,by simp,by simp,rfl,rfl,?_,by simp only[List.forall_mem_cons];exact⟨n1,k1,by simp⟩,bd⟩⟩
  ·simp[rwF,conv,shF,o8,List.range_succ]
   grind
  ·simp[rwF,conv,shF,List.range_succ]
   grind
 ·rw[ev4]at hz
  simp only[List.forall_mem_cons]at sm
  have m1:(z*z).natAbs≤499*499:=eY z9 z9
  have m2:(c*z).natAbs≤499*499:=eY sm.2.2.1 z9
  have m3:(d*(z*z)).natAbs≤499*(499*499):=eY sm.2.2.2.1 m1
  have m4:(z*z*z).natAbs≤499*499*499:=eY m1 z9
  have m5:(d*z).natAbs≤499*499:=eY sm.2.2.2.1 z9
  have bd: ∀x∈[b+c*z+d*(z*z)+z*z*z,c+d*z+z*z,d+z,1],x.natAbs≤2^40:=by
   simp only[List.forall_mem_cons]
   have:(2:Nat)^40=1099511627776:=by decide
   refine⟨?_,?_,?_,k1,by simp⟩
   ·omega
   ·omega
   ·omega
  refine⟨[b+c*z+d*(z*z)+z*z*z,c+d*z+z*z,d+z,1],rfl,by simp,rfl,?_,bd,⟨by simp,by simp,by simp,by simp,rfl,rfl,?_,by simp only[List.forall_mem_cons];exact⟨n1,k1,by simp⟩,bd⟩⟩
  ·simp[rwF,conv,shF,o8,List.range_succ]
   grind
  ·simp[rwF,conv,shF,List.range_succ]
   grind
theorem fac_qq {v u w s:Int}(h: ∀x∈[v,u,w,s],x.natAbs≤2^40):Fac (qq v u w s) [v,u,1] [w,s,1]:=by
 simp only[List.forall_mem_cons]at h
 have k1:(1:Int).natAbs≤2^40:=by decide
 refine⟨by simp,by simp,by simp,by simp,rfl,rfl,?_,?_,?_⟩
 ·simp[rwF,conv,shF,qq,List.range_succ]
  grind
 ·simp only[List.forall_mem_cons]
  exact⟨h.1,h.2.1,k1,by simp⟩
 ·simp only[List.forall_mem_cons]
  exact⟨h.2.2.1,h.2.2.2.1,k1,by simp⟩
def gJ:Φ:=fun ds Q=> ∃m:Int,ds=[.int m]∧m.natAbs≤499∧ ∀l:List Int,l.length≤1000→(m=0→l=[0])→(m≠0→ ∀x,x∈l↔x∣m)→(∀x∈l,x.natAbs≤499)→Q (.ow (l.map .int))
def tH:US:=(aQ (bK 1 (i6 aK)) (aQ (i7 (a89 (aD (uC (.int 1)) (aD (uOp eS (aM b56 (aD (aG 0) aK)) (uC (.int 1))) aK))) (bO 2) (eG (cN (uOp (gH false) (uOp jQ (aG 0) (aG 2)) (uC (.int 0)))) (aQ (yB 1 (aG 2)) (yB 1 (lD (aG 2)))) cM)) (mK 1)))
def pB:US:=(aQ (eG (cN (uOp (gH false) (aG 0) (uC (.int 0)))) (cC (i6 (aD (uC (.int 0)) aK))) cM) tH)
theorem aC2: ∀ds Q,gJ ds Q→ds.length=1:=by rintro ds Q ⟨m,rfl,_⟩;rfl
theorem vH {x m:Int}(h:x∣m)(hm:m≠0):x.natAbs≤m.natAbs∧1≤x.natAbs:=by
 have h1:=Int.natAbs_dvd_natAbs.mpr h
 refine⟨Nat.le_of_dvd (by omega) h1,?_⟩
 rcases Nat.eq_zero_or_pos x.natAbs with z|z
 ·rw[z]at h1
  have:=Nat.zero_dvd.mp h1
  omega
 ·exact z
theorem aH1: ∀ds Q,gJ ds Q→pB {nx:=fun _=>Q (.pu .non),rt:=Q} (init ["m","f","d"] ds):=by
 rintro ds Q ⟨m,rfl,m9,h⟩
 unfold pB
 show(aQ _ _:US) _ [some (.pu (.int m)),none,none]
 rw[aO]
 walk_at "u"
 by_cases m0:m=0
 ·rw[if_pos m0]
  exact⟨by decide,h [0] (by simp) (fun _=>rfl) (fun z=>absurd m0 z) (by simp)⟩
 rw[if_neg m0]
 unfold tH
 rw[aO]
 walk_at "u"
 refine⟨by decide,?_⟩
 refine bJ m.natAbs (fun k=> .int (1+k)) [some (.pu (.int m)),some (.ow []),none] ?_
  (fun i ρ=> ∃(l:List Int) (z:Option B),ρ=[some (.pu (.int m)),some (.ow (l.map .int)),z]∧l.length≤2*i∧ ∀x,x∈l↔(x∣m∧1≤x.natAbs∧x.natAbs≤i)) ⟨[],none,rfl,by simp,fun x=> ?_⟩ ?_ ?_
 ·intro Q' q
  walk_at "u"
  have e:(if m<0 then -m else m)=(m.natAbs:Int):=by split<;>omega
  rw[e]
  refine⟨by omega,?_⟩
  rw[show((m.natAbs:Int)+1-1).toNat=m.natAbs by omega]
  exact q
 ·simp;omega
 ·rintro i ρ hi ⟨l,z,rfl,ll,hl⟩
  walk_at "u"
  refine⟨by simp,by omega,?_⟩
  rw[cF _ (show(0:Int)<1+(i:Int)by omega)]
  split
  ·rename_i hd
   have dv:(1+(i:Int))∣m:=Int.dvd_of_emod_eq_zero hd
   refine⟨?_,?_,l++[1+(i:Int),-(1+(i:Int))],some (.pu (.int (1+(i:Int)))),?_,?_,fun x=> ?_⟩
   ·rw[List.length_map];exact Nat.lt_of_lt_of_le (show _<2000 by omega) (by decide)
   ·rw[List.length_append,List.length_map];exact Nat.lt_of_lt_of_le (show _<2000 by simp;omega) (by decide)
   ·rw[List.map_append];simp
   ·rw[List.length_append];simp;omega
   ·rw[List.mem_append,hl]
    constructor
    ·rintro(⟨h1,h2,h3⟩|hx)
     ·exact⟨h1,h2,by omega⟩
     ·simp at hx
      rcases hx with rfl|rfl
      ·exact⟨dv,by omega,by omega⟩
      ·exact⟨by first|exact Int.neg_dvd.mpr dv| (rw[show -1+ -(i:Int)= -(1+(i:Int))by omega];exact Int.neg_dvd.mpr dv),by omega,by omega⟩
    ·rintro⟨h1,h2,h3⟩
     by_cases c:x.natAbs≤i
     ·exact .inl ⟨h1,h2,c⟩
     ·refine .inr ?_
      simp
      omega
  ·rename_i hd
   have dv: ¬(1+(i:Int))∣m:=fun z=>hd (Int.emod_eq_zero_of_dvd z)
   refine⟨l,_,rfl,by omega,fun x=> ?_⟩
   rw[hl]
   constructor
   ·rintro⟨h1,h2,h3⟩
    exact⟨h1,h2,by omega⟩
   ·rintro⟨h1,h2,h3⟩
    refine⟨h1,h2,?_⟩
    by_cases c:x.natAbs≤i
    ·exact c
    ·exfalso
     have:x=1+(i:Int)∨x= -(1+(i:Int)):=by omega
     rcases this with rfl|rfl
     ·exact dv h1
     ·exact dv (Int.neg_dvd.mp h1)
 ·rintro ρ ⟨l,z,rfl,ll,hl⟩
  walk_at "u"
  refine h l (by omega) (fun z=>absurd z m0) (fun _ x=> ?_) fun x hx=> ?_
  ·rw[hl]
   exact⟨fun q=>q.1,fun q=>⟨q,(vH q m0).2,(vH q m0).1⟩⟩
  ·have:=(hl x).mp hx
   omega
def fJ:Φ:=fun ds Q=> ∃p:List Int,ds=[aN p]∧cW p∧((∀z,ev p z≠0)→Q (.pu .non))∧ ∀l r,Fac p l r→Red p→Q (.pu (.tup [aN l,aN r]))
def mO:US:=(cC (uC .non))
def jF:US:=(aQ (i7 (eO (aM gJ (aD (uIx (aS 0) (uC (.int 0))) aK))) (bO 1) (eG (cN (uOp (gH false) (aM gY (aD (aG 0) (aD (aG 1) aK))) (uC (.int 0)))) (aQ (bK 2 (gW (aD (lD (aG 1)) (aD (uC (.int 1)) aK)))) (cC (gW (aD (aG 2) (aD (uIx (uV (aM bN (aD (aG 0) (aD (aG 2) aK)))) (uC (.int 0))) aK))))) cM)) mO)
theorem v8: ∀ds Q,fJ ds Q→ds.length=1:=by rintro ds Q ⟨m,rfl,_⟩;rfl
theorem zR (p:List Int)(j:Nat)(h:p.length≤j):p.getD j 0=0:=by rw[List.getD_eq_getElem?_getD,List.getElem?_eq_none h];rfl
theorem wA: ∀ds Q,fJ ds Q→jF {nx:=fun _=>Q (.pu .non),rt:=Q} (init ["p","z","l"] ds):=by
 rintro ds Q ⟨p,rfl,hp,hn,hy⟩
 have hlo:=hp.ok.lo
 have hhi:=hp.ok.hi
 unfold jF
 show(aQ _ _:US) _ [some (.pu (.tup (p.map .int))),none,none]
 rw[aO]
 have p0:(p.getD 0 0).natAbs≤499:=dL hp.ok.small 0
 have key: ∀l:List Int,(p.getD 0 0=0→l=[0])→(p.getD 0 0≠0→ ∀x,x∈l↔x∣p.getD 0 0)→(∀x∈l,ev p x≠0)→ ∀z,ev p z≠0:=fun l l0 l1 hl z hz=>by
  by_cases c:p.getD 0 0=0
  ·have:=hl 0 (by rw[l0 c];simp)
   rw[bD6 hp]at this
   exact this c
  ·exact hl z ((l1 c z).mpr (bW7 hp hz)) hz
 unfold i7
 simp only[eO]
 walk_at "u"
 rw[sY (by omega)]
 refine⟨p.getD 0 0,rfl,p0,fun l l9 l0 l1 lb=> ?_⟩
 dsimp only
 rw[List.length_map]
 refine⟨fun i ρ=> ∃z1 z2,ρ=[some (.pu (.tup (p.map .int))),z1,z2]∧ ∀k,k<i→ev p (l.getD k 0)≠0,⟨none,none,rfl,fun k hk=>by omega⟩,?_,?_⟩
 ·rintro i ρ hi ⟨z1,z2,rfl,hk⟩
  have e3:(l.map D.int).getD i .non= .int (l.getD i 0):=by
   rw[List.getD_eq_getElem?_getD,List.getElem?_map,List.getElem?_eq_getElem hi,List.getD_eq_getElem?_getD,List.getElem?_eq_getElem hi]
   rfl
  rw[e3]
  have mem:l.getD i 0∈l:=by rw[List.getD_eq_getElem?_getD,List.getElem?_eq_getElem hi];exact List.getElem_mem hi
  have zb:=lb _ mem
  generalize ez:l.getD i 0=z at zb
  walk_at "u"
  refine⟨by simp,?_⟩
  refine⟨p.length,9,9,fun j=>p.getD j 0,z,by rw[←b73];rfl,⟨fun j=>Nat.le_trans (dL hp.ok.small j) (by decide),Nat.le_trans zb (by decide),by omega,by decide,by omega⟩,?_⟩
  show(if ev p z=0 then _ else _)
  by_cases c:ev p z=0
  ·rw[if_pos c]
   refine⟨by decide,?_⟩
   obtain⟨r,r1,r2,r3,r4,r5,fac⟩:=quo hp c zb
   refine⟨p.length,1,9,9,fun m=>conv (fun j=>r.getD j 0) (o8 z) r.length m+0,o8 z,?_,⟨by omega,by decide,rfl,fun j hj=> ?_,fun m hm=> ?_,fun j=> ?_,by omega,by decide⟩,?_⟩
   ·rw[←r4];rfl
   ·unfold o8
    rw[zR]
    simp;omega
   ·have e:p.getD m 0=conv (fun j=>r.getD j 0) (o8 z) r.length m+0:=by
     have:p[m]? =some (conv (fun j=>r.getD j 0) (o8 z) r.length m+0):=by
      conv=>lhs;rw[r4]
      rw[bC9 hm]
     rw[List.getD_eq_getElem?_getD,this];rfl
    rw[←e]
    exact Nat.le_trans (dL hp.ok.small m) (by decide)
   ·unfold o8
    refine dL (b:=2^9) (fun x hx=> ?_) j
    simp at hx
    rcases hx with rfl|rfl
    ·rw[Int.natAbs_neg];exact Nat.le_trans zb (by decide)
    ·decide
   ·have dc:=aB3 (u:=fun j=>r.getD j 0) (b:=o8 z) (low:=fun _=>0) (d:=1) rfl (fun j hj=>by unfold o8;rw[zR];simp;omega) (fun _ _=>rfl) r.length
    have el:p.length-1=r.length:=by omega
    rw[el]
    have qe:rwF (eB (divQ (o8 z) 1 r.length fun m=>conv (fun j=>r.getD j 0) (o8 z) r.length m+0) r.length) (divQ (o8 z) 1 r.length fun m=>conv (fun j=>r.getD j 0) (o8 z) r.length m+0)=r:=by
     have cn:eB (divQ (o8 z) 1 r.length fun m=>conv (fun j=>r.getD j 0) (o8 z) r.length m+0) r.length=r.length:=mV (Nat.le_refl _) (fun m a b=>by omega) (.inr (by
      rw[dc.2 (r.length-1) (by omega),r3];decide))
     rw[cn]
     conv=>rhs;rw[b73 r]
     exact fO fun j hj=>dc.2 j hj
    rw[qe]
    walk_at "u"
    rw[show atI [aN r,aN (rwF (eB (divL (o8 z) 1 r.length fun m=>conv (fun j=>r.getD j 0) (o8 z) r.length m+0) p.length) (divL (o8 z) 1 r.length fun m=>conv (fun j=>r.getD j 0) (o8 z) r.length m+0))] 0=some (aN r)from bP (j:=0) rfl]
    refine⟨by decide,hy [-z,1] r fac (.inl ⟨z,c⟩)⟩
  ·rw[if_neg c]
   refine⟨_,_,rfl,fun k hk2=> ?_⟩
   by_cases ck:k<i
   ·exact hk k ck
   ·have:k=i:=by omega
    rw[this,ez]
    exact c
 ·rintro ρ ⟨z1,z2,rfl,hk⟩
  unfold mO
  walk_at "u"
  refine hn (key l l0 l1 fun x hx=> ?_)
  obtain⟨k,hk2,rfl⟩:=List.getElem_of_mem hx
  have:=hk k hk2
  rw[List.getD_eq_getElem?_getD,List.getElem?_eq_getElem hk2]at this
  exact this
def j6:Φ:=fun ds Q=> ∃t m:Int,ds=[.int t,.int m]∧t.natAbs≤2^20∧m.natAbs≤2^20∧ ∀l:List Int,l.length≤2→(∀u,u∈l↔u*(t-u)=m)→Q (.ow (l.map .int))
def tI:US:=(aQ (eG (cN (uOp (gH true) (uOp dE (aG 3) (aG 3)) (aG 2))) (cC (i6 aK)) cM) (cC (i6 (aD (uOp aG0 (uOp eS (aG 0) (aG 3)) (uC (.int 2))) (aD (uOp aG0 (uOp M.gSub (aG 0) (aG 3)) (uC (.int 2))) aK)))))
def tJ:US:=(aQ (bK 3 (aM qS (aD (aG 2) aK))) tI)
def tK:US:=(aQ (eG (cN (uOp (nF fun i j=>decide (i<j)) (aG 2) (uC (.int 0)))) (cC (i6 aK)) cM) tJ)
def pC:US:=(aQ (bK 2 (uOp M.gSub (uOp dE (aG 0) (aG 0)) (uOp dE (uC (.int 4)) (aG 1)))) tK)
theorem aC3: ∀ds Q,j6 ds Q→ds.length=2:=by rintro ds Q ⟨m,n,rfl,_⟩;rfl
theorem sq_nn (x:Int):0≤x*x:=by
 rcases Int.le_total 0 x with h|h
 ·exact Int.mul_nonneg h h
 ·exact Int.mul_nonneg_of_nonpos_of_nonpos h h
theorem bW8 {a b:Int}(ha:0≤a)(h:a≤b):a*a≤b*b:=Int.mul_le_mul h h ha (by omega)
theorem cG1 {g x:Int}(hg:0≤g)(h1:g*g≤x*x)(h2:x*x< (g+1)*(g+1)):x=g∨x= -g:=by
 have e:(x.natAbs:Int)*(x.natAbs:Int)=x*x:=Int.natAbs_mul_self
 have a1:(x.natAbs:Int)≤g:=by
  by_cases c:(x.natAbs:Int)≤g
  ·exact c
  ·have:=bW8 (a:=g+1) (b:=(x.natAbs:Int)) (by omega) (by omega)
   omega
 have a2:g≤(x.natAbs:Int):=by
  by_cases c:g≤(x.natAbs:Int)
  ·exact c
  ·have:=bW8 (a:=(x.natAbs:Int)+1) (b:=g) (by omega) (by omega)
   have h3:(x.natAbs:Int)*(x.natAbs:Int)< ((x.natAbs:Int)+1)*((x.natAbs:Int)+1):=by
    have:((x.natAbs:Int)+1)*((x.natAbs:Int)+1)=(x.natAbs:Int)*(x.natAbs:Int)+2*(x.natAbs:Int)+1:=by grind
    omega
   omega
 omega
theorem par {t g m:Int}(h:g*g=t*t-4*m):(t+g)%2=0∧(t-g)%2=0:=by
 have h1:(t-g)*(t+g)=4*m:=by grind
 rcases Int.emod_two_eq (t+g)with c|c
 ·exact⟨c,by omega⟩
 ·exfalso
  obtain⟨a,ha⟩: ∃a,t+g=2*a+1:=⟨(t+g)/2,by omega⟩
  obtain⟨b,hb⟩: ∃b,t-g=2*b+1:=⟨(t-g)/2,by omega⟩
  rw[ha,hb]at h1
  have:2*(2*(b*a)+b+a-2*m)+1=0:=by grind
  omega
theorem aH2: ∀ds Q,j6 ds Q→pC {nx:=fun _=>Q (.pu .non),rt:=Q} (init ["t","m","s","g"] ds):=by
 rintro ds Q ⟨t,m,rfl,ht,hm,h⟩
 have p20:(2:Nat)^20=1048576:=by decide
 have tt:(t*t).natAbs≤2^20*2^20:=eY ht ht
 unfold pC
 show(aQ _ _:US) _ [some (.pu (.int t)),some (.pu (.int m)),none,none]
 rw[aO]
 walk_at "u"
 refine⟨cmL (by omega) (by omega),cmL (by decide) (by decide),?_⟩
 have id1: ∀u:Int,u*(t-u)=m↔(2*u-t)*(2*u-t)=t*t-4*m:=fun u=>by
  constructor
  ·intro q;grind
  ·intro q
   have:4*(u*(t-u))=4*m:=by grind
   omega
 generalize esq:t*t-4*m=sq at id1
 have sqb:sq.natAbs≤2^60:=by
  have:(2:Nat)^60=1152921504606846976:=by decide
  have:(2:Nat)^20*2^20=1099511627776:=by decide
  omega
 unfold tK
 rw[aO]
 walk_at "u"
 by_cases s0:sq<0
 ·rw[if_pos s0]
  refine⟨by decide,h [] (by simp) fun u=> ?_⟩
  rw[id1]
  simp
  intro q
  have:=sq_nn (2*u-t)
  omega
 rw[if_neg s0]
 unfold tJ
 rw[aO]
 walk_at "u"
 refine⟨sq,rfl,by omega,Sm.pow sqb (by decide),fun g g0 g1 g2=> ?_⟩
 have g30:g≤2^30:=by
  by_cases c:g≤2^30
  ·exact c
  ·have:=bW8 (a:=2^30+1) (b:=g) (by decide) (by omega)
   have:((2:Int)^30+1)*(2^30+1)>2^60:=by decide
   have:((2^60:Nat):Int)=2^60:=by decide
   omega
 have k30:(2:Int)^30=1073741824:=by decide
 unfold tI
 dsimp only
 rw[aO]
 walk_at "u"
 refine⟨cmL (by omega) (by omega),?_⟩
 by_cases c:g*g=sq
 ·rw[if_neg (fun z=>z c)]
  rw[qN _ (by decide),qN _ (by decide)]
  have pp:=par (t:=t) (g:=g) (m:=m) (by rw[c,esq])
  refine⟨⟨by decide,aA4 (by decide) (by decide)⟩,⟨by decide,aA4 (by decide) (by decide)⟩,by decide,?_⟩
  refine h [(t+g)/2,(t-g)/2] (by simp) fun u=> ?_
  rw[id1]
  simp
  constructor
  ·rintro(rfl|rfl)
   ·have:2*((t+g)/2)-t=g:=by omega
    rw[this];exact c
   ·have:2*((t-g)/2)-t= -g:=by omega
    rw[this,Int.neg_mul_neg];exact c
  ·intro q
   have:=cG1 (g:=g) (x:=2*u-t) g0 (by omega) (by omega)
   omega
 ·rw[if_pos c]
  refine⟨by decide,h [] (by simp) fun u=> ?_⟩
  rw[id1]
  simp
  intro q
  rw[←q]at g1 g2 c
  rcases cG1 g0 g1 g2 with z|z
  ·rw[z]at c;exact c rfl
  ·rw[z,Int.neg_mul_neg]at c;exact c rfl
def bW9 (g:UG)(tb:US)(E:UD)(b:B)(ρ1:Ev):Prop:=match jR b.d with
 | some l=> ∃Pv:Nat→Ev→Prop,Pv 0 ρ1∧(∀i ρ,i<l.length→Pv i ρ→g (.pu (l.getD i .non)) ρ fun ρ2=>tb {E with nx:=Pv (i+1),ct:=Pv (i+1),bk:=E.nx} ρ2)∧ ∀ρ,Pv l.length ρ→E.nx ρ
 | none=>False
theorem aC4 {φ:Φ}{t:UA}{g:UG}{tb:US}{E:UD}{ρ:Ev}:i7 (eO (aM φ t)) g tb E ρ=t ρ fun ds ρ1=>φ ds fun b=>bW9 g tb E b ρ1:=rfl
theorem zS {g:UG}{tb:US}{E:UD}{ρ1:Ev}(l:List Int)(Pv:Nat→Ev→Prop)(h0:Pv 0 ρ1)(hs: ∀i ρ,i<l.length→Pv i ρ→g (.pu (.int (l.getD i 0))) ρ fun ρ2=>tb {E with nx:=Pv (i+1),ct:=Pv (i+1),bk:=E.nx} ρ2)(hd: ∀ρ,Pv l.length ρ→E.nx ρ):bW9 g tb E (.ow (l.map .int)) ρ1:=by
 show ∃Pv:Nat→Ev→Prop,Pv 0 ρ1∧(∀i ρ,i< (l.map D.int).length→Pv i ρ→g (.pu ((l.map D.int).getD i .non)) ρ fun ρ2=>tb {E with nx:=Pv (i+1),ct:=Pv (i+1),bk:=E.nx} ρ2)∧ ∀ρ,Pv (l.map D.int).length ρ→E.nx ρ
 rw[List.length_map]
 refine⟨Pv,h0,fun i ρ hi hp=> ?_,hd⟩
 have e3:(l.map D.int).getD i .non= .int (l.getD i 0):=by
  rw[List.getD_eq_getElem?_getD,List.getElem?_map,List.getElem?_eq_getElem hi,List.getD_eq_getElem?_getD,List.getElem?_eq_getElem hi]
  rfl
 rw[e3]
 exact hs i ρ hi hp
theorem aN0 {l:List Int}{i:Nat}(hi:i<l.length):l.getD i 0∈l:=by rw[List.getD_eq_getElem?_getD,List.getElem?_eq_getElem hi];exact List.getElem_mem hi
theorem b01 {l:List Int}{P:Int→Prop}(h: ∀k,k<l.length→P (l.getD k 0)): ∀x∈l,P x:=fun x hx=>by
 obtain⟨k,hk,rfl⟩:=List.getElem_of_mem hx
 have:=h k hk
 rw[List.getD_eq_getElem?_getD,List.getElem?_eq_getElem hk]at this
 exact this
def dU:Φ:=fun ds Q=> ∃a b c d:Int,ds=[aN [a,b,c,d,1]]∧(∀x∈[a,b,c,d],x.natAbs≤499)∧a≠0∧((∀v u w s,[a,b,c,d,1]≠qq v u w s)→Q (.pu .non))∧
 ∀v u w s,[a,b,c,d,1]=qq v u w s→(∀x∈[v,u,w,s],x.natAbs≤2^40)→Q (.pu (.tup [aN [v,u,1],aN [w,s,1]]))
def i8:US:=(aQ (i7 (eO (aM gJ (aD (uIx (aS 0) (uC (.int 0))) aK))) (bO 1) (aQ (bK 2 (uOp aG0 (uIx (aS 0) (uC (.int 0))) (aG 1))) (i7 (eO (aM j6 (aD (uIx (aS 0) (uC (.int 3))) (aD (uOp M.gSub (uOp M.gSub (uIx (aS 0) (uC (.int 2))) (aG 1)) (aG 2)) aK)))) (bO 3) (aQ (bK 4 (uOp M.gSub (uIx (aS 0) (uC (.int 3))) (aG 3))) (eG (cN (uOp (gH false) (uOp eS (uOp dE (aG 3) (aG 2)) (uOp dE (aG 1) (aG 4))) (uIx (aS 0) (uC (.int 1))))) (cC (gW (aD (gW (aD (aG 1) (aD (aG 3) (aD (uC (.int 1)) aK)))) (aD (gW (aD (aG 2) (aD (aG 4) (aD (uC (.int 1)) aK)))) aK)))) cM))))) (cC (uC .non)))
theorem rL: ∀ds Q,dU ds Q→ds.length=1:=by rintro ds Q ⟨a,b,c,d,rfl,_⟩;rfl
theorem bJ6 {u t m:Int}(h:u*(t-u)=m)(ht:t.natAbs≤2^20)(hm:m.natAbs≤2^20):u.natAbs≤2^20:=by
 by_cases c:t-u=0
 ·have:u=t:=by omega
  rw[this];exact ht
 ·have h1:m.natAbs=u.natAbs*(t-u).natAbs:=by rw[←h,Int.natAbs_mul]
  have h2:u.natAbs*1≤u.natAbs*(t-u).natAbs:=Nat.mul_le_mul_left _ (by omega)
  omega
theorem sO: ∀ds Q,dU ds Q→i8 {nx:=fun _=>Q (.pu .non),rt:=Q} (init ["p","v","w","u","s"] ds):=by
 rintro ds Q ⟨a,b,c,d,rfl,hs,a0,hn,hy⟩
 simp only[List.forall_mem_cons]at hs
 obtain⟨ha,hb,hc,hd,_⟩:=hs
 have p20:(2:Nat)^20=1048576:=by decide
 have p40:(2:Nat)^40=1099511627776:=by decide
 unfold i8
 show(aQ _ _:US) _ [some (.pu (.tup [.int a,.int b,.int c,.int d,.int 1])),none,none,none,none]
 have i0:atI [D.int a,.int b,.int c,.int d,.int 1] 0=some (.int a):=bP (j:=0) rfl
 have i1:atI [D.int a,.int b,.int c,.int d,.int 1] 1=some (.int b):=bP (j:=1) rfl
 have i2:atI [D.int a,.int b,.int c,.int d,.int 1] 2=some (.int c):=bP (j:=2) rfl
 have i3:atI [D.int a,.int b,.int c,.int d,.int 1] 3=some (.int d):=bP (j:=3) rfl
 rw[aO,aC4]
 walk_at "u"
 rw[i0]
 refine⟨a,rfl,ha,fun l l9 _ l1 lb=> ?_⟩
 have ld:=l1 a0
 refine zS l (fun i ρ=> ∃z1 z2 z3 z4,ρ=[some (.pu (.tup [.int a,.int b,.int c,.int d,.int 1])),z1,z2,z3,z4]∧ ∀k,k<i→ ∀u w s,[a,b,c,d,1]≠qq (l.getD k 0) u w s) ⟨none,none,none,none,rfl,fun k hk=>by omega⟩ ?_ ?_
 ·rintro i ρ hi ⟨z1,z2,z3,z4,rfl,hk⟩
  have mem:=aN0 hi
  have vb:=lb _ mem
  have vd:=(ld _).mp mem
  generalize ev':l.getD i 0=v at vb vd
  obtain⟨w,rfl⟩:=vd
  have v0:v≠0:=fun z=>a0 (by rw[z,Int.zero_mul])
  have wb:w.natAbs≤499:=by
   rw[Int.natAbs_mul]at ha
   have:1*w.natAbs≤v.natAbs*w.natAbs:=Nat.mul_le_mul_right _ (by omega)
   omega
  refine⟨by simp,?_⟩
  show(aQ _ _:US) _ [some (.pu (.tup [.int (v*w),.int b,.int c,.int d,.int 1])),some (.pu (.int v)),z2,z3,z4]
  rw[aO,lB]
  walk_at "u"
  rw[i0]
  dsimp only
  rw[Int.mul_fdiv_cancel_left _ v0]
  refine⟨⟨v0,aA4 (by omega) (by omega)⟩,?_⟩
  rw[aC4]
  walk_at "u"
  rw[i3,i2]
  dsimp only
  refine⟨d,c-v-w,rfl,by omega,by omega,fun us _ hus=> ?_⟩
  refine zS us (fun j ρ=> ∃z3 z4,ρ=[some (.pu (.tup [.int (v*w),.int b,.int c,.int d,.int 1])),some (.pu (.int v)),some (.pu (.int w)),z3,z4]∧ ∀k,k<j→us.getD k 0*w+v*(d-us.getD k 0)≠b) ⟨_,_,rfl,fun k hk=>by omega⟩ ?_ ?_
  ·rintro j ρ hj ⟨z3,z4,rfl,hk2⟩
   have um:=(hus _).mp (aN0 hj)
   generalize eu:us.getD j 0=u at um
   have ub:=bJ6 um (by omega) (by omega)
   refine⟨by simp,?_⟩
   show(aQ _ _:US) _ [some (.pu (.tup [.int (v*w),.int b,.int c,.int d,.int 1])),some (.pu (.int v)),some (.pu (.int w)),some (.pu (.int u)),z4]
   rw[aO]
   walk_at "u"
   rw[i3]
   dsimp only
   rw[i1]
   refine⟨cmL (by omega) (by omega),cmL (by omega) (by omega),?_⟩
   dsimp only
   by_cases q:u*w+v*(d-u)=b
   ·rw[if_pos q]
    refine⟨by decide,by decide,by decide,hy v u w (d-u) ?_ ?_⟩
    ·unfold qq
     rw[←q]
     have e1:v+w+u*(d-u)=c:=by rw[um];omega
     have e2:u+(d-u)=d:=by omega
     rw[e1,e2]
    ·simp only[List.forall_mem_cons]
     exact⟨by omega,by omega,by omega,by omega,by simp⟩
   ·rw[if_neg q]
    refine⟨_,_,rfl,fun k hk3=> ?_⟩
    by_cases ck:k<j
    ·exact hk2 k ck
    ·have:k=j:=by omega
     rw[this,eu]
     exact q
  ·rintro ρ ⟨z3,z4,rfl,hk2⟩
   have no:=b01 (P:=fun u=>u*w+v*(d-u)≠b) hk2
   refine⟨_,_,_,_,rfl,fun k hk3=> ?_⟩
   by_cases ck:k<i
   ·exact hk k ck
   ·have:k=i:=by omega
    rw[this,ev']
    intro u w' s q
    unfold qq at q
    injection q with q0 q;injection q with q1 q;injection q with q2 q;injection q with q3 q
    have ww:w'=w:=by
     have:=Int.eq_of_mul_eq_mul_left v0 q0
     omega
    subst ww
    have us':s=d-u:=by omega
    subst us'
    exact no u ((hus u).mpr (by omega)) q1.symm
 ·rintro ρ ⟨z1,z2,z3,z4,rfl,hk⟩
  walk_at "u"
  refine hn fun v u w s q=> ?_
  have no:=b01 (P:=fun v=> ∀u w s,[a,b,c,d,1]≠qq v u w s) hk
  refine no v ((ld v).mpr ?_) u w s q
  unfold qq at q
  injection q with q0 q
  exact⟨w,q0⟩
def nQ:Φ:=fun ds Q=> ∃p:List Int,ds=[aN p]∧cW p∧(¬Red p→Q (.pu .non))∧ ∀l r,Fac p l r→Red p→Q (.pu (.tup [aN l,aN r]))
def lM:US:=(mK 1)
def tL:US:=(aQ (eG (bH1 (cN (aG3 false (aG 1))) (cN (uOp (gH false) (iD (aS 0)) (uC (.int 5))))) (bK 1 (aM dU (aD (aG 0) aK))) cM) lM)
def zT:US:=(aQ (bK 1 (aM fJ (aD (aG 0) aK))) tL)
def wB:US:=(aQ (wX (aM bU (aD (aG 0) aK))) zT)
theorem b02: ∀ds Q,nQ ds Q→ds.length=1:=by rintro ds Q ⟨a,rfl,_⟩;rfl
theorem b82: ∀ds Q,nQ ds Q→wB {nx:=fun _=>Q (.pu .non),rt:=Q} (init ["p","q"] ds):=by
 rintro ds Q ⟨p,rfl,hp,hn,hy⟩
 unfold wB
 show(aQ _ _:US) _ [some (.pu (.tup (p.map .int))),none]
 rw[aO]
 walk_at "u"
 refine⟨p,rfl,hp,?_⟩
 try dsimp only
 unfold zT
 rw[aO]
 walk_at "u"
 refine⟨p,rfl,hp,fun nr=> ?_,fun l r fac red=> ?_⟩
 ·try dsimp only
  unfold tL
  rw[aO]
  walk_at "u"
  rw[List.length_map]
  by_cases c:(p.length:Int)=5
  ·simp only[c,if_true]
   have sm:=hp.ok.small
   rcases hp.cs with⟨a,b,rfl⟩| ⟨a,b,c',rfl⟩| ⟨a,b,c',d,rfl⟩
   ·simp at c
   ·simp at c
   ·simp only[List.forall_mem_cons]at sm
    refine⟨a,b,c',d,rfl,by simp only[List.forall_mem_cons];exact⟨sm.1,sm.2.1,sm.2.2.1,sm.2.2.2.1,by simp⟩,fun z=> ?_,fun nq=> ?_,fun v u w s q bd=> ?_⟩
    ·refine nr 0 ?_
     rw[bD6 hp]
     exact z
    ·unfold lM
     walk_at "u"
     refine hn fun rd=> ?_
     rcases rd with⟨z,hz⟩| ⟨v,u,w,s,q⟩
     ·exact nr z hz
     ·exact nq v u w s q
    ·unfold lM
     walk_at "u"
     exact hy _ _ (by rw[q];exact fac_qq bd) (.inr ⟨v,u,w,s,q⟩)
  ·simp only[c,if_true,if_false]
   unfold lM
   walk_at "u"
   refine hn fun rd=> ?_
   rcases rd with⟨z,hz⟩| ⟨v,u,w,s,q⟩
   ·exact nr z hz
   ·rw[q]at c
    exact c rfl
 ·try dsimp only
  unfold tL
  rw[aO]
  walk_at "u"
  unfold lM
  walk_at "u"
  exact hy l r fac red
def fOf (p:List Int):Nat→Int:=fun j=>p.getD j 0
theorem cW.rf {p:List Int}(h:cW p):RF (p.length-1) (fOf p):=by
 have lo:=h.ok.lo
 have hi:=h.ok.hi
 refine⟨by omega,by omega,?_,fun j hj=> ?_,fun j=> ?_⟩
 ·obtain⟨q,rfl⟩:=h.one
  show(q++[1]).getD _ 0=1
  rw[List.length_append,List.getD_eq_getElem?_getD,List.getElem?_append_right (by simp)]
  simp
 ·show p.getD j 0=0
  rw[List.getD_eq_getElem?_getD,List.getElem?_eq_none (by omega)]
  rfl
 ·exact Nat.le_trans (dL h.ok.small j) (by decide)
theorem cW.row {p:List Int}(h:cW p):aN p=aN (rwF (p.length-1+1) (fOf p)):=by
 have lo:=h.ok.lo
 have e:=b73 p
 rw[show p.length-1+1=p.length by omega]
 exact congrArg aN e
def lN:Φ:=fun ds Q=> ∃(r:List Int) (k:Int),ds=[aN r,.int k]∧r.length≤1000∧ -1000≤k∧k≤1000∧Q (.pu (aN (r++List.replicate (k-(r.length:Int)).toNat 0)))
def tM:US:=(cC (uOp eS (aG 0) (uOp bC4 (gW (aD (uC (.int 0)) aK)) (uOp M.gSub (aG 1) (iD (aS 0))))))
theorem aT3: ∀ds Q,lN ds Q→ds.length=2:=by rintro ds Q ⟨r,k,rfl,_⟩;rfl
theorem b03: ∀ds Q,lN ds Q→tM {nx:=fun _=>Q (.pu .non),rt:=Q} (init ["r","s"] ds):=by
 rintro ds Q ⟨r,k,rfl,hr,k0,k1,h⟩
 unfold tM
 simp only[aN]
 show(cC _:US) _ [some (.pu (.tup (r.map .int))),some (.pu (.int k))]
 walk_at "u"
 rw[List.length_map]
 have e:(List.replicate (k-(r.length:Int)).toNat [D.int 0]).flatten=(List.replicate (k-(r.length:Int)).toNat 0).map D.int:=aY8 _ _
 rw[e,←List.map_append]
 refine⟨by decide,⟨by simp,by omega,by omega,Nat.le_trans (show 1*(k-(r.length:Int)).toNat≤1000 by omega) (by decide)⟩,?_,h⟩
 rw[List.length_map,List.length_replicate]
 exact Nat.le_trans (show r.length+(k-(r.length:Int)).toNat≤3000 by omega) (by decide)
def eR:ΦX:=fun ds Q Ex=> ∃p:List Int,ds=[aN p]∧cW p∧(¬Red p→Q (.pu .non))∧(Red p→Ex "FallsApart")
def iY:USX:=(fun Ex=>aQ ((fun _=>(bK 1 (aM nQ (aD (aG 0) aK)))) Ex) ((fun Ex=>eG (cN (aG3 true (aG 1))) ((vZ "FallsApart" (aD (uIx (aS 1) (uC (.int 0))) (aD (uIx (aS 1) (uC (.int 1))) aK))) Ex) ((fun _=>cM) Ex)) Ex))
theorem tN: ∀ds Q Ex,eR ds Q Ex→ds.length=1:=by rintro ds Q Ex ⟨p,rfl,_⟩;rfl
theorem v9: ∀ds Q Ex,eR ds Q Ex→iY Ex {nx:=fun _=>Q (.pu .non),rt:=Q} (init ["p","q"] ds):=by
 rintro ds Q Ex ⟨p,rfl,rp,h0,h1⟩
 unfold iY
 dsimp only
 show(aQ _ _:US) _ [some (.pu (aN p)),none]
 rw[aO]
 walk_at "u"
 refine⟨p,rfl,rp,fun nr=> ?_,fun l r fac red=> ?_⟩
 ·walk_at "u"
  simpa using h0 nr
 ·walk_at "u"
  simp only[at0,at1]
  exact⟨by decide,h1 red⟩
def gN:ΦX:=fun ds Q Ex=> ∃(p:List Int) (size:Int),ds=[aN p,.int size]∧cW p∧Q (.pu .non)∧((∃q g,cB6 (p.length-1) (fOf p) size q g)→Ex "NotWhole")
def kL:USX:=(fun Ex=>aQ ((fun _=>(bK 2 (aM i4 (aD (aG 0) (aD (aM iJ (aD (aG 0) (aD (aG 1) aK))) aK))))) Ex) ((fun Ex=>eG (cN (aG3 true (aG 2))) ((fun Ex=>aQ ((fun _=>(bQ1 (aG 2) (sH (fN 3 (fN 4 sG))))) Ex) ((vZ "NotWhole" (aD (aG 3) (aD (aM lN (aD (aM bY (aD (dQ [3] [none,some 3,none] 2 (eO (aG 4)) (bO 0) (fun ρ Q=>Q true ρ) (uOp jQ (aG 0) (aG 1))) aK)) (aD (uOp M.gSub (iD (aS 0)) (uC (.int 1))) aK))) aK))) Ex)) Ex) ((fun _=>cM) Ex)) Ex))
theorem xK: ∀ds Q Ex,gN ds Q Ex→ds.length=2:=by rintro ds Q Ex ⟨p,size,rfl,_⟩;rfl
theorem yV: ∀ds Q Ex,gN ds Q Ex→kL Ex {nx:=fun _=>Q (.pu .non),rt:=Q} (init ["p","s","o","q","f"] ds):=by
 rintro ds Q Ex ⟨p,size,rfl,rp,h0,h1⟩
 have rf:=rp.rf
 rw[rp.row]
 generalize p.length-1=n at *
 generalize fOf p=f at *
 unfold kL
 dsimp only
 show(aQ _ _:US) _ [some (.pu (aN (rwF (n+1) f))),some (.pu (.int size)),none,none,none]
 rw[aO]
 walk_at "u"
 refine⟨n,f,size,rfl,rf,fun l hl hP=>⟨n,f,size,l,rfl,rf,hl,hP,?_,fun q g outs=> ?_⟩⟩
 ·walk_at "u"
  simpa using h0
 ·have pp:=yP outs.pr
  have p2:=pp.lo
  have p3:=pp.hi
  have ql:(cB7 n f g).length≤5:=by
   unfold cB7
   rw[rH]
   have:=rJ (divQ g.2 g.1 (n+1-g.1) f) (n+1-g.1)
   have:=rf.n4
   omega
  generalize cB7 n f g=r at *
  simp only[aN]
  walk_at "u"
  refine⟨by decide,by decide,trivial,?_⟩
  refine dA (t0:=0) r.length (fun k=>(r.map D.int).getD k .non) [some (.pu (.tup ((rwF (n+1) f).map .int))),some (.pu (.int size)),some (.pu (.tup [.int q,.tup (r.map .int)])),some (.pu (.int q)),some (.pu (.tup (r.map .int)))] (fun Q' q=> ?_) (by omega) (fun x l'=>[x,some (.pu (.int q)),some (.ow l')]) none rfl (fun _ _ _=>rfl) (fun _ _=>Nat.zero_lt_succ _) (fun _ _ _ q=>q) (fun _ _ _=>rfl) (fun k=> .int (r.getD k 0%q)) ?_ ?_
  ·walk_at "u"
   rw[List.length_map]
   exact q
  ·intro k l' Q' hk q'
   have e3:(r.map D.int).getD k .non= .int (r.getD k 0):=by
    rw[List.getD_eq_getElem?_getD,List.getElem?_map,List.getD_eq_getElem?_getD,List.getElem?_eq_getElem hk]
    rfl
   rw[e3]at q'⊢
   walk_at "u"
   refine⟨by omega,?_⟩
   rw[cF _ (by omega)]
   exact q'
  ·have e4:(List.range r.length).map (fun k=>D.int (r.getD k 0%q))=((List.range r.length).map fun k=>r.getD k 0%q).map D.int:=by rw[List.map_map];rfl
   rw[e4]
   have n4:=rf.n4
   walk_at "u"
   refine⟨_,_,rfl,by rw[List.length_map,List.length_range];omega,?_,?_,⟨by decide,h1 ⟨q,g,outs⟩⟩⟩
   ·rw[bS];omega
   ·rw[bS];omega
structure bX0 (p:List Int):Prop where
 rp:cW p
 irr: ¬Red p
 meas:(gI 4 (gM p)).natAbs≤39999
 whole: ¬ ∃q g,cB6 (p.length-1) (fOf p) (gI 4 (gM p)) q g
def qT:ΦM:=fun ds Q Ex=> ∃p:List Int,ds=[aN p]∧cW p∧(¬Red p→(gI 4 (gM p)).natAbs≤39999→Q [aN p,.int ((p.length:Int)-1),.int (gI 4 (gM p))])∧(¬bX0 p→Ex "FallsApart"∧Ex "TooGreat"∧Ex "NotWhole")
def aC5:USX:=(fun Ex=>aQ ((fun _=>(wX (aM bU (aD (aG 1) aK)))) Ex) ((fun Ex=>aQ ((fun Ex=>wX (aR7 eR (aD (aG 1) aK) Ex)) Ex) ((fun Ex=>aQ ((fun _=>(bK 2 (aM jY (aD (aG 1) aK)))) Ex) ((fun Ex=>aQ ((fun Ex=>eG (cN (uOp (nF fun i j=>decide (j<i)) (aM b56 (aD (aG 2) aK)) (uC (.int 39999)))) ((vZ "TooGreat" (aD (uC (.str "a ring's measure is from -39,999 to 39,999")) aK)) Ex) ((fun _=>cM) Ex)) Ex) ((fun Ex=>wX (aR7 gN (aD (aG 1) (aD (aG 2) aK)) Ex)) Ex)) Ex)) Ex)) Ex))
def aC6:UE:=(aG 1)
def aC7:UE:=(uOp M.gSub (iD (aS 1)) (uC (.int 1)))
def aC8:UE:=(aG 2)
theorem bJ7: ∀ds Q Ex,qT ds Q Ex→ds.length+1=2:=by rintro ds Q Ex ⟨p,rfl,_⟩;rfl
theorem bX1: ∀a ds Q Ex,qT ds Q Ex→aC5 Ex {nx:=fun ρ=>ρ[0]? =some (some (.pu (.adr a)))∧aC6 ρ fun b1 ρ1=>aC7 ρ1 fun b2 ρ2=>aC8 ρ2 fun b3 _=>Q [b1.d,b2.d,b3.d],rt:=fun _=>False} (init ["s","p","m"] (.adr a::ds)):=by
 rintro a ds Q Ex ⟨p,rfl,rp,h0,h1⟩
 have lo:=rp.ok.lo
 unfold aC5
 dsimp only
 show(aQ _ _:US) _ [some (.pu (.adr a)),some (.pu (aN p)),none]
 rw[aO]
 walk_at "u"
 refine⟨p,rfl,rp,?_⟩
 walk_at "u"
 refine⟨p,rfl,rp,fun nr=> ?_,fun red=>(h1 fun z=>z.irr red).1⟩
 refine⟨p,rfl,rp,?_⟩
 walk_at "u"
 by_cases c:(39999:Int)< (if gI 4 (gM p)<0 then -gI 4 (gM p)else gI 4 (gM p))
 ·rw[if_pos c]
  refine⟨by decide,(h1 fun z=> ?_).2.1⟩
  have:=z.meas
  split at c<;>omega
 ·rw[if_neg c]
  have me:(gI 4 (gM p)).natAbs≤39999:=by split at c<;>omega
  refine⟨p,gI 4 (gM p),rfl,rp,⟨trivial,?_⟩,fun o=>(h1 fun z=>z.whole o).2.2⟩
  unfold aC6 aC7 aC8
  simp only[aN]
  walk_at "u"
  rw[List.length_map]
  exact h0 nr me
def aT4 (r:List Int)(m:Int):Bool:=r.any fun c=>decide (c%m≠0)
def bX2 (p:List Int)(size:Int):Bool:=prL.all fun q=>decide (size%(q*q)≠0)||
 ((List.range q.toNat).all (fun c=>aT4 (aB9 (p.length-1) (fOf p) (nN (c:Int))) (q*q))&&
   (decide (p.length≠5)||(List.range q.toNat).all fun v=>(List.range q.toNat).all fun u=>aT4 (aB9 (p.length-1) (fOf p) (quF (v:Int) (u:Int))) (q*q)))
theorem mp_one {p:Int}{F:Nat×(Nat→Int)}(mp:MP p F.1 F.2)(h1:F.1=1):F=nN (F.2 0):=by
 refine Prod.ext h1 (funext fun j=> ?_)
 show F.2 j=if j=0 then F.2 0 else if j=1 then 1 else 0
 by_cases c0:j=0
 ·rw[if_pos c0,c0]
 ·by_cases c1:j=1
  ·rw[if_neg c0,if_pos c1,c1]
   have:=mp.top
   rw[h1]at this
   exact this
  ·rw[if_neg c0,if_neg c1]
   exact mp.hi j (by omega)
theorem xL {r:List Int}{m:Int}(h: ∀c∈r,c%m=0):aT4 r m=false:=by
 unfold aT4
 rw[List.any_eq_false]
 intro c hc
 simp[h c hc]
theorem bX3 {p:List Int}{size:Int}(rp:cW p)(h:bX2 p size=true): ¬ ∃q g,cB6 (p.length-1) (fOf p) size q g:=by
 rintro⟨q,g,o⟩
 have lo:=rp.ok.lo
 have hi:=rp.ok.hi
 have pp:=yP o.pr
 have h1:=List.all_eq_true.mp h q o.pr
 rw[Bool.or_eq_true,Bool.and_eq_true]at h1
 have nz: ¬decide (size%(q*q)≠0)=true:=by rw[decide_eq_true_eq];exact fun z=>z o.sq
 obtain⟨h2,h3⟩:=h1.resolve_left nz
 obtain⟨R,mR,e⟩:=o.tw
 have dg:p.length-1=g.1+g.1+R.1:=congrArg Prod.fst e
 have g1:=o.g1
 by_cases c1:g.1=1
 ·have eg:=mp_one o.mg c1
  have r0:=o.mg.rng 0
  have h4:=List.all_eq_true.mp h2 (g.2 0).toNat (List.mem_range.mpr (by omega))
  rw[show(((g.2 0).toNat:Nat):Int)=g.2 0 by omega,←eg,xL o.all]at h4
  cases h4
 ·have c2:g.1=2:=by omega
  have eg:=mp_two o.mg c2
  have r0:=o.mg.rng 0
  have r1:=o.mg.rng 1
  have n5: ¬decide (p.length≠5)=true:=by rw[decide_eq_true_eq];omega
  have h4:=(Bool.or_eq_true _ _▸h3).resolve_left n5
  have h5:=List.all_eq_true.mp (List.all_eq_true.mp h4 (g.2 0).toNat (List.mem_range.mpr (by omega))) (g.2 1).toNat (List.mem_range.mpr (by omega))
  rw[show(((g.2 0).toNat:Nat):Int)=g.2 0 by omega,show(((g.2 1).toNat:Nat):Int)=g.2 1 by omega,←eg,xL o.all]at h5
  cases h5
def kM:List (List Int):=[[5,0,1],[-10,0,1],[6,1,1],[-3,0,1],[-1,-1,0,1],[-2,0,0,1],[-1,4,0,1],[1,0,0,0,1],[-1,-1,0,0,1],[1,1,1,1,1],[-2,0,0,0,1],[1,0,-1,0,1]]
theorem b04:kM.all (fun p=>bX2 p (gI 4 (gM p))&&decide ((gI 4 (gM p)).natAbs≤39999))=true:=by decide +kernel
theorem nR: ∀p∈kM,cW p:=by
 intro p hp
 have h:kM.all (fun p=>decide (3≤p.length)&&decide (p.length≤5)&&p.all (fun x=>decide (x.natAbs≤499))&&decide (p=p.dropLast++[1]))=true:=by decide +kernel
 have h1:=List.all_eq_true.mp h p hp
 simp only[Bool.and_eq_true,decide_eq_true_eq,List.all_eq_true]at h1
 exact⟨⟨h1.1.1.1,h1.1.1.2,h1.1.2⟩,p.dropLast,h1.2⟩
theorem bD7 (f:Nat→Int)(z:Int): ∀n,∃k,ps f z (n+1)=f 0+z*k
 | 0=>⟨0,by show 0+f 0*z^0=_;rw[Int.pow_zero,Int.mul_one,Int.mul_zero];omega⟩
 | n+1=>by
  obtain⟨k,hk⟩:=bD7 f z n
  refine⟨k+f (n+1)*z^n,?_⟩
  show ps f z (n+1)+f (n+1)*z^(n+1)=_
  rw[hk,Int.pow_succ]
  grind
theorem wC {z a:Int}(h:z∣a)(ha:a≠0):z.natAbs≤a.natAbs:=Nat.le_of_dvd (by omega) (Int.natAbs_dvd_natAbs.mpr h)
theorem aT5:kM.all (fun p=>decide (p.getD 0 0≠0)&&decide ((p.getD 0 0).natAbs≤10)&&(List.range 21).all fun k=>decide (ev p ((k:Int)-10)≠0))=true:=by decide +kernel
theorem b83:kM.all (fun p=>decide (p.length≠5)||(decide ((p.getD 0 0).natAbs≤2)&&decide ((p.getD 2 0).natAbs≤1)&&decide ((p.getD 3 0).natAbs≤1)&&
  (List.range 5).all fun v=>(List.range 5).all fun w=>(List.range 7).all fun u=>(List.range 9).all fun s=>decide (p≠qq ((v:Int)-2) ((u:Int)-3) ((w:Int)-2) ((s:Int)-4))))=true:=by decide +kernel
theorem bX4 {u s:Int}(h1:(u+s).natAbs≤1)(h2:(u*s).natAbs≤5):u.natAbs≤3:=by
 refine Decidable.byContradiction fun z=> ?_
 rcases(show 4≤u∨u≤ -4 by omega)with c|c
 ·have:4*3≤u*(-s):=Int.mul_le_mul c (by omega) (by decide) (by omega)
  rw[Int.mul_neg]at this
  omega
 ·have:4*3≤(-u)*s:=Int.mul_le_mul (by omega) (by omega) (by decide) (by omega)
  rw[Int.neg_mul]at this
  omega
theorem bJ8: ∀p∈kM,¬Red p:=by
 intro p hp
 have h1:=List.all_eq_true.mp aT5 p hp
 simp only[Bool.and_eq_true,decide_eq_true_eq,List.all_eq_true,List.mem_range]at h1
 obtain⟨⟨a0,a1⟩,a2⟩:=h1
 have lo:=(nR p hp).ok.lo
 rintro(⟨z,hz⟩| ⟨v,u,w,s,e⟩)
 ·unfold ev at hz
  obtain⟨k,hk⟩:=bD7 (fun j=>p.getD j 0) z (p.length-1)
  rw[show p.length-1+1=p.length by omega,hz]at hk
  have dv:z∣p.getD 0 0:=⟨-k,by rw[Int.mul_neg];omega⟩
  have:=wC dv a0
  refine a2 (z+10).toNat (by omega) ?_
  rw[show(((z+10).toNat:Nat):Int)-10=z by omega]
  exact hz
 ·have h2:=List.all_eq_true.mp b83 p hp
  have l5:p.length=5:=by rw[e];rfl
  rw[Bool.or_eq_true]at h2
  have h3:=h2.resolve_left (by rw[decide_eq_true_eq];omega)
  simp only[Bool.and_eq_true,decide_eq_true_eq,List.all_eq_true,List.mem_range]at h3
  obtain⟨⟨⟨b0,b2⟩,b3⟩,b4⟩:=h3
  have e0:p.getD 0 0=v*w:=by rw[e];rfl
  have e2:p.getD 2 0=v+w+u*s:=by rw[e];rfl
  have e3:p.getD 3 0=u+s:=by rw[e];rfl
  have v2:=wC (z:=v) ⟨w,e0⟩ a0
  have w2:=wC (z:=w) ⟨v,by rw[e0,Int.mul_comm]⟩ a0
  rw[e2]at b2
  rw[e3]at b3
  have u3:=bX4 b3 (by omega)
  refine b4 (v+2).toNat (by omega) (w+2).toNat (by omega) (u+3).toNat (by omega) (s+4).toNat (by omega) ?_
  rw[show(((v+2).toNat:Nat):Int)-2=v by omega,show(((w+2).toNat:Nat):Int)-2=w by omega,show(((u+3).toNat:Nat):Int)-3=u by omega,show(((s+4).toNat:Nat):Int)-4=s by omega]
  exact e
theorem bX5: ∀p∈kM,bX0 p:=by
 intro p hp
 have h1:=List.all_eq_true.mp b04 p hp
 simp only[Bool.and_eq_true,decide_eq_true_eq]at h1
 exact⟨nR p hp,bJ8 p hp,h1.2,bX3 (nR p hp) h1.1⟩
def iB (C:Addr)(p:List Int):D:= .obj C ["poly","degree","measure"] [aN p,.int ((p.length:Int)-1),.int (gI 4 (gM p))]
theorem oH {ρ:Ev}{i:Nat}{C:Addr}{p:List Int}{Q:B→Ev→Prop}(h:ρ[i]? =some (some (.pu (iB C p)))):yJ "degree" (aG i) ρ Q=Q (.pu (.int ((p.length:Int)-1))) ρ:=by
 unfold yJ
 rw[a74 h]
 rfl
theorem uT {ρ:Ev}{i:Nat}{C:Addr}{p:List Int}{Q:B→Ev→Prop}(h:ρ[i]? =some (some (.pu (iB C p)))):yJ "poly" (aG i) ρ Q=Q (.pu (aN p)) ρ:=by
 unfold yJ
 rw[a74 h]
 rfl
def ttF (p:List Int)(n:Nat)(u:Nat→Int):Nat→Int:=fun i=>(if i=0 then 0 else u (i-1))-u (n-1)*p.getD i 0
def kB:Φ:=fun ds Q=> ∃(C:Addr) (p:List Int) (n:Nat) (u:Nat→Int),ds=[iB C p,aN (rwF n u)]∧cW p∧p.length=n+1∧Q (.pu (aN (rwF n (ttF p n u))))
def vI:US:=(cC (aM bY (aD (dQ [2,0] [none,some 3,some 2,some 0,none] 4 (eJ (aD (yJ "degree" (aG 0)) aK)) (bO 0) (fun ρ Q=>Q true ρ) (uOp M.gSub (uIx (aS 1) (aG 0)) (uOp dE (aG 2) (uIx (uV (yJ "poly" (aG 3))) (aG 0))))) aK)))
def vJ:US:=(aQ (bK 3 (uOp eS (gW (aD (uC (.int 0)) aK)) (uSl (aS 1) gX (iE (lD (uC (.int 1))))))) vI)
def rM:US:=(aQ (bK 2 (uIx (aS 1) (lD (uC (.int 1))))) vJ)
theorem aH3: ∀ds Q,kB ds Q→ds.length=2:=by rintro ds Q ⟨C,p,n,u,rfl,_⟩;rfl
theorem aT6: ∀ds Q,kB ds Q→rM {nx:=fun _=>Q (.pu .non),rt:=Q} (init ["r","x","l","m"] ds):=by
 rintro ds Q ⟨C,p,n,u,rfl,rp,hn,h⟩
 have lo:=rp.ok.lo
 have hi:=rp.ok.hi
 unfold rM
 simp only[aN]
 show(aQ _ _:US) _ [some (.pu (iB C p)),some (.pu (.tup ((rwF n u).map .int))),none,none]
 rw[aO]
 walk_at "u"
 rw[zP (by omega)]
 dsimp only
 unfold vJ
 rw[aO]
 walk_at "u"
 have s1:HT.sIx n n (some (-1))=n-1:=by
  show(if(-1:Int)<0 then(-1+(n:Int)).toNat else min (-1:Int).toNat n)=n-1
  rw[if_pos (by decide)]
  omega
 have ec:cutD ((rwF n u).map D.int) none (some (-1))=(rwF (n-1) u).map D.int:=by
  unfold cutD
  rw[bS,HT.sIx_none,s1,List.drop_zero,Nat.sub_zero,←List.map_take,aB1 _ _ _ (by omega)]
 have em:[D.int 0]++(rwF (n-1) u).map D.int=(rwF n fun i=>if i=0 then 0 else u (i-1)).map D.int:=by
  apply List.ext_getElem
  ·simp[rwF];omega
  ·intro k h1 h2
   cases k with
   | zero=>simp[rwF]
   | succ k=>simp[rwF]
 rw[ec,em,bS,bS,HT.sIx_none,s1]
 refine⟨by decide,by omega,Nat.le_trans (show 0+1+(n-1)≤5 by omega) (by decide),?_⟩
 unfold vI
 rw[fU,d8,cJ]
 refine dA (t0:=0) n (fun k=> .int (0+(k:Int))) [some (.pu (iB C p)),some (.pu (.tup ((rwF n u).map .int))),some (.pu (.int (u (n-1)))),some (.pu (.tup ((rwF n fun i=>if i=0 then 0 else u (i-1)).map .int)))] (fun Q' q=> ?_) (by omega) (fun x l'=>[x,some (.pu (.tup ((rwF n fun i=>if i=0 then 0 else u (i-1)).map .int))),some (.pu (.int (u (n-1)))),some (.pu (iB C p)),some (.ow l')]) none rfl (fun _ _ _=>rfl) (fun _ _=>Nat.zero_lt_succ _) (fun _ _ _ q=>q) (fun _ _ _=>rfl) (fun k=> .int (ttF p n u k)) ?_ ?_
 ·unfold eJ
  rw[cJ,oH (C:=C) (p:=p) rfl]
  walk_at "u"
  refine⟨⟨by omega,by omega⟩,?_⟩
  rw[show((p.length:Int)-1).toNat=n by omega]
  exact q
 ·intro k l' Q' hk q
  rw[Int.zero_add]
  have e5:atI (p.map D.int) (k:Int)=some (.int (p.getD k 0)):=bP (by rw[List.getElem?_map,List.getElem?_eq_getElem (by omega),List.getD_eq_getElem?_getD,List.getElem?_eq_getElem (by omega)];rfl)
  have e6:=dL rp.ok.small k
  walk_at "u"
  rw[jZ hk]
  dsimp only
  rw[uT (C:=C) (p:=p) rfl]
  simp only[aN]
  walk_at "u"
  rw[e5]
  dsimp only
  refine⟨cmR (by omega) (by omega),?_⟩
  unfold ttF at q
  rw[Int.zero_add]at q
  exact q
 ·rw[qP]
  exact h
def itT (p:List Int)(n:Nat)(u:Nat→Int):Nat→Nat→Int
 | 0=>u
 | k+1=>ttF p n (itT p n u k)
def eC:Φ:=fun ds Q=> ∃(C:Addr) (p:List Int) (n:Nat) (u:Nat→Int),ds=[iB C p,aN (rwF n u)]∧cW p∧p.length=n+1∧Q (.pu (.tup (tbF n n (itT p n u))))
def tO:US:=(cC (aM bY (aD (aG 2) aK)))
def tP:US:=(aQ (i7 (eJ (aD (uOp M.gSub (yJ "degree" (aG 0)) (uC (.int 1))) aK)) (bO 3) (yB 2 (aM kB (aD (aG 0) (aD (uIx (aS 2) (lD (uC (.int 1)))) aK))))) tO)
def pE:US:=(aQ (bK 2 (i6 (aD (aG 1) aK))) tP)
theorem aC9: ∀ds Q,eC ds Q→ds.length=2:=by rintro ds Q ⟨C,p,n,u,rfl,_⟩;rfl
theorem bX6 {n m:Nat}{t:Nat→Nat→Int}(h:0<n):atI (tbF n m t) (-1)=some (aN (rwF m (t (n-1)))):=by
 unfold L2.atI
 have e:ixN (tbF n m t).length (-1)=some (n-1):=by
  unfold ixN
  rw[xE,if_neg (by decide),if_pos (by omega)]
  congr 1
  omega
 rw[e]
 exact aS6 (by omega)
theorem aH4: ∀ds Q,eC ds Q→pE {nx:=fun _=>Q (.pu .non),rt:=Q} (init ["r","x","t","s"] ds):=by
 rintro ds Q ⟨C,p,n,u,rfl,rp,hn,h⟩
 have lo:=rp.ok.lo
 have hi:=rp.ok.hi
 unfold pE
 show(aQ _ _:US) _ [some (.pu (iB C p)),some (.pu (aN (rwF n u))),none,none]
 rw[aO]
 walk_at "u"
 refine⟨by decide,?_⟩
 unfold tP
 rw[aO]
 refine bJ (n-1) (fun k=> .int (0+(k:Int))) [some (.pu (iB C p)),some (.pu (aN (rwF n u))),some (.ow (tbF 1 n (itT p n u))),none] (fun Q' q=> ?_)
  (fun k ρ=> ∃x,ρ=[some (.pu (iB C p)),some (.pu (aN (rwF n u))),some (.ow (tbF (k+1) n (itT p n u))),x]) ⟨none,rfl⟩ ?_ ?_
 ·unfold eJ
  rw[cJ,aS8,oH (C:=C) (p:=p) rfl]
  walk_at "u"
  refine⟨⟨by omega,by omega⟩,?_⟩
  rw[show((p.length:Int)-1-1).toNat=n-1 by omega]
  exact q
 ·rintro k ρ hk ⟨x,rfl⟩
  walk_at "u"
  rw[bX6 (by omega),Nat.add_sub_cancel]
  dsimp only
  refine⟨by simp,C,p,n,itT p n u k,rfl,rp,hn,?_⟩
  walk_at "u"
  rw[xE]
  refine⟨Nat.lt_of_lt_of_le (show k+1<10 by omega) (by decide),some (.pu (.int (0+(k:Int)))),?_⟩
  have e:tbF (k+1) n (itT p n u)++[aN (rwF n (ttF p n (itT p n u k)))]=tbF (k+1+1) n (itT p n u):=by
   rw[bV0]
   unfold tbF
   apply List.map_congr_left
   intro i hi'
   dsimp only
   by_cases c:i=k+1
   ·rw[if_pos c,c];rfl
   ·rw[if_neg c]
  rw[e]
 ·rintro ρ ⟨x,rfl⟩
  rw[show n-1+1=n by omega]
  dsimp only
  unfold tO
  walk_at "u"
  exact h
def vA (n:Nat)(f:Nat→Int):Int:=((List.range n).map f).sum
def mD (p:List Int)(n:Nat)(u v:Nat→Int):Nat→Int:=fun j=>vA n fun i=>v i*itT p n u i j
theorem bJ9 {p:List Int}{n a:Nat}{u:Nat→Int}(hp: ∀x∈p,x.natAbs≤499)(hu: ∀j,(u j).natAbs≤2^a)(j:Nat):(ttF p n u j).natAbs≤2^(a+9):=by
 unfold ttF
 have h1:(if j=0 then(0:Int)else u (j-1)).natAbs≤2^a:=by
  split
  ·simp
  ·exact hu _
 have h2:(u (n-1)*p.getD j 0).natAbs≤2^a*499:=by rw[Int.natAbs_mul];exact Nat.mul_le_mul (hu _) (dL hp j)
 have h3:=Int.natAbs_sub_le (if j=0 then(0:Int)else u (j-1)) (u (n-1)*p.getD j 0)
 rw[Nat.pow_add]
 have:(2:Nat)^9=512:=rfl
 omega
theorem nA {p:List Int}{n a:Nat}{u:Nat→Int}(hp: ∀x∈p,x.natAbs≤499)(hu: ∀j,(u j).natAbs≤2^a): ∀k j,(itT p n u k j).natAbs≤2^(a+9*k)
 | 0,j=>hu j
 | k+1,j=>by
  have:=bJ9 (n:=n) hp (fun j=>nA (n:=n) hp hu k j) j
  rw[Nat.mul_succ,←Nat.add_assoc]
  exact this
def a57 (p:List Int)(n k:Nat)(f:Nat→Int):Nat→Int:=fun m=>if k-n≤m∧m<k then f m-f k*p.getD (m-(k-n)) 0 else f m
def sP (p:List Int)(n:Nat)(f:Nat→Int):Nat→Nat→Int
 | 0=>f
 | t+1=>a57 p n (2*n-2-t) (sP p n f t)
theorem red2 (p:List Int)(u v:Nat→Int)(hu: ∀j,2≤j→u j=0)(hv: ∀j,2≤j→v j=0): ∀j,j<2→sP p 2 (conv u v 2) 1 j=mD p 2 u v j
 | 0,_=>by simp[sP,a57,conv,shF,mD,vA,itT,ttF,List.range_succ,hv];grind
 | 1,_=>by simp[sP,a57,conv,shF,mD,vA,itT,ttF,List.range_succ,hv];grind
theorem red3 (p:List Int)(u v:Nat→Int)(hu: ∀j,3≤j→u j=0)(hv: ∀j,3≤j→v j=0): ∀j,j<3→sP p 3 (conv u v 3) 2 j=mD p 3 u v j
 | 0,_=>by simp[sP,a57,conv,shF,mD,vA,itT,ttF,List.range_succ,hv];grind
 | 1,_=>by simp[sP,a57,conv,shF,mD,vA,itT,ttF,List.range_succ,hv];grind
 | 2,_=>by simp[sP,a57,conv,shF,mD,vA,itT,ttF,List.range_succ,hv];grind
theorem red4 (p:List Int)(u v:Nat→Int)(hu: ∀j,4≤j→u j=0)(hv: ∀j,4≤j→v j=0): ∀j,j<4→sP p 4 (conv u v 4) 3 j=mD p 4 u v j
 | 0,_=>by simp[sP,a57,conv,shF,mD,vA,itT,ttF,List.range_succ,hv];grind
 | 1,_=>by simp[sP,a57,conv,shF,mD,vA,itT,ttF,List.range_succ,hv];grind
 | 2,_=>by simp[sP,a57,conv,shF,mD,vA,itT,ttF,List.range_succ,hv];grind
 | 3,_=>by simp[sP,a57,conv,shF,mD,vA,itT,ttF,List.range_succ,hv];grind
def nS:Φ:=fun ds Q=> ∃(p:List Int) (n e:Nat) (u v:Nat→Int),ds=[aN p,aN (rwF n u),aN (rwF n v)]∧cW p∧p.length=n+1∧e≤8900∧(∀j,(u j).natAbs≤2^e)∧(∀j,(v j).natAbs≤2^e)∧(∀j,n≤j→u j=0)∧(∀j,n≤j→v j=0)∧Q (.pu (aN (rwF n (mD p n u v))))
def aN1:US:=(cC (aM bY (aD (uSl (aS 4) gX (iE (aG 3))) aK)))
def aN2:US:=(aQ (i7 (aX6 (aD (uOp M.gSub (uOp dE (uC (.int 2)) (aG 3)) (uC (.int 2))) (aD (uOp M.gSub (aG 3) (uC (.int 1))) (aD (lD (uC (.int 1))) aK)))) (bO 7) (i7 (eJ (aD (aG 3) aK)) (bO 6) (aQ (bK 8 (uOp eS (uOp M.gSub (aG 7) (aG 3)) (aG 6))) (aK4 4 (uOp M.gSub (uIx (aS 4) (aG 8)) (uOp dE (uIx (aS 4) (aG 7)) (uIx (aS 0) (aG 6)))) (aG 8))))) aN1)
def aN3:US:=(aQ (i7 (eJ (aD (aG 3) aK)) (bO 5) (i7 (eJ (aD (aG 3) aK)) (bO 6) (aK4 4 (uOp eS (uIx (aS 4) (uOp eS (aG 5) (aG 6))) (uOp dE (uIx (aS 1) (aG 5)) (uIx (aS 2) (aG 6)))) (uOp eS (aG 5) (aG 6))))) aN2)
def aN4:US:=(aQ (bK 4 (uOp dE (i6 (aD (uC (.int 0)) aK)) (uOp M.gSub (uOp dE (uC (.int 2)) (aG 3)) (uC (.int 1))))) aN3)
def aD0:US:=(aQ (bK 3 (uOp M.gSub (iD (aS 0)) (uC (.int 1)))) aN4)
theorem bK0: ∀ds Q,nS ds Q→ds.length=3:=by rintro ds Q ⟨p,n,e,u,v,rfl,_⟩;rfl
theorem aT7 {p:List Int}{n:Nat}{u v:Nat→Int}(n2:2≤n)(n4:n≤4)(hu: ∀j,n≤j→u j=0)(hv: ∀j,n≤j→v j=0):rwF n (sP p n (conv u v n) (n-1))=rwF n (mD p n u v):=by
 refine fO fun j hj=> ?_
 rcases(show n=2∨n=3∨n=4 by omega)with rfl|rfl|rfl
 ·exact red2 p u v hu hv j hj
 ·exact red3 p u v hu hv j hj
 ·exact red4 p u v hu hv j hj
def aH5 (p:List Int)(n k j:Nat)(f:Nat→Int):Nat→Int:=fun m=>if k-n≤m∧m<k-n+j then f m-f k*p.getD (m-(k-n)) 0 else f m
theorem bX7: ∀ds Q,nS ds Q→aD0 {nx:=fun _=>Q (.pu .non),rt:=Q} (init ["p","x","y","n","r","i","j","k","a"] ds):=by
 rintro ds Q ⟨p,n,e,u,v,rfl,rp,hn,he,hu,hv,uz,vz,h⟩
 have lo:=rp.ok.lo
 have hi:=rp.ok.hi
 unfold aD0
 simp only[aN]
 show(aQ _ _:US) _ [some (.pu (.tup (p.map .int))),some (.pu (.tup ((rwF n u).map .int))),some (.pu (.tup ((rwF n v).map .int))),none,none,none,none,none,none]
 rw[aO]
 walk_at "u"
 rw[List.length_map,show(p.length:Int)-1=(n:Int)by omega]
 unfold aN4
 rw[aO]
 walk_at "u"
 rw[show 2*(n:Int)-1=((2*n-1:Nat):Int)by omega,Int.toNat_natCast,aM2]
 refine⟨by decide,cmL (by decide) (by decide),⟨by omega,by omega,Nat.le_trans (show 1*(2*n-1)≤300 by omega) (by decide)⟩,?_⟩
 unfold aN3
 rw[aO]
 refine bJ n (fun i=> .int (0+i)) [some (.pu (.tup (p.map .int))),some (.pu (.tup ((rwF n u).map .int))),some (.pu (.tup ((rwF n v).map .int))),some (.pu (.int (n:Int))),some (.ow ((rwF (2*n-1) fun _=>0).map .int)),none,none,none,none] (fun Q' q=> ?_)
  (fun i ρ=> ∃x y,ρ=[some (.pu (.tup (p.map .int))),some (.pu (.tup ((rwF n u).map .int))),some (.pu (.tup ((rwF n v).map .int))),some (.pu (.int (n:Int))),some (.ow ((rwF (2*n-1) (conv u v i)).map .int)),x,y,none,none]) ⟨none,none,rfl⟩ ?_ ?_
 ·walk_at "u"
  refine⟨⟨by omega,by omega⟩,?_⟩
  rw[Int.toNat_natCast]
  exact q
 ·rintro i ρ hi' ⟨x,y,rfl⟩
  rw[Int.zero_add]
  refine⟨by simp,?_⟩
  show(i7 _ _ _:US) _ [some (.pu (.tup (p.map .int))),some (.pu (.tup ((rwF n u).map .int))),some (.pu (.tup ((rwF n v).map .int))),some (.pu (.int (n:Int))),some (.ow ((rwF (2*n-1) (conv u v i)).map .int)),some (.pu (.int (i:Int))),y,none,none]
  refine bJ n (fun j=> .int (0+j)) [some (.pu (.tup (p.map .int))),some (.pu (.tup ((rwF n u).map .int))),some (.pu (.tup ((rwF n v).map .int))),some (.pu (.int (n:Int))),some (.ow ((rwF (2*n-1) (conv u v i)).map .int)),some (.pu (.int (i:Int))),y,none,none] (fun Q' q=> ?_)
   (fun j ρ=> ∃y,ρ=[some (.pu (.tup (p.map .int))),some (.pu (.tup ((rwF n u).map .int))),some (.pu (.tup ((rwF n v).map .int))),some (.pu (.int (n:Int))),some (.ow ((rwF (2*n-1) fun m=>if m<i+j then conv u v (i+1) m else conv u v i m).map .int)),some (.pu (.int (i:Int))),y,none,none]) ⟨y,by rw[b77]⟩ ?_ ?_
  ·walk_at "u"
   refine⟨⟨by omega,by omega⟩,?_⟩
   rw[Int.toNat_natCast]
   exact q
  ·rintro j ρ hj ⟨y,rfl⟩
   rw[Int.zero_add]
   have hij:i+j<2*n-1:=by omega
   have c2:(i:Int)+(j:Int)=((i+j:Nat):Int):=by omega
   walk_at "u"
   rw[c2,jZ hij,jZ hi',jZ hj]
   dsimp only
   rw[bS,aS7 hij,if_neg (show ¬i+j<i+j by omega)]
   refine⟨by simp,.inr ⟨Sm.pow (hu i) (by omega),Sm.pow (hv j) (by omega)⟩,some (.pu (.int (j:Int))),?_⟩
   rw[a72 hij,b79]
  ·rintro ρ ⟨y,rfl⟩
   rw[b78 vz]
   exact⟨_,_,rfl⟩
 ·rintro ρ ⟨x,y,rfl⟩
  dsimp only
  unfold aN2
  rw[aO]
  refine bJ (n-1) (fun t=> .int ((2*n-2:Nat)-(t:Int))) [some (.pu (.tup (p.map .int))),some (.pu (.tup ((rwF n u).map .int))),some (.pu (.tup ((rwF n v).map .int))),some (.pu (.int (n:Int))),some (.ow ((rwF (2*n-1) (conv u v n)).map .int)),x,y,none,none] (fun Q' q=> ?_)
   (fun t ρ=> ∃y z w,ρ=[some (.pu (.tup (p.map .int))),some (.pu (.tup ((rwF n u).map .int))),some (.pu (.tup ((rwF n v).map .int))),some (.pu (.int (n:Int))),some (.ow ((rwF (2*n-1) (sP p n (conv u v n) t)).map .int)),x,y,z,w]) ⟨y,none,none,rfl⟩ ?_ ?_
  ·walk_at "u"
   refine⟨cmL (by decide) (by decide),trivial,⟨by omega,by omega,by omega,by omega⟩,?_⟩
   rw[show(2*(n:Int)-2-((n:Int)-1)).toNat=n-1 by omega,show 2*(n:Int)-2=((2*n-2:Nat):Int)by omega]
   exact q
  ·rintro t ρ ht ⟨y,z,w,rfl⟩
   obtain⟨k,hk⟩: ∃k:Nat,k=2*n-2-t:=⟨_,rfl⟩
   rw[show((2*n-2:Nat):Int)-(t:Int)=(k:Int)by omega]
   generalize hf:sP p n (conv u v n) t=f
   refine⟨by simp,?_⟩
   show(i7 _ _ _:US) _ [some (.pu (.tup (p.map .int))),some (.pu (.tup ((rwF n u).map .int))),some (.pu (.tup ((rwF n v).map .int))),some (.pu (.int (n:Int))),some (.ow ((rwF (2*n-1) f).map .int)),x,y,some (.pu (.int (k:Int))),w]
   refine bJ n (fun j=> .int (0+j)) [some (.pu (.tup (p.map .int))),some (.pu (.tup ((rwF n u).map .int))),some (.pu (.tup ((rwF n v).map .int))),some (.pu (.int (n:Int))),some (.ow ((rwF (2*n-1) f).map .int)),x,y,some (.pu (.int (k:Int))),w] (fun Q' q=> ?_)
    (fun j ρ=> ∃y w,ρ=[some (.pu (.tup (p.map .int))),some (.pu (.tup ((rwF n u).map .int))),some (.pu (.tup ((rwF n v).map .int))),some (.pu (.int (n:Int))),some (.ow ((rwF (2*n-1) (aH5 p n k j f)).map .int)),x,y,some (.pu (.int (k:Int))),w]) ⟨y,w,?_⟩ ?_ ?_
   ·walk_at "u"
    refine⟨⟨by omega,by omega⟩,?_⟩
    rw[Int.toNat_natCast]
    exact q
   ·have e0:aH5 p n k 0 f=f:=funext fun m=>by unfold aH5;rw[if_neg (by omega)]
    rw[e0]
   ·rintro j ρ hj ⟨y,w,rfl⟩
    rw[Int.zero_add]
    have hat:k-n+j<2*n-1:=by omega
    have hkk:k<2*n-1:=by omega
    have c2:(k:Int)-(n:Int)+(j:Int)=((k-n+j:Nat):Int):=by omega
    have e5:atI (p.map D.int) (j:Int)=some (.int (p.getD j 0)):=bP (by rw[List.getElem?_map,List.getElem?_eq_getElem (by omega),List.getD_eq_getElem?_getD,List.getElem?_eq_getElem (by omega)];rfl)
    have e6:=dL rp.ok.small j
    walk_at "u"
    rw[c2,jZ hat,jZ hkk,e5]
    dsimp only
    rw[bS,aS7 hat]
    refine⟨by simp,cmR (by omega) (by omega),some (.pu (.int (j:Int))),some (.pu (.int ((k-n+j:Nat):Int))),?_⟩
    rw[a72 hat]
    have e7:(fun x=>if x=k-n+j then aH5 p n k j f (k-n+j)-aH5 p n k j f k*p.getD j 0 else aH5 p n k j f x)=aH5 p n k (j+1) f:=funext fun m=>by
     unfold aH5
     by_cases c:m=k-n+j
     ·rw[if_pos c,if_neg (by omega),if_neg (by omega),if_pos (by omega),c,show k-n+j-(k-n)=j by omega]
     ·rw[if_neg c]
      by_cases c3:k-n≤m∧m<k-n+j
      ·rw[if_pos c3,if_pos (by omega)]
      ·rw[if_neg c3,if_neg (by omega)]
    rw[e7]
   ·rintro ρ ⟨y,w,rfl⟩
    refine⟨y,some (.pu (.int (k:Int))),w,?_⟩
    have e8:aH5 p n k n f=sP p n (conv u v n) (t+1):=by
     show _=a57 p n (2*n-2-t) (sP p n (conv u v n) t)
     rw[hf,←hk]
     unfold aH5 a57
     funext m
     rw[show k-n+n=k by omega]
    rw[e8]
  ·rintro ρ ⟨y,z,w,rfl⟩
   dsimp only
   unfold aN1
   walk_at "u"
   rw[aS3 _ _ (by rw[bS];omega),←List.map_take,aB1 _ _ _ (by omega),aT7 (by omega) (by omega) uz vz]
   trace_state
   exact h
theorem aD1 (row:List Int)(s:Int): ∀k,(yL row s k).length=row.length
 | 0=>rfl
 | k+1=>by unfold yL;rw[List.length_set];exact aD1 row s k
theorem bD8 (p:List Int)(s:Int): ∀k,(shK p s k).length=p.length
 | 0=>rfl
 | k+1=>by unfold shK;rw[aD1];exact bD8 p s k
theorem cB8 {n k:Nat}(h:k<n):ixN n (k:Int)=some k:=by
 unfold ixN
 rw[if_pos (by omega),if_pos (by omega),Int.toNat_natCast]
theorem bX8 (l:List Int)(k:Nat)(x:Int):(l.map D.int).set k (.int x)=(l.set k x).map D.int:=by rw[List.map_set]
def kN:Φ:=fun ds Q=> ∃(p:List Int) (s:Int),ds=[aN p,.int s]∧3≤p.length∧p.length≤5∧s.natAbs≤3∧Q (.pu (aN (shK p s (p.length-1))))
def wD:US:=(aQ (bK 2 (aM wV (aD (aG 0) aK))) (aQ (i7 (eJ (aD (uOp M.gSub (iD (aS 2)) (uC (.int 1))) aK)) (bO 3) (i7 (aX6 (aD (uOp M.gSub (iD (aS 2)) (uC (.int 2))) (aD (uOp M.gSub (aG 3) (uC (.int 1))) (aD (lD (uC (.int 1))) aK)))) (bO 4) (aK4 2 (uOp eS (uIx (aS 2) (aG 4)) (uOp dE (aG 1) (uIx (aS 2) (uOp eS (aG 4) (uC (.int 1)))))) (aG 4)))) (cC (aM bY (aD (aG 2) aK)))))
theorem b05: ∀ds Q,kN ds Q→ds.length=2:=by rintro ds Q ⟨a,b,rfl,_⟩;rfl
theorem b84: ∀ds Q,kN ds Q→wD {nx:=fun _=>Q (.pu .non),rt:=Q} (init ["p","s","r","l","a"] ds):=by
 rintro ds Q ⟨p,s,rfl,h3,h5,hs,h⟩
 have lp:(p.map D.int).length=p.length:=List.length_map _
 unfold wD
 show(aQ _ _:US) _ [some (.pu (.tup (p.map .int))),some (.pu (.int s)),none,none,none]
 walk_at "u"
 refine bJ (p.length-1) (fun i=> .int (0+i)) [some (.pu (.tup (p.map .int))),some (.pu (.int s)),some (.ow (p.map .int)),none,none] ?_
  (fun i ρ=> ∃x y,ρ=[some (.pu (.tup (p.map .int))),some (.pu (.int s)),some (.ow ((shK p s i).map .int)),x,y]) ⟨none,none,rfl⟩ ?_ ?_
 ·intro Q' q
  simp only[eJ]
  walk_at "u"
  rw[lp]
  refine⟨by omega,?_⟩
  rw[show((p.length:Int)-1).toNat=p.length-1 by omega]
  exact q
 ·rintro i ρ hi ⟨x,y,rfl⟩
  have lk:=bD8 p s i
  have e1:shK p s (i+1)=yL (shK p s i) s (p.length-1-i):=rfl
  rw[e1]
  generalize shK p s i=row at lk
  have lrow:(row.map D.int).length=row.length:=List.length_map _
  walk_at "u"
  refine⟨by decide,?_⟩
  refine bJ (p.length-1-i) (fun k=> .int ((p.length:Int)-2-k)) [some (.pu (.tup (p.map .int))),some (.pu (.int s)),some (.ow (row.map .int)),some (.pu (.int (0+(i:Int)))),y] ?_
   (fun k ρ=> ∃y,ρ=[some (.pu (.tup (p.map .int))),some (.pu (.int s)),some (.ow ((yL row s k).map .int)),some (.pu (.int (0+(i:Int)))),y]) ⟨y,rfl⟩ ?_ ?_
  ·intro Q' q
   simp only[aX6]
   walk_at "u"
   rw[lrow,lk]
   refine⟨trivial,by omega,?_⟩
   rw[show((p.length:Int)-2-(0+(i:Int)-1)).toNat=p.length-1-i by omega]
   exact q
  ·rintro k ρ hk ⟨y,rfl⟩
   have l2:=aD1 row s k
   walk_at "u"
   refine⟨by decide,?_⟩
   have a1:(p.length:Int)-2-(k:Int)=((p.length-2-k:Nat):Int):=by omega
   have a2:((p.length-2-k:Nat):Int)+1=((p.length-1-k:Nat):Int):=by omega
   rw[a1,a2,sZ (show p.length-2-k< (yL row s k).length by omega),sZ (show p.length-1-k< (yL row s k).length by omega)]
   dsimp only
   rw[cB8 (show p.length-2-k< ((yL row s k).map D.int).length by rw[List.length_map];omega)]
   refine⟨cmL (by omega) (by omega),some (.pu (.int ((p.length-2-k:Nat):Int))),?_⟩
   rw[bX8]
   rw[←lk]
   rfl
  ·rintro ρ ⟨y,rfl⟩
   exact⟨_,_,rfl⟩
 ·rintro ρ ⟨x,y,rfl⟩
  walk_at "u"
  exact h
def j7:Φ:=fun ds Q=> ∃c:Int,ds=[.int c]∧ ∀p∈kM,Q (.pu (aN p))
def tQ:US:=(cC (uIx (aS 1) (uOp jQ (aM lF (aD (aG 0) (aD (uC (.int 3)) (aD (uC (.int 998244353)) aK)))) (uC (.int 12)))))
def tT:US:=(aQ (bK 1 (uOp eS (aG 1) (i6 (aD (gW (aD (uC (.int 1)) (aD (uC (.int 0)) (aD (uC (.int 0)) (aD (uC (.int 0)) (aD (uC (.int 1)) aK)))))) (aD (gW (aD (lD (uC (.int 1))) (aD (lD (uC (.int 1))) (aD (uC (.int 0)) (aD (uC (.int 0)) (aD (uC (.int 1)) aK)))))) (aD (gW (aD (uC (.int 1)) (aD (uC (.int 1)) (aD (uC (.int 1)) (aD (uC (.int 1)) (aD (uC (.int 1)) aK)))))) (aD (gW (aD (lD (uC (.int 2))) (aD (uC (.int 0)) (aD (uC (.int 0)) (aD (uC (.int 0)) (aD (uC (.int 1)) aK)))))) (aD (gW (aD (uC (.int 1)) (aD (uC (.int 0)) (aD (lD (uC (.int 1))) (aD (uC (.int 0)) (aD (uC (.int 1)) aK)))))) aK)))))))) tQ)
def pF:US:=(aQ (bK 1 (i6 (aD (gW (aD (uC (.int 5)) (aD (uC (.int 0)) (aD (uC (.int 1)) aK)))) (aD (gW (aD (lD (uC (.int 10))) (aD (uC (.int 0)) (aD (uC (.int 1)) aK)))) (aD (gW (aD (uC (.int 6)) (aD (uC (.int 1)) (aD (uC (.int 1)) aK)))) (aD (gW (aD (lD (uC (.int 3))) (aD (uC (.int 0)) (aD (uC (.int 1)) aK)))) (aD (gW (aD (lD (uC (.int 1))) (aD (lD (uC (.int 1))) (aD (uC (.int 0)) (aD (uC (.int 1)) aK))))) (aD (gW (aD (lD (uC (.int 2))) (aD (uC (.int 0)) (aD (uC (.int 0)) (aD (uC (.int 1)) aK))))) (aD (gW (aD (lD (uC (.int 1))) (aD (uC (.int 4)) (aD (uC (.int 0)) (aD (uC (.int 1)) aK))))) aK))))))))) tT)
theorem aD2: ∀ds Q,j7 ds Q→ds.length=1:=by rintro ds Q ⟨c,rfl,_⟩;rfl
theorem bX9 {k:Int}(h0:0≤k)(h1:k<12): ∃p∈kM,atI (kM.map aN) k=some (aN p):=by
 obtain⟨i,rfl⟩: ∃i:Nat,k=(i:Int):=⟨k.toNat,by omega⟩
 have hi:i<kM.length:=show i<12 by omega
 exact⟨kM[i],List.getElem_mem hi,bP (by rw[List.getElem?_map,List.getElem?_eq_getElem hi];rfl)⟩
theorem aH6: ∀ds Q,j7 ds Q→pF {nx:=fun _=>Q (.pu .non),rt:=Q} (init ["c","k"] ds):=by
 rintro ds Q ⟨c,rfl,h⟩
 unfold pF
 show(aQ _ _:US) _ [some (.pu (.int c)),none]
 rw[aO]
 walk_at "u"
 refine⟨by decide,by decide,by decide,by decide,by decide,by decide,by decide,by decide,?_⟩
 unfold tT
 rw[aO]
 walk_at "u"
 refine⟨by decide,by decide,by decide,by decide,by decide,by decide,by decide,?_⟩
 unfold tQ
 walk_at "u"
 refine⟨c,3,998244353,rfl,by decide,by decide,by decide,fun r r0 r1=> ?_⟩
 walk_at "u"
 refine⟨by decide,?_⟩
 rw[cF _ (by decide)]
 obtain⟨p,hp,e⟩:=bX9 (Int.emod_nonneg r (show(12:Int)≠0 by decide)) (Int.emod_lt_of_pos r (show(0:Int)<12 by decide))
 have e': ∀l:List D,l=kM.map aN→(match atI l (r%12)with|some x=>Q (.pu x)|none=>False):=fun l hl=>by
  rw[hl,e]
  exact h p hp
 exact e' _ rfl
def xM:Φ:=fun ds Q=> ∃c q:Int,ds=[.int c,.int q]∧0<q∧ ∀p,cW p→Q (.pu (aN p))
def xN:Φ:=fun ds Q=> ∃(ns:List Int) (k:Nat) (q:Int),ds=[.rol (ns.map .int),.int (k:Int),.int q]∧ns.length≤63∧k≤1000∧0<q∧ ∀C p,cW p→Q (.pu (iB C p))
def aD3:US:=(mK 3)
def b06:US:=(aQ (eG (cN (aG3 false (aG 3))) (bK 3 (bT8 ["poly","degree","measure"] qT (aD (aM j7 (aD (aM jU (aD (aG 0) (aD (aG 1) aK))) aK)) aK))) cM) aD3)
def b07:US:=(aQ (i7 (eJ (aD (uC (.int 3)) aK)) (bO 4) (eG (cN (aG3 false (aG 3))) (bT9 3 ["poly","degree","measure"] qT (aD (aM xM (aD (aM jU (aD (aG 0) (aD (uOp eS (aG 1) (aG 4)) aK))) (aD (aG 2) aK))) aK) ["FallsApart","TooGreat","NotWhole"] (bK 3 (uC .non))) cM)) b06)
def aT8:US:=(aQ (bK 3 (uC .non)) b07)
theorem bY0: ∀ds Q,xN ds Q→ds.length=3:=by rintro ds Q ⟨ns,k,q,rfl,_⟩;rfl
theorem cB9: ∀ds Q,xN ds Q→aT8 {nx:=fun _=>Q (.pu .non),rt:=Q} (init ["s","k","q","f","j"] ds):=by
 rintro ds Q ⟨ns,k,q,rfl,hl,hk,hq,h⟩
 unfold aT8
 show(aQ _ _:US) _ [some (.pu (.rol (ns.map .int))),some (.pu (.int (k:Int))),some (.pu (.int q)),none,none]
 rw[aO]
 walk_at "u"
 unfold b07
 rw[aO]
 refine bJ 3 (fun i=> .int (0+i)) [some (.pu (.rol (ns.map .int))),some (.pu (.int (k:Int))),some (.pu (.int q)),some (.pu .non),none] (fun Q' q=> ?_)
  (fun i ρ=> ∃d x,ρ=[some (.pu (.rol (ns.map .int))),some (.pu (.int (k:Int))),some (.pu (.int q)),some (.pu d),x]∧(d= .non∨ ∃C p,cW p∧d=iB C p)) ⟨.non,none,rfl,.inl rfl⟩ ?_ ?_
 ·walk_at "u"
  exact⟨by decide,q⟩
 ·rintro i ρ hi ⟨d,x,rfl,hd⟩
  refine⟨by simp,?_⟩
  rcases hd with rfl| ⟨C,p,rp,rfl⟩
  ·walk_at "u"
   unfold bT9
   walk_at "u"
   refine⟨ns,(k:Int)+(0+(i:Int)),rfl,hl,by omega,by omega,fun c=>⟨c,q,rfl,hq,fun p rp=> ?_⟩⟩
   walk_at "u"
   refine⟨p,rfl,rp,fun _ _ C=>⟨iB C p,some (.pu (.int (0+(i:Int)))),rfl,.inr ⟨C,p,rp,rfl⟩⟩,fun _=> ?_⟩
   refine⟨⟨by simp,?_⟩,⟨by simp,?_⟩,⟨by simp,?_⟩⟩<;>exact⟨.non,_,rfl,.inl rfl⟩
  ·simp only[iB]
   walk_at "u"
   exact⟨iB C p,_,rfl,.inr ⟨C,p,rp,rfl⟩⟩
 ·rintro ρ ⟨d,x,rfl,hd⟩
  dsimp only
  unfold b06
  rw[aO]
  rcases hd with rfl| ⟨C,p,rp,rfl⟩
  ·walk_at "u"
   unfold bT8
   walk_at "u"
   refine⟨ns,(k:Int),rfl,hl,by omega,by omega,fun c=>⟨c,rfl,fun p hp=> ?_⟩⟩
   walk_at "u"
   refine⟨p,rfl,nR p hp,fun _ _ C=> ?_,fun z=>absurd (bX5 p hp) z⟩
   unfold aD3
   walk_at "u"
   exact h C p (nR p hp)
  ·simp only[iB]
   walk_at "u"
   unfold aD3
   walk_at "u"
   exact h C p rp
def b08:US:=(cC (aM kN (aD (gW (aD (uOp M.gSub (uIx (aS 4) (uC (.int 2))) (uC (.int 3))) (aD (uOp M.gSub (uIx (aS 4) (uC (.int 3))) (uC (.int 3))) (aD (uOp M.gSub (uIx (aS 4) (uC (.int 4))) (uC (.int 3))) (aD (uOp M.gSub (uIx (aS 4) (uC (.int 6))) (uC (.int 3))) (aD (uC (.int 1)) aK)))))) (aD (uOp M.gSub (uIx (aS 4) (uC (.int 5))) (uC (.int 2))) aK))))
def b09:US:=(aQ (bK 4 (aM fT (aD (aG 0) (aD (i6 (aD (uC (.int 3)) (aD (uC (.int 8)) (aD (uC (.int 7)) (aD (uC (.int 7)) (aD (uC (.int 7)) (aD (uC (.int 5)) (aD (uC (.int 7)) aK)))))))) (aD (aG 1) aK))))) b08)
def b10:US:=(aQ (eG (cN (uOp (gH false) (uIx (aS 2) (uC (.int 0))) (uC (.int 1)))) (cC (aM kN (aD (gW (aD (uOp M.gSub (uIx (aS 4) (uC (.int 2))) (uC (.int 4))) (aD (uOp M.gSub (uIx (aS 4) (uC (.int 3))) (uC (.int 4))) (aD (uOp M.gSub (uIx (aS 4) (uC (.int 4))) (uC (.int 4))) (aD (uC (.int 1)) aK))))) (aD (uOp M.gSub (uIx (aS 4) (uC (.int 5))) (uC (.int 2))) aK)))) cM) b09)
def b11:US:=(aQ (eG (cN (uOp (gH false) (uIx (aS 2) (uC (.int 0))) (uC (.int 0)))) (aQ (bK 4 (aM fT (aD (aG 0) (aD (i6 (aD (uC (.int 3)) (aD (uC (.int 8)) (aD (uC (.int 161)) (aD (uC (.int 41)) aK))))) (aD (aG 1) aK))))) (cC (gW (aD (uOp M.gSub (uIx (aS 4) (uC (.int 2))) (uC (.int 80))) (aD (uOp M.gSub (uIx (aS 4) (uC (.int 3))) (uC (.int 20))) (aD (uC (.int 1)) aK)))))) cM) b10)
def aD4:US:=(aQ (bK 4 (aM fT (aD (aG 0) (aD (i6 (aD (uC (.int 3)) (aD (uC (.int 8)) (aD (uC (.int 9)) (aD (uC (.int 9)) (aD (uC (.int 9)) (aD (uC (.int 5)) (aD (uC (.int 7)) aK)))))))) (aD (aG 1) aK))))) b11)
def b12:US:=(aQ (eG (cN (uOp (gH false) (uIx (aS 2) (uC (.int 1))) (uC (.int 7)))) (cC (aM bY (aD (uOp eS (dQ [] [none,none] 1 (eO (aG 3)) (bO 0) (fun ρ Q=>Q true ρ) (uOp M.gSub (aG 0) (uC (.int 499)))) (i6 (aD (uC (.int 1)) aK))) aK))) cM) aD4)
def b13:US:=(aQ (bK 3 (uSl (uV (aM fT (aD (aG 0) (aD (i6 (aD (uC (.int 3)) (aD (uC (.int 8)) (aD (uC (.int 999)) (aD (uC (.int 999)) (aD (uC (.int 999)) (aD (uC (.int 999)) aK))))))) (aD (aG 1) aK))))) (iE (uC (.int 2))) (iE (uOp eS (uIx (aS 2) (uC (.int 0))) (uC (.int 4)))))) b12)
def aT9:US:=(aQ (bK 2 (aM fT (aD (aG 0) (aD (i6 (aD (uC (.int 3)) (aD (uC (.int 8)) aK))) (aD (aG 1) aK))))) b13)
theorem bY1: ∀ds Q,xM ds Q→ds.length=2:=by rintro ds Q ⟨c,q,rfl,_⟩;rfl
theorem rp_two {a b:Int}(ha:a.natAbs≤499)(hb:b.natAbs≤499):cW [a,b,1]:=⟨⟨by simp,by simp,fun x hx=>by
 simp only[List.mem_cons,List.not_mem_nil,or_false]at hx
 rcases hx with rfl|rfl|rfl<;>omega⟩,[a,b],rfl⟩
theorem rp_sh3 {a b c s:Int}(ha:a.natAbs≤4)(hb:b.natAbs≤4)(hc:c.natAbs≤4)(hs:s.natAbs≤2):cW (shK [a,b,c,1] s 3):=by
 rw[she3]
 refine⟨⟨by simp[sh3],by simp[sh3],fun x hx=> ?_⟩,_,rfl⟩
 simp only[sh3,List.cons_append,List.nil_append,List.mem_cons,List.not_mem_nil,or_false]at hx
 rcases(show s= -2∨s= -1∨s=0∨s=1∨s=2 by omega)with rfl|rfl|rfl|rfl|rfl<;>rcases hx with rfl|rfl|rfl|rfl<;>omega
theorem rp_sh4 {a b c d s:Int}(ha:a.natAbs≤3)(hb:b.natAbs≤3)(hc:c.natAbs≤3)(hd:d.natAbs≤3)(hs:s.natAbs≤2):cW (shK [a,b,c,d,1] s 4):=by
 rw[she4]
 refine⟨⟨by simp[sh4],by simp[sh4],fun x hx=> ?_⟩,_,rfl⟩
 simp only[sh4,List.cons_append,List.nil_append,List.mem_cons,List.not_mem_nil,or_false]at hx
 rcases(show s= -2∨s= -1∨s=0∨s=1∨s=2 by omega)with rfl|rfl|rfl|rfl|rfl<;>rcases hx with rfl|rfl|rfl|rfl|rfl<;>omega
theorem cC0 {ws:List Int}(h2:2≤ws.length)(h4:ws.length≤4)(hb: ∀w∈ws,0≤w∧w<999):cW (ws.map (fun w=>w-499)++[1]):=by
 refine⟨⟨by rw[List.length_append,List.length_map];show 3≤ws.length+1;omega,by rw[List.length_append,List.length_map];show ws.length+1≤5;omega,fun x hx=> ?_⟩,_,rfl⟩
 rcases List.mem_append.mp hx with hx|hx
 ·obtain⟨w,hw,rfl⟩:=List.mem_map.mp hx
  have:=hb w hw
  omega
 ·rw[List.mem_singleton.mp hx];decide
theorem bK1 (c q a b:Int)(ws:List Int)(h4:ws.length≤4)(Q:B→Prop)(h:Q (.pu (aN (ws.map (fun w=>w-499)++[1])))) :
  (cC (aM bY (aD (uOp eS (dQ [] [none,none] 1 (eO (aG 3)) (bO 0) (fun ρ Q=>Q true ρ) (uOp M.gSub (aG 0) (uC (.int 499)))) (i6 (aD (uC (.int 1)) aK))) aK)):US) {nx:=fun _=>Q (.pu .non),rt:=Q} [some (.pu (.int c)),some (.pu (.int q)),some (.ow [.int a,.int b]),some (.ow (ws.map .int)),none]:=by
 rw[fU,d8,cJ,aS8]
 refine dA (t0:=0) ws.length (fun k=>(ws.map D.int).getD k .non) [some (.pu (.int c)),some (.pu (.int q)),some (.ow [.int a,.int b]),some (.pu (.lst (ws.map .int))),none] (fun Q' q=> ?_) (by omega) (fun x l'=>[x,some (.ow l')]) none rfl (fun _ _ _=>rfl) (fun _ _=>Nat.zero_lt_succ _) (fun _ _ _ q=>q) (fun _ _ _=>rfl) (fun k=> .int (ws.getD k 0-499)) ?_ ?_
 ·walk_at "u"
  rw[List.length_map]
  exact q
 ·intro k l' Q' hk q'
  have e3:(ws.map D.int).getD k .non= .int (ws.getD k 0):=by
   rw[List.getD_eq_getElem?_getD,List.getElem?_map,List.getD_eq_getElem?_getD,List.getElem?_eq_getElem hk]
   rfl
  rw[e3]at q'⊢
  walk_at "u"
  exact q'
 ·have e4:(List.range ws.length).map (fun k=>D.int (ws.getD k 0-499))=(ws.map (fun w=>w-499)).map D.int:=by
   apply List.ext_getElem
   ·simp
   ·intro i h1 h2
    simp at h1
    simp[List.getD_eq_getElem?_getD,h1]
  rw[e4]
  walk_at "u"
  have e5:(ws.map (fun w=>w-499)).map D.int++[D.int 1]=(ws.map (fun w=>w-499)++[1]).map D.int:=by rw[List.map_append];rfl
  rw[e5]
  refine⟨by decide,?_,h⟩
  rw[List.length_map,List.length_map]
  exact Nat.le_trans (show ws.length+(0+1)≤5 by omega) (by decide)
theorem bY2 (c q a b:Int)(w:Option B)(a0:0≤a)(a1:a<3)(hq:0<q)(Q:B→Prop)(h: ∀p,cW p→Q (.pu (aN p))) :
  aD4 {nx:=fun _=>Q (.pu .non),rt:=Q} [some (.pu (.int c)),some (.pu (.int q)),some (.ow [.int a,.int b]),w,none]:=by
 unfold aD4
 rw[aO]
 walk_at "u"
 refine⟨by decide,c,[3,8,9,9,9,5,7],q,rfl,by decide,hq,by decide,fun xs hx=> ?_⟩
 obtain⟨x0,x1,x2,x3,x4,x5,x6,rfl⟩: ∃x0 x1 x2 x3 x4 x5 x6,xs=[x0,x1,x2,x3,x4,x5,x6]:=by
  match xs,hx.1 with
  | [x0,x1,x2,x3,x4,x5,x6],_=>exact⟨x0,x1,x2,x3,x4,x5,x6,rfl⟩
 have b2:=hx.2 2 x2 9 rfl rfl
 have b3:=hx.2 3 x3 9 rfl rfl
 have b4:=hx.2 4 x4 9 rfl rfl
 have b5:=hx.2 5 x5 5 rfl rfl
 simp only[List.map_cons,List.map_nil]
 unfold b11
 rw[aO]
 walk_at "u"
 rw[jT]
 dsimp only
 by_cases c0:a=0
 ·rw[if_pos c0]
  refine⟨by decide,c,[3,8,161,41],q,rfl,by decide,hq,by decide,fun ys hy=> ?_⟩
  obtain⟨y0,y1,y2,y3,rfl⟩: ∃y0 y1 y2 y3,ys=[y0,y1,y2,y3]:=by
   match ys,hy.1 with
   | [y0,y1,y2,y3],_=>exact⟨y0,y1,y2,y3,rfl⟩
  have k2:=hy.2 2 y2 161 rfl rfl
  have k3:=hy.2 3 y3 41 rfl rfl
  simp only[List.map_cons,List.map_nil]
  (try walk_at "u")
  rw[show atI [D.int y0,.int y1,.int y2,.int y3] 2=some (.int y2)from bP (j:=2) rfl,show atI [D.int y0,.int y1,.int y2,.int y3] 3=some (.int y3)from bP (j:=3) rfl]
  dsimp only
  exact⟨by decide,h [y2-80,y3-20,1] (rp_two (by omega) (by omega))⟩
 rw[if_neg c0]
 have t2:atI [D.int x0,.int x1,.int x2,.int x3,.int x4,.int x5,.int x6] 2=some (.int x2):=bP (j:=2) rfl
 have t3:atI [D.int x0,.int x1,.int x2,.int x3,.int x4,.int x5,.int x6] 3=some (.int x3):=bP (j:=3) rfl
 have t4:atI [D.int x0,.int x1,.int x2,.int x3,.int x4,.int x5,.int x6] 4=some (.int x4):=bP (j:=4) rfl
 have t5:atI [D.int x0,.int x1,.int x2,.int x3,.int x4,.int x5,.int x6] 5=some (.int x5):=bP (j:=5) rfl
 unfold b10
 rw[aO]
 walk_at "u"
 rw[jT]
 dsimp only
 by_cases c1:a=1
 ·rw[if_pos c1,t2,t3,t4,t5]
  dsimp only
  exact⟨by decide,[x2-4,x3-4,x4-4,1],x5-2,rfl,by simp,by simp,by omega,h _ (rp_sh3 (by omega) (by omega) (by omega) (by omega))⟩
 rw[if_neg c1]
 unfold b09
 rw[aO]
 walk_at "u"
 refine⟨by decide,c,[3,8,7,7,7,5,7],q,rfl,by decide,hq,by decide,fun ys hy=> ?_⟩
 obtain⟨y0,y1,y2,y3,y4,y5,y6,rfl⟩: ∃x0 x1 x2 x3 x4 x5 x6,ys=[x0,x1,x2,x3,x4,x5,x6]:=by
  match ys,hy.1 with
  | [x0,x1,x2,x3,x4,x5,x6],_=>exact⟨x0,x1,x2,x3,x4,x5,x6,rfl⟩
 have k2:=hy.2 2 y2 7 rfl rfl
 have k3:=hy.2 3 y3 7 rfl rfl
 have k4:=hy.2 4 y4 7 rfl rfl
 have k5:=hy.2 5 y5 5 rfl rfl
 have k6:=hy.2 6 y6 7 rfl rfl
 simp only[List.map_cons,List.map_nil]
 unfold b08
 walk_at "u"
 rw[show atI [D.int y0,.int y1,.int y2,.int y3,.int y4,.int y5,.int y6] 2=some (.int y2)from bP (j:=2) rfl,show atI [D.int y0,.int y1,.int y2,.int y3,.int y4,.int y5,.int y6] 3=some (.int y3)from bP (j:=3) rfl,show atI [D.int y0,.int y1,.int y2,.int y3,.int y4,.int y5,.int y6] 4=some (.int y4)from bP (j:=4) rfl,show atI [D.int y0,.int y1,.int y2,.int y3,.int y4,.int y5,.int y6] 5=some (.int y5)from bP (j:=5) rfl,show atI [D.int y0,.int y1,.int y2,.int y3,.int y4,.int y5,.int y6] 6=some (.int y6)from bP (j:=6) rfl]
 dsimp only
 exact⟨by decide,[y2-3,y3-3,y4-3,y6-3,1],y5-2,rfl,by simp,by simp,by omega,h _ (rp_sh4 (by omega) (by omega) (by omega) (by omega) (by omega))⟩
theorem cC1: ∀ds Q,xM ds Q→aT9 {nx:=fun _=>Q (.pu .non),rt:=Q} (init ["c","q","d","w","f"] ds):=by
 rintro ds Q ⟨c,q,rfl,hq,h⟩
 unfold aT9
 show(aQ _ _:US) _ [some (.pu (.int c)),some (.pu (.int q)),none,none,none]
 rw[aO]
 walk_at "u"
 refine⟨by decide,c,[3,8],q,rfl,by decide,hq,by decide,fun xs hx=> ?_⟩
 obtain⟨a,b,rfl⟩: ∃a b,xs=[a,b]:=by
  match xs,hx.1 with
  | [a,b],_=>exact⟨a,b,rfl⟩
 have ba:=hx.2 0 a 3 rfl rfl
 simp only[List.map_cons,List.map_nil]
 unfold b13
 rw[aO]
 walk_at "u"
 refine⟨by decide,c,[3,8,999,999,999,999],q,rfl,by decide,hq,by decide,fun ys hy=> ?_⟩
 obtain⟨y0,y1,y2,y3,y4,y5,rfl⟩: ∃x0 x1 x2 x3 x4 x5,ys=[x0,x1,x2,x3,x4,x5]:=by
  match ys,hy.1 with
  | [x0,x1,x2,x3,x4,x5],_=>exact⟨x0,x1,x2,x3,x4,x5,rfl⟩
 have k2:=hy.2 2 y2 999 rfl rfl
 have k3:=hy.2 3 y3 999 rfl rfl
 have k4:=hy.2 4 y4 999 rfl rfl
 have k5:=hy.2 5 y5 999 rfl rfl
 simp only[List.map_cons,List.map_nil]
 (try walk_at "u")
 rw[jT]
 dsimp only
 obtain⟨ws,ew,w2,w4,wb⟩: ∃ws:List Int,cutD [D.int y0,.int y1,.int y2,.int y3,.int y4,.int y5] (some 2) (some (a+4))=ws.map D.int∧2≤ws.length∧ws.length≤4∧ ∀w∈ws,0≤w∧w<999:=by
  rcases(show a=0∨a=1∨a=2 by omega)with rfl|rfl|rfl
  ·exact⟨[y2,y3],rfl,by simp,by simp,by simp;omega⟩
  ·exact⟨[y2,y3,y4],rfl,by simp,by simp,by simp;omega⟩
  ·exact⟨[y2,y3,y4,y5],rfl,by simp,by simp,by simp;omega⟩
 rw[ew]
 unfold b12
 rw[aO,a73]
 walk_at "u"
 rw[at1]
 dsimp only
 by_cases cb:b=7
 ·rw[if_pos cb]
  exact bK1 c q a b ws w4 Q (h _ (cC0 w2 w4 wb))
 ·rw[if_neg cb]
  exact bY2 c q a b _ ba.1 ba.2 hq Q h
def b85:US:=(aQ (eG (uOr (aF9 (cN (aM bH2 (aD (aG 0) (aD (uC (.ty "tuple")) aK))))) (cN (uOp (gH true) (iD (aS 0)) (aG 1)))) (cC (uC (.bl false))) cM) (cC (aM aQ6 (aD (dQ [] [none,none] 1 (eO (aG 0)) (bO 0) (fun ρ Q=>Q true ρ) (aM jV (aD (aG 0) aK))) aK))))
def aD5:Φ:=fun ds Q=> ∃(r:List Int),ds=[aN r,.int (r.length:Int)]∧r.length≤1000∧Q (.pu (.bl true))
theorem cC2: ∀ds Q,aD5 ds Q→ds.length=2:=by rintro ds Q ⟨r,rfl,_⟩;rfl
theorem rd_row: ∀ds Q,aD5 ds Q→b85 {nx:=fun _=>Q (.pu .non),rt:=Q} (init ["f","m"] ds):=by
 rintro ds Q ⟨r,rfl,hl,h⟩
 unfold b85
 simp only[aN]
 show(aQ _ _:US) _ [some (.pu (.tup (r.map .int))),some (.pu (.int (r.length:Int)))]
 rw[aO]
 have two:(cC (aM aQ6 (aD (dQ [] [none,none] 1 (eO (aG 0)) (bO 0) (fun ρ Q=>Q true ρ) (aM jV (aD (aG 0) aK))) aK)):US) {nx:=fun _=>Q (.pu .non),rt:=Q} [some (.pu (.tup (r.map .int))),some (.pu (.int (r.length:Int)))]:=by
  rw[fU,d8,cJ]
  refine dA (t0:=0) r.length (fun k=>(r.map D.int).getD k .non) [some (.pu (.tup (r.map .int))),some (.pu (.int (r.length:Int)))] ?_ (by omega) (fun x l=>[x,some (.ow l)]) none rfl (fun _ _ _=>rfl) (fun _ _=>Nat.zero_lt_succ _) (fun _ _ _ q=>q) (fun _ _ _=>rfl) (fun _=> .bl true) ?_ ?_
  ·intro Q' q
   walk_at "u"
   rw[List.length_map]
   exact q
  ·intro k l Q' hk q
   obtain⟨z,hz⟩:=bU3 (ys:=r) (i:=k) (by rw[List.length_map];exact hk)
   rw[hz]at q⊢
   walk_at "u"
   exact⟨z,rfl,q⟩
  ·walk_at "u"
   have e:(List.range r.length).map (fun _=>D.bl true)=(List.replicate r.length true).map D.bl:=by apply List.ext_getElem<;>simp
   rw[e,rB]
   dsimp only
   have e2:(List.replicate r.length true).all id=true:=by simp
   rw[e2]
   exact h
 walk_at "u"
 simp only[List.length_map,Bool.not_true,decide_true,Bool.false_eq_true,if_false]
 exact two
def Num (n e:Nat)(r:List Int):Prop:= ∃u:Nat→Int,r=rwF n u∧(∀j,(u j).natAbs≤2^e)∧ ∀j,n≤j→u j=0
theorem Num.of {e:Nat}{r:List Int}(h: ∀x∈r,x.natAbs≤2^e):Num r.length e r:=by
 refine⟨fun j=>r.getD j 0,?_,fun j=> ?_,fun j hj=> ?_⟩
 ·apply List.ext_getElem
  ·rw[rH]
  ·intro i h1 h2
   simp only[rwF,List.getElem_map,List.getElem_range]
   rw[List.getD_eq_getElem?_getD,List.getElem?_eq_getElem h1]
   rfl
 ·show(r.getD j 0).natAbs≤2^e
  rw[List.getD_eq_getElem?_getD]
  by_cases c:j<r.length
  ·rw[List.getElem?_eq_getElem c]
   exact h _ (List.getElem_mem c)
  ·rw[List.getElem?_eq_none (by omega)]
   exact Nat.zero_le _
 ·show r.getD j 0=0
  rw[List.getD_eq_getElem?_getD,List.getElem?_eq_none hj]
  rfl
theorem cG2 {α:Type}(m:Nat)(x:α):(List.replicate m [x]).flatten=List.replicate m x:=by simp
def kO:Φ:=fun ds Q=> ∃(c:Int) (n:Nat) (q:Int),ds=[.int c,.int (n:Int),.int q]∧n≤4∧0<q∧ ∀r:List Int,Num n 400 r→Q (.pu (aN r))
def pG:US:=(yB 5 (aG 7))
def pH:US:=(aQ (eG (cN (uOp (gH false) (uIx (aS 3) (uC (.int 1))) (aG 6))) (bK 7 (uC (.int 0))) cM) pG)
def pI:US:=(aQ (eG (cN (uOp (gH false) (uIx (aS 3) (uC (.int 0))) (uC (.int 4)))) (bK 7 (uOp M.gSub (uOp jQ (aG 7) (uOp M.gSub (uOp dE (uOp dE (uC (.int 2)) (uOp r6 (uC (.int 10)) (uC (.int 50)))) (uOp r6 (uC (.int 10)) (uC (.int 50)))) (uC (.int 1)))) (uOp M.gSub (uOp dE (uOp r6 (uC (.int 10)) (uC (.int 50))) (uOp r6 (uC (.int 10)) (uC (.int 50)))) (uC (.int 1))))) cM) pH)
def pJ:US:=(aQ (eG (cN (uOp (gH false) (uIx (aS 3) (uC (.int 0))) (uC (.int 3)))) (bK 7 (uOp M.gSub (uOp jQ (aG 7) (uOp eS (uOp dE (uC (.int 2)) (uOp r6 (uC (.int 10)) (uC (.int 20)))) (uC (.int 1)))) (uOp r6 (uC (.int 10)) (uC (.int 20))))) cM) pI)
def pK:US:=(aQ (eG (cN (uOp (gH false) (uIx (aS 3) (uC (.int 0))) (uC (.int 2)))) (bK 7 (uOp M.gSub (uOp jQ (aG 7) (uC (.int 1999))) (uC (.int 999)))) cM) pJ)
def pL:US:=(aQ (eG (cN (uOp (gH false) (uIx (aS 3) (uC (.int 0))) (uC (.int 1)))) (bK 7 (uOp M.gSub (uOp jQ (aG 7) (uC (.int 41))) (uC (.int 20)))) cM) pK)
def pM:US:=(aQ (eG (cN (uOp (gH false) (uIx (aS 3) (uC (.int 0))) (uC (.int 0)))) (bK 7 (uOp M.gSub (uOp jQ (aG 7) (uC (.int 5))) (uC (.int 2)))) cM) pL)
def pN:US:=(aQ (i7 (eO (uSl (aS 4) (iE (uOp dE (uC (.int 13)) (aG 6))) (iE (uOp eS (uOp dE (uC (.int 13)) (aG 6)) (uC (.int 13)))))) (bO 8) (bK 7 (uOp eS (uOp dE (aG 7) (uOp r6 (uC (.int 10)) (uC (.int 8)))) (aG 8)))) pM)
def pO:US:=(aQ (bK 7 (uC (.int 0))) pN)
def zU:US:=(cC (aM bY (aD (aG 5) aK)))
def zV:US:=(aQ (i7 (eJ (aD (aG 1) aK)) (bO 6) pO) zU)
def zW:US:=(aQ (bK 5 (i6 aK)) zV)
def zX:US:=(aQ (bK 4 (uSl (uV (aM fT (aD (aG 0) (aD (uOp eS (i6 (aD (uC (.int 5)) (aD (uC (.int 5)) aK))) (uOp dE (i6 (aD (uOp r6 (uC (.int 10)) (uC (.int 8))) aK)) (uOp dE (uC (.int 13)) (aG 1)))) (aD (aG 2) aK))))) (iE (uC (.int 2))) gX)) zW)
def yW:US:=(aQ (bK 3 (aM fT (aD (aG 0) (aD (i6 (aD (uC (.int 5)) (aD (uC (.int 5)) aK))) (aD (aG 2) aK))))) zX)
theorem b86: ∀ds Q,kO ds Q→ds.length=3:=by rintro ds Q ⟨a,b,c,rfl,_⟩;rfl
def b14 (c q:Int)(n:Nat)(a b:Int)(zs r:List Int)(k:Nat)(Kt:UD):Prop:= ∀(t:Int) (z':Option B),t.natAbs≤2^400→Kt.nx [some (.pu (.int c)),some (.pu (.int (n:Int))),some (.pu (.int q)),some (.ow [.int a,.int b]),some (.ow (zs.map .int)),some (.ow (r.map .int++[.int t])),some (.pu (.int (k:Int))),some (.pu (.int t)),z']
theorem vK (c q:Int)(n:Nat)(a b:Int)(zs r:List Int)(k:Nat)(f:Int)(z:Option B)(a0:0≤a)(a5:a<5)(lr:r.length≤4)(hf:f.natAbs≤2^400)(Kt:UD)(h:b14 c q n a b zs r k Kt):pG Kt [some (.pu (.int c)),some (.pu (.int (n:Int))),some (.pu (.int q)),some (.ow [.int a,.int b]),some (.ow (zs.map .int)),some (.ow (r.map .int)),some (.pu (.int (k:Int))),some (.pu (.int f)),z]:=by
 unfold pG
 walk_at "u"
 exact⟨by rw[List.length_map];exact Nat.lt_of_le_of_lt (show r.length≤4 by omega) (by decide),h f z hf⟩
theorem vL (c q:Int)(n:Nat)(a b:Int)(zs r:List Int)(k:Nat)(f:Int)(z:Option B)(a0:0≤a)(a5:a<5)(lr:r.length≤4)(hf:f.natAbs≤2^400)(Kt:UD)(h:b14 c q n a b zs r k Kt):pH Kt [some (.pu (.int c)),some (.pu (.int (n:Int))),some (.pu (.int q)),some (.ow [.int a,.int b]),some (.ow (zs.map .int)),some (.ow (r.map .int)),some (.pu (.int (k:Int))),some (.pu (.int f)),z]:=by
 unfold pH
 rw[aO]
 walk_at "u"
 rw[at1]
 dsimp only
 by_cases e:b=(k:Int)
 ·rw[if_pos e]
  exact vK c q n a b zs r k 0 z a0 a5 lr (Nat.zero_le _) Kt h
 ·rw[if_neg e]
  exact vK c q n a b zs r k f z a0 a5 lr hf Kt h
theorem vM (c q:Int)(n:Nat)(a b:Int)(zs r:List Int)(k:Nat)(f:Int)(z:Option B)(a0:0≤a)(a5:a<5)(lr:r.length≤4)(hf:a<4→f.natAbs≤2^400)(Kt:UD)(h:b14 c q n a b zs r k Kt):pI Kt [some (.pu (.int c)),some (.pu (.int (n:Int))),some (.pu (.int q)),some (.ow [.int a,.int b]),some (.ow (zs.map .int)),some (.ow (r.map .int)),some (.pu (.int (k:Int))),some (.pu (.int f)),z]:=by
 unfold pI
 rw[aO]
 walk_at "u"
 rw[jT]
 dsimp only
 by_cases e:a=4
 ·rw[if_pos e]
  have s50:Sm (10^Int.toNat 50):=Sm.pow (k:=200) (by decide +kernel) (by omega)
  have s50':Sm (2*10^Int.toNat 50):=Sm.pow (k:=200) (by decide +kernel) (by omega)
  have g1:(0:Int)<2*10^Int.toNat 50*10^Int.toNat 50-1:=by decide +kernel
  have g2:((2*10^Int.toNat 50*10^Int.toNat 50-1):Int).natAbs+((10^Int.toNat 50*10^Int.toNat 50-1):Int).natAbs≤2^400:=by decide +kernel
  refine⟨cpl (by decide) (by decide) (by decide),cmL (by decide) (by decide),cpl (by decide) (by decide) (by decide),.inr ⟨s50',s50⟩,Int.ne_of_gt g1,cpl (by decide) (by decide) (by decide),cpl (by decide) (by decide) (by decide),.inr ⟨s50,s50⟩,?_⟩
  generalize (2*10^Int.toNat 50*10^Int.toNat 50-1:Int)=M1 at g1 g2⊢
  generalize (10^Int.toNat 50*10^Int.toNat 50-1:Int)=M2 at g2⊢
  rw[cF _ g1]
  refine vL c q n a b zs r k _ z a0 a5 lr ?_ Kt h
  generalize 2^400=T at g2⊢
  have y0:=Int.emod_nonneg f (Int.ne_of_gt g1)
  have y1:=Int.emod_lt_of_pos f g1
  omega
 ·rw[if_neg e]
  exact vL c q n a b zs r k f z a0 a5 lr (hf (by omega)) Kt h
theorem vN (c q:Int)(n:Nat)(a b:Int)(zs r:List Int)(k:Nat)(f:Int)(z:Option B)(a0:0≤a)(a5:a<5)(lr:r.length≤4)(hf:a<3→f.natAbs≤2^400)(Kt:UD)(h:b14 c q n a b zs r k Kt):pJ Kt [some (.pu (.int c)),some (.pu (.int (n:Int))),some (.pu (.int q)),some (.ow [.int a,.int b]),some (.ow (zs.map .int)),some (.ow (r.map .int)),some (.pu (.int (k:Int))),some (.pu (.int f)),z]:=by
 unfold pJ
 rw[aO]
 walk_at "u"
 rw[jT]
 dsimp only
 by_cases e:a=3
 ·rw[if_pos e]
  have g1:(0:Int)<2*10^Int.toNat 20+1:=by decide +kernel
  have g2:((2*10^Int.toNat 20+1):Int).natAbs+((10^Int.toNat 20):Int).natAbs≤2^400:=by decide +kernel
  refine⟨cpl (by decide) (by decide) (by decide),cmL (by decide) (by decide),Int.ne_of_gt g1,cpl (by decide) (by decide) (by decide),?_⟩
  generalize (2*10^Int.toNat 20+1:Int)=M1 at g1 g2⊢
  generalize (10^Int.toNat 20:Int)=M2 at g2⊢
  rw[cF _ g1]
  refine vM c q n a b zs r k _ z a0 a5 lr (fun _=> ?_) Kt h
  generalize 2^400=T at g2⊢
  have y0:=Int.emod_nonneg f (Int.ne_of_gt g1)
  have y1:=Int.emod_lt_of_pos f g1
  omega
 ·rw[if_neg e]
  exact vM c q n a b zs r k f z a0 a5 lr (fun z=>hf (by omega)) Kt h
theorem vO (c q:Int)(n:Nat)(a b:Int)(zs r:List Int)(k:Nat)(f:Int)(z:Option B)(a0:0≤a)(a5:a<5)(lr:r.length≤4)(hf:a<2→f.natAbs≤2^400)(Kt:UD)(h:b14 c q n a b zs r k Kt):pK Kt [some (.pu (.int c)),some (.pu (.int (n:Int))),some (.pu (.int q)),some (.ow [.int a,.int b]),some (.ow (zs.map .int)),some (.ow (r.map .int)),some (.pu (.int (k:Int))),some (.pu (.int f)),z]:=by
 unfold pK
 rw[aO]
 walk_at "u"
 rw[jT]
 dsimp only
 by_cases e:a=2
 ·rw[if_pos e]
  refine⟨by decide,?_⟩
  rw[cF _ (by decide)]
  refine vN c q n a b zs r k _ z a0 a5 lr (fun _=> ?_) Kt h
  exact Nat.le_trans (show(f%1999-999).natAbs≤1999 by omega) (by decide +kernel)
 ·rw[if_neg e]
  exact vN c q n a b zs r k f z a0 a5 lr (fun _=>hf (by omega)) Kt h
theorem vP (c q:Int)(n:Nat)(a b:Int)(zs r:List Int)(k:Nat)(f:Int)(z:Option B)(a0:0≤a)(a5:a<5)(lr:r.length≤4)(hf:a<1→f.natAbs≤2^400)(Kt:UD)(h:b14 c q n a b zs r k Kt):pL Kt [some (.pu (.int c)),some (.pu (.int (n:Int))),some (.pu (.int q)),some (.ow [.int a,.int b]),some (.ow (zs.map .int)),some (.ow (r.map .int)),some (.pu (.int (k:Int))),some (.pu (.int f)),z]:=by
 unfold pL
 rw[aO]
 walk_at "u"
 rw[jT]
 dsimp only
 by_cases e:a=1
 ·rw[if_pos e]
  refine⟨by decide,?_⟩
  rw[cF _ (by decide)]
  refine vO c q n a b zs r k _ z a0 a5 lr (fun _=> ?_) Kt h
  exact Nat.le_trans (show(f%41-20).natAbs≤41 by omega) (by decide +kernel)
 ·rw[if_neg e]
  exact vO c q n a b zs r k f z a0 a5 lr (fun _=>hf (by omega)) Kt h
theorem aH7 (c q:Int)(n:Nat)(a b:Int)(zs r:List Int)(k:Nat)(f:Int)(z:Option B)(a0:0≤a)(a5:a<5)(lr:r.length≤4)(Kt:UD)(h:b14 c q n a b zs r k Kt):pM Kt [some (.pu (.int c)),some (.pu (.int (n:Int))),some (.pu (.int q)),some (.ow [.int a,.int b]),some (.ow (zs.map .int)),some (.ow (r.map .int)),some (.pu (.int (k:Int))),some (.pu (.int f)),z]:=by
 unfold pM
 rw[aO]
 walk_at "u"
 rw[jT]
 dsimp only
 by_cases e:a=0
 ·rw[if_pos e]
  refine⟨by decide,?_⟩
  rw[cF _ (by decide)]
  refine vP c q n a b zs r k _ z a0 a5 lr (fun _=> ?_) Kt h
  exact Nat.le_trans (show(f%5-2).natAbs≤5 by omega) (by decide +kernel)
 ·rw[if_neg e]
  exact vP c q n a b zs r k f z a0 a5 lr (fun _=>absurd e (by omega)) Kt h
theorem aH8 (c q:Int)(n:Nat)(a b:Int)(zs r:List Int)(k:Nat)(z:Option B)(a0:0≤a)(a5:a<5)(hk:k<n)(hn:n≤4)(lr:r.length≤4)(Kt:UD)(h:b14 c q n a b zs r k Kt):pN Kt [some (.pu (.int c)),some (.pu (.int (n:Int))),some (.pu (.int q)),some (.ow [.int a,.int b]),some (.ow (zs.map .int)),some (.ow (r.map .int)),some (.pu (.int (k:Int))),some (.pu (.int 0)),z]:=by
 unfold pN
 rw[aO]
 obtain⟨ws,ew⟩:=aY7 zs (some (13*(k:Int))) (some (13*(k:Int)+13))
 refine bJ ws.length (fun i=>(ws.map D.int).getD i .non) [some (.pu (.int c)),some (.pu (.int (n:Int))),some (.pu (.int q)),some (.ow [.int a,.int b]),some (.ow (zs.map .int)),some (.ow (r.map .int)),some (.pu (.int (k:Int))),some (.pu (.int 0)),z] (fun Q' q=> ?_)
  (fun i ρ=> ∃(f:Int) (z:Option B),ρ=[some (.pu (.int c)),some (.pu (.int (n:Int))),some (.pu (.int q)),some (.ow [.int a,.int b]),some (.ow (zs.map .int)),some (.ow (r.map .int)),some (.pu (.int (k:Int))),some (.pu (.int f)),z]) ⟨0,z,rfl⟩ ?_ ?_
 ·walk_at "u"
  rw[ew,List.length_map]
  exact⟨cmL (by decide) (by decide),cmL (by decide) (by decide),q⟩
 ·rintro i ρ hi ⟨f,z,rfl⟩
  have e3:(ws.map D.int).getD i .non= .int (ws.getD i 0):=by
   rw[List.getD_eq_getElem?_getD,List.getElem?_map,List.getD_eq_getElem?_getD,List.getElem?_eq_getElem hi]
   rfl
  rw[e3]
  refine⟨by simp,?_⟩
  walk_at "u"
  exact⟨cpl (by decide) (by decide) (by decide),cmR (by decide) (by decide),_,_,rfl⟩
 ·rintro ρ ⟨f,z,rfl⟩
  exact aH7 c q n a b zs r k f z a0 a5 lr Kt h
theorem bK2: ∀ds Q,kO ds Q→yW {nx:=fun _=>Q (.pu .non),rt:=Q} (init ["c","n","q","d","f","r","k","a","b"] ds):=by
 rintro ds Q ⟨c,n,q,rfl,hn,hq,h⟩
 unfold yW
 show(aQ _ _:US) _ [some (.pu (.int c)),some (.pu (.int (n:Int))),some (.pu (.int q)),none,none,none,none,none,none]
 rw[aO]
 walk_at "u"
 refine⟨by decide,c,[5,5],q,rfl,by decide,hq,by decide,fun xs hx=> ?_⟩
 obtain⟨a,b,rfl⟩: ∃a b,xs=[a,b]:=by
  match xs,hx.1 with
  | [a,b],_=>exact⟨a,b,rfl⟩
 have ba:=hx.2 0 a 5 rfl rfl
 simp only[List.map_cons,List.map_nil]
 unfold zX
 rw[aO]
 walk_at "u"
 rw[cG2,show(13*(n:Int)).toNat=13*n by omega]
 refine⟨by decide,cpl (by decide) (by decide) (by decide),by decide,cmL (by decide) (by decide),⟨by omega,by omega,Nat.le_trans (show(0+1)*(13*n)≤52 by omega) (by decide)⟩,?_,c,5::5::List.replicate (13*n) 100000000,q,by rw[List.map_cons,List.map_cons,List.map_replicate];rfl,?_,hq,fun w hw=> ?_,fun ys hy=> ?_⟩
 ·rw[List.length_replicate]
  exact Nat.le_trans (show 0+1+1+13*n≤54 by omega) (by decide)
 ·rw[List.length_cons,List.length_cons,List.length_replicate];omega
 ·rcases List.mem_cons.mp hw with rfl|hw
  ·decide
  rcases List.mem_cons.mp hw with rfl|hw
  ·decide
  ·rw[(List.mem_replicate.mp hw).2];decide
 obtain⟨zs,ez⟩:=aY7 ys (some 2) none
 dsimp only
 rw[ez]
 unfold zW
 rw[aO]
 walk_at "u"
 refine⟨by decide,?_⟩
 unfold zV
 rw[aO]
 refine bJ n (fun k=> .int (0+k)) [some (.pu (.int c)),some (.pu (.int (n:Int))),some (.pu (.int q)),some (.ow [.int a,.int b]),some (.ow (zs.map .int)),some (.ow []),none,none,none] (fun Q' q=> ?_)
  (fun k ρ=> ∃(r:List Int) (x y z:Option B),ρ=[some (.pu (.int c)),some (.pu (.int (n:Int))),some (.pu (.int q)),some (.ow [.int a,.int b]),some (.ow (zs.map .int)),some (.ow (r.map .int)),x,y,z]∧r.length=k∧ ∀x∈r,x.natAbs≤2^400) ⟨[],none,none,none,rfl,rfl,by simp⟩ ?_ ?_
 ·walk_at "u"
  refine⟨⟨by omega,by omega⟩,?_⟩
  rw[Int.toNat_natCast]
  exact q
 ·rintro k ρ hk ⟨r,x,y,z,rfl,lr,hr⟩
  refine⟨by simp,?_⟩
  rw[Int.zero_add]
  show pO _ [some (.pu (.int c)),some (.pu (.int (n:Int))),some (.pu (.int q)),some (.ow [.int a,.int b]),some (.ow (zs.map .int)),some (.ow (r.map .int)),some (.pu (.int (k:Int))),y,z]
  unfold pO
  rw[aO]
  walk_at "u"
  exact aH8 c q n a b zs r k z ba.1 ba.2 hk hn (by omega) _ (fun t z' ht=>⟨r++[t],_,_,z',by rw[List.map_append];rfl,by rw[List.length_append,lr];rfl,fun x hx=>by
   rcases List.mem_append.mp hx with hx|hx
   ·exact hr x hx
   ·rw[List.mem_singleton.mp hx];exact ht⟩)
 ·rintro ρ ⟨r,x,y,z,rfl,lr,hr⟩
  dsimp only
  unfold zU
  walk_at "u"
  have hN:=Num.of hr
  rw[lr]at hN
  exact h r hN
def cz (n:Nat)(u:Nat→Int):Nat→Int:=fun j=>if j<n then u j else 0
theorem cz_row (n:Nat)(u:Nat→Int):rwF n (cz n u)=rwF n u:=fO fun i hi=>if_pos hi
theorem bY3 {n:Nat}{u:Nat→Int}{j:Nat}(h:n≤j):cz n u j=0:=if_neg (by omega)
theorem bY4 {n e:Nat}{u:Nat→Int}(h: ∀j,(u j).natAbs≤2^e)(j:Nat):(cz n u j).natAbs≤2^e:=by
 unfold cz
 split
 ·exact h j
 ·exact Nat.zero_le _
theorem b87 {p:List Int}{n a b:Nat}{u v:Nat→Int}(n4:n≤4)(hp: ∀x∈p,x.natAbs≤499)(hu: ∀j,(u j).natAbs≤2^a)(hv: ∀j,(v j).natAbs≤2^b)(j:Nat):(mD p n u v j).natAbs≤2^(a+b+29):=by
 have h1: ∀i,i<n→(v i*itT p n u i j).natAbs≤2^(a+b+27):=by
  intro i hi
  rw[Int.natAbs_mul]
  refine Nat.le_trans (Nat.mul_le_mul (hv i) (nA (n:=n) hp hu i j)) ?_
  rw[←Nat.pow_add]
  exact Nat.pow_le_pow_right (by decide) (by omega)
 have h2:=uQ (fun i=>v i*itT p n u i j) _ n h1
 have h3:(mD p n u v j).natAbs≤n*2^(a+b+27):=h2
 have h4:n*2^(a+b+27)≤4*2^(a+b+27):=Nat.mul_le_mul_right _ n4
 have h5:(2:Nat)^(a+b+29)=2^(a+b+27)*4:=by rw[show a+b+29=a+b+27+2 by omega,Nat.pow_add]
 omega
def tbL (n:Nat)(t:Nat→Nat→Int):List (List Int):=(List.range n).map fun i=>rwF n (t i)
theorem cC3 (n:Nat)(t:Nat→Nat→Int):D.tup (tbF n n t)=aS2 (tbL n t):=by
 unfold aS2 tbL tbF
 rw[List.map_map]
 rfl
theorem aU0 (n:Nat)(t:Nat→Nat→Int):(tbL n t).length=n:=by unfold tbL;rw[List.length_map,List.length_range]
theorem b88 {n e:Nat}{t:Nat→Nat→Int}(n1:1≤n)(n4:n≤4)(he:e<2000)(h: ∀i j,i<n→(t i j).natAbs≤2^e):Sq 4 (tbL n t):=by
 refine⟨by rw[aU0];exact n1,by rw[aU0];exact n4,fun r hr=> ?_,fun r hr x hx=> ?_⟩
 ·rw[aU0]
  obtain⟨i,hi,rfl⟩:=List.mem_map.mp hr
  exact rH _ _
 ·obtain⟨i,hi,rfl⟩:=List.mem_map.mp hr
  obtain⟨j,hj,rfl⟩:=List.mem_map.mp hx
  exact Nat.lt_of_le_of_lt (h i j (List.mem_range.mp hi)) (Nat.pow_lt_pow_right (by decide) he)
def nrm (p:List Int)(n:Nat)(u:Nat→Int):Int:=gI 4 (tbL n (itT p n u))
def gO:Φ:=fun ds Q=> ∃(C:Addr) (p:List Int) (n e:Nat) (u:Nat→Int),ds=[iB C p,aN (rwF n u)]∧cW p∧p.length=n+1∧e≤1900∧(∀j,(u j).natAbs≤2^e)∧Q (.pu (.int (nrm p n u)))
def yX:US:=(cC (aM (dJ 4) (aD (aM eC (aD (aG 0) (aD (aG 1) aK))) aK)))
theorem b89: ∀ds Q,gO ds Q→ds.length=2:=by rintro ds Q ⟨C,p,n,e,u,rfl,_⟩;rfl
theorem bK3: ∀ds Q,gO ds Q→yX {nx:=fun _=>Q (.pu .non),rt:=Q} (init ["r","x"] ds):=by
 rintro ds Q ⟨C,p,n,e,u,rfl,rp,hn,he,hu,h⟩
 have lo:=rp.ok.lo
 have hi:=rp.ok.hi
 unfold yX
 show(cC _:US) _ [some (.pu (iB C p)),some (.pu (aN (rwF n u)))]
 walk_at "u"
 refine⟨C,p,n,u,rfl,rp,hn,?_⟩
 try dsimp only
 refine⟨tbL n (itT p n u),by rw[cC3],b88 (e:=e+27) (by omega) (by omega) (by omega) fun i j hi'=>Nat.le_trans (nA (n:=n) rp.ok.small hu i j) (Nat.pow_le_pow_right (by decide) (by omega)),?_⟩
 exact h
theorem bK4 {p:List Int}{n:Nat}{u v:Nat→Int}(n2:2≤n)(n4:n≤4)(hu: ∀j,n≤j→u j=0)(hv: ∀j,n≤j→v j=0):rwF n (mD p n u v)=rwF n (mD p n v u):=by
 rw[←aT7 n2 n4 hu hv,←aT7 n2 n4 hv hu,show conv u v n=conv v u n from funext fun m=>aM7 hu hv m]
def tnF:Nat→Int:=fun j=>if j=1 then 1 else 0
theorem bD9 {n j:Nat}(n2:2≤n)(h:n≤j):tnF j=0:=if_neg (by omega)
theorem bK5 (e j:Nat):(tnF j).natAbs≤2^e:=Nat.le_trans (show(tnF j).natAbs≤1 by unfold tnF;split<;>decide) Nat.one_le_two_pow
theorem tim_tn {p:List Int}{n:Nat}{u:Nat→Int}(n2:2≤n)(n4:n≤4)(j:Nat):mD p n u tnF j=ttF p n u j:=by
 show((List.range n).map fun i=>tnF i*itT p n u i j).sum=ttF p n u j
 match n,n2,n4 with
 | 2,_,_=>simp[List.range_succ,tnF,itT]
 | 3,_,_=>simp[List.range_succ,tnF,itT]
 | 4,_,_=>simp[List.range_succ,tnF,itT]
theorem ttF_cz {p:List Int}{n:Nat}{u:Nat→Int}(n1:1≤n){j:Nat}(hj:j<n):ttF p n (cz n u) j=ttF p n u j:=by
 unfold ttF cz
 rw[if_pos (show n-1<n by omega),if_pos (show j-1<n by omega)]
theorem tn_row {p:List Int}{n:Nat}{u:Nat→Int}(n2:2≤n)(n4:n≤4):rwF n (mD p n (cz n u) tnF)=rwF n (ttF p n u):=fO fun j hj=>by rw[tim_tn n2 n4,ttF_cz (by omega) hj]
theorem nt_row {p:List Int}{n:Nat}{u:Nat→Int}(n2:2≤n)(n4:n≤4):rwF n (mD p n tnF (cz n u))=rwF n (ttF p n u):=by
 rw[bK4 n2 n4 (fun j hj=>bD9 n2 hj) (fun j hj=>bY3 hj),tn_row n2 n4]
theorem bK6 {ρ:Ev}{s:Nat}{z:Int}(c:Nat)(hz:z=(c:Int))(n:Nat)(hn:n≤4)(hs:ρ[s]? =some (some (.pu (.int (n:Int))))){Q:B→Ev→Prop}(h:Q (.pu (aN (rwF n fun k=>if k=c then 1 else 0))) ρ) :
  aM bY (aD (dQ [] [none,none] 1 (eJ (aD (aG s) aK)) (bO 0) (fun ρ Q=>Q true ρ) (aM aQ0 (aD (uOp (gH false) (aG 0) (uC (.int z))) aK))) aK) ρ Q:=by
 subst hz
 rw[d8,cJ]
 refine dA (t0:=0) n (fun k=> .int (0+(k:Int))) ρ (fun Q' q=> ?_) (by omega) (fun x l'=>[x,some (.ow l')]) none rfl (fun _ _ _=>rfl) (fun _ _=>Nat.zero_lt_succ _) (fun _ _ _ q=>q) (fun _ _ _=>rfl) (fun k=> .int (if k=c then 1 else 0)) ?_ ?_
 ·unfold eJ
  rw[cJ,a74 hs]
  walk_at "u"
  refine⟨⟨by omega,by omega⟩,?_⟩
  rw[Int.toNat_natCast]
  exact q
 ·intro k l' Q' hk q'
  rw[Int.zero_add]at q'⊢
  walk_at "u"
  by_cases e:k=c
  ·subst e
   simpa using q'
  ·rw[if_neg e]at q'
   rw[if_neg (show ¬(k:Int)=(c:Int)by omega)]
   exact q'
 ·rw[qP]
  exact h
theorem bY5 (i n:Nat)(t:Nat→Nat→Int):tbF i n t++[aN (rwF n (t i))]=tbF (i+1) n t:=by
 unfold tbF
 rw[List.range_succ,List.map_append]
 rfl
def tU:Φ:=fun ds Q=> ∃(p:List Int) (n e:Nat) (u:Nat→Int),ds=[aN p,aN (rwF n u)]∧cW p∧p.length=n+1∧e≤1900∧(∀j,(u j).natAbs≤2^e)∧Q (.ow (tbF n n (itT p n u)))
def aN5:US:=(mK 4)
def aN6:US:=(aQ (i7 (eJ (aD (aG 2) aK)) (bO 6) (aQ (yB 4 (aG 5)) (bK 5 (aM nS (aD (aG 0) (aD (aG 3) (aD (aG 5) aK))))))) aN5)
def aN7:US:=(aQ (bK 5 (aM bY (aD (aG 1) aK))) aN6)
def yY:US:=(aQ (bK 4 (i6 aK)) aN7)
def yZ:US:=(aQ (bK 3 (aM bY (aD (dQ [] [none,none] 1 (eJ (aD (aG 2) aK)) (bO 0) (fun ρ Q=>Q true ρ) (aM aQ0 (aD (uOp (gH false) (aG 0) (uC (.int 1))) aK))) aK))) yY)
def aD6:US:=(aQ (bK 2 (uOp M.gSub (iD (aS 0)) (uC (.int 1)))) yZ)
theorem bK7: ∀ds Q,tU ds Q→ds.length=2:=by rintro ds Q ⟨p,n,e,u,rfl,_⟩;rfl
theorem bY6: ∀ds Q,tU ds Q→aD6 {nx:=fun _=>Q (.pu .non),rt:=Q} (init ["p","x","m","t","r","w","k"] ds):=by
 rintro ds Q ⟨p,n,e,u,rfl,rp,hn,he,hu,h⟩
 have lo:=rp.ok.lo
 have hi:=rp.ok.hi
 have n2:2≤n:=by omega
 have n4:n≤4:=by omega
 unfold aD6
 show(aQ _ _:US) _ [some (.pu (.tup (p.map .int))),some (.pu (aN (rwF n u))),none,none,none,none,none]
 rw[aO]
 walk_at "u"
 rw[List.length_map,show(p.length:Int)-1=(n:Int)by omega]
 change yZ _ [some (.pu (aN p)),some (.pu (aN (rwF n u))),some (.pu (.int (n:Int))),none,none,none,none]
 unfold yZ
 rw[aO,lB]
 refine bK6 1 rfl n n4 rfl ?_
 show yY _ [some (.pu (aN p)),some (.pu (aN (rwF n u))),some (.pu (.int (n:Int))),some (.pu (aN (rwF n tnF))),none,none,none]
 unfold yY
 rw[aO]
 walk_at "u"
 refine⟨by decide,?_⟩
 unfold aN7
 rw[aO]
 simp only[aN]
 walk_at "u"
 unfold aN6
 rw[aO]
 refine bJ n (fun i=> .int (0+(i:Int))) [some (.pu (aN p)),some (.pu (aN (rwF n u))),some (.pu (.int (n:Int))),some (.pu (aN (rwF n tnF))),some (.ow (tbF 0 n (itT p n u))),some (.pu (aN (rwF n (itT p n u 0)))),none] (fun Q' q=> ?_)
  (fun i ρ=> ∃x,ρ=[some (.pu (aN p)),some (.pu (aN (rwF n u))),some (.pu (.int (n:Int))),some (.pu (aN (rwF n tnF))),some (.ow (tbF i n (itT p n u))),some (.pu (aN (rwF n (itT p n u i)))),x]) ⟨none,rfl⟩ ?_ ?_
 ·walk_at "u"
  refine⟨⟨by omega,by omega⟩,?_⟩
  rw[Int.toNat_natCast]
  exact q
 ·rintro i ρ hi' ⟨x,rfl⟩
  walk_at "u"
  rw[xE]
  refine⟨by decide,Nat.lt_of_lt_of_le (show i<10 by omega) (by decide),p,n,e+27,tnF,cz n (itT p n u i),?_,rp,hn,by omega,fun j=>bK5 _ j,?_,fun j hj=>bD9 n2 hj,fun j hj=>bY3 hj,?_⟩
  ·rw[cz_row]
  ·exact bY4 fun j=>Nat.le_trans (nA (n:=n) rp.ok.small hu i j) (Nat.pow_le_pow_right (by decide) (by omega))
  ·rw[nt_row n2 n4,bY5]
   exact⟨_,rfl⟩
 ·rintro ρ ⟨x,rfl⟩
  dsimp only
  unfold aN5
  walk_at "u"
  exact h
def iZ (n:Nat):Φ:=fun ds Q=> ∃t:List (List Int),ds=[.lst (t.map aN)]∧Sq n t∧Q (.pu (.int (gI n t)))
def b90 (iZ:Φ):US:=(aQ (eG (cN (uOp (gH false) (iD (aS 0)) (uC (.int 1)))) (cC (uIx (uV (uIx (aS 0) (uC (.int 0)))) (uC (.int 0)))) cM) (aQ (bK 1 (uC (.int 0))) (aQ (i7 (eJ (aD (iD (aS 0)) aK)) (bO 2) (aQ (bK 3 (dQ [] [none,none] 1 (eO (uOp eS (uSl (aS 0) gX (iE (aG 2))) (uSl (aS 0) (iE (uOp eS (aG 2) (uC (.int 1)))) gX))) (bO 0) (fun ρ Q=>Q true ρ) (uSl (aS 0) (iE (uC (.int 1))) gX))) (bK 1 (uOp eS (aG 1) (uOp dE (uOp dE (uOp M.gSub (uC (.int 1)) (uOp dE (uC (.int 2)) (uOp jQ (aG 2) (uC (.int 2))))) (uIx (uV (uIx (aS 0) (aG 2))) (uC (.int 0)))) (aM iZ (aD (aG 3) aK))))))) (mK 1))))
theorem a77 (n:Nat): ∀ds Q,iZ n ds Q→ds.length=1:=by rintro ds Q ⟨a,rfl,_⟩;rfl
theorem bY7: ∀ds Q,¬iZ 0 ds Q:=by
 rintro ds Q ⟨t,rfl,sq,_⟩
 have:=sq.pos
 have:=sq.le
 omega
theorem b91 {t:List (List Int)}{i:Nat}{o y:Option B}{Q:B→Ev→Prop}(hi:i<t.length)(h1000:t.length≤1000)(hr: ∀r∈t,1≤r.length)(h:Q (.ow (((t.eraseIdx i).map List.tail).map aN)) [some (.pu (.lst (t.map aN))),o,some (.pu (.int (i:Int))),y]) :
  dQ [] [none,none] 1 (eO (uOp eS (uSl (aS 0) gX (iE (aG 2))) (uSl (aS 0) (iE (uOp eS (aG 2) (uC (.int 1)))) gX))) (bO 0) (fun ρ Q=>Q true ρ) (uSl (aS 0) (iE (uC (.int 1))) gX) [some (.pu (.lst (t.map aN))),o,some (.pu (.int (i:Int))),y] Q:=by
 have hl:(t.map aN).length=t.length:=List.length_map _
 have e1:cutD (t.map aN) none (some (i:Int))=(t.take i).map aN:=by rw[aS3 _ _ (by omega),List.map_take]
 have e2:cutD (t.map aN) (some ((i:Int)+1)) none=(t.drop (i+1)).map aN:=by
  have:=xB (t.map aN) (i+1) (by omega)
  rw[List.map_drop]
  exact_mod_cast this
 have e3:(t.take i).map aN++(t.drop (i+1)).map aN=(t.eraseIdx i).map aN:=by rw[←List.map_append,←List.eraseIdx_eq_take_drop_succ]
 have le:(t.eraseIdx i).length=t.length-1:=List.length_eraseIdx_of_lt hi
 refine dA (t0:=0) ((t.eraseIdx i).map aN).length (fun k=>((t.eraseIdx i).map aN).getD k .non) [some (.pu (.lst (t.map aN))),o,some (.pu (.int (i:Int))),y] ?_ (by rw[List.length_map];omega)
  (fun x l=>[x,some (.ow l)]) none rfl (fun _ _ _=>rfl) (fun _ _=>Nat.zero_lt_succ _) (fun _ _ _ q=>q) (fun _ _ _=>rfl) (fun k=>aN (((t.eraseIdx i).getD k []).tail)) ?_ ?_
 ·intro Q' q
  simp only[eO]
  walk_at "u"
  refine⟨?_,?_⟩
  ·rw[e1,e2,List.length_map,List.length_map,List.length_take,List.length_drop]
   exact Nat.le_trans (show _≤2000 by omega) (by decide)
  ·rw[e1,e2,e3]
   exact q
 ·intro k l Q' hk q
  rw[List.length_map]at hk
  have ek:((t.eraseIdx i).map aN).getD k .non=aN ((t.eraseIdx i).getD k []):=by
   rw[List.getD_eq_getElem?_getD,List.getD_eq_getElem?_getD,List.getElem?_map,List.getElem?_eq_getElem hk];rfl
  have hm:1≤((t.eraseIdx i).getD k []).length:=by
   rw[List.getD_eq_getElem?_getD,List.getElem?_eq_getElem hk]
   exact hr _ (List.mem_of_mem_eraseIdx (List.getElem_mem hk))
  rw[ek]at q⊢
  generalize (t.eraseIdx i).getD k []=r at hm q
  simp only[aN]at q⊢
  walk_at "u"
  have lr:(r.map D.int).length=r.length:=List.length_map _
  have ec:cutD (r.map D.int) (some 1) none=r.tail.map D.int:=by
   have:=xB (r.map D.int) 1 (by omega)
   rw[show((1:Nat):Int)=1 from rfl]at this
   rw[this,←List.map_drop,List.drop_one]
  refine⟨?_,by rw[ec];exact q⟩
  rw[lr]
  have:HT.sIx r.length 0 (some 1)=min 1 r.length:=HT.sIx_nat r.length 0 1
  rw[this];omega
 ·have em:(List.range ((t.eraseIdx i).map aN).length).map (fun k=>aN (((t.eraseIdx i).getD k []).tail))=((t.eraseIdx i).map List.tail).map aN:=by
   rw[List.length_map]
   apply List.ext_getElem
   ·simp
   ·intro k h1 h2
    simp at h1
    simp[h1,List.getD_eq_getElem?_getD]
  rw[em]
  exact h
theorem aU1 (n:Nat)(hn:n<4): ∀ds Q,iZ (n+1) ds Q→b90 (iZ n) {nx:=fun _=>Q (.pu .non),rt:=Q} (init ["t","o","i","m"] ds):=by
 rintro ds Q ⟨t,rfl,sq,h⟩
 have hp:=sq.pos
 have hle:=sq.le
 have lt:(t.map aN).length=t.length:=List.length_map _
 have lrow: ∀i,i<t.length→0< (t.getD i []).length:=fun i hi=>by
  rw[List.getD_eq_getElem?_getD,List.getElem?_eq_getElem hi]
  have:=sq.row _ (List.getElem_mem hi)
  show 0< (t[i]).length
  omega
 unfold b90
 show(aQ _ _:US) _ [some (.pu (.lst (t.map aN))),none,none,none]
 walk_at "u"
 rw[lt]
 split
 ·rename_i h1
  have h1':t.length=1:=by omega
  have:=a70 (t:=t) (i:=0) (by omega)
  rw[show(0:Int)+((0:Nat):Int)=0 from rfl]at this
  rw[this]
  simp only[aN]
  rw[sY (lrow 0 (by omega))]
  unfold gI at h
  rw[if_pos h1']at h
  exact h
 ·rename_i h1
  have h1':t.length≠1:=by omega
  unfold gI at h
  rw[if_neg h1']at h
  refine bJ t.length (fun i=> .int (0+i)) [some (.pu (.lst (t.map aN))),some (.pu (.int 0)),none,none] ?_ (fun i ρ=> ∃x y,ρ=[some (.pu (.lst (t.map aN))),some (.pu (.int ((List.range i).map fun i=>(if i%2=0 then 1 else -1)*(t.getD i []).getD 0 0*gI n ((t.eraseIdx i).map List.tail)).sum)),x,y]) ?_ ?_ ?_
  ·intro Q' q
   simp only[eJ]
   walk_at "u"
   rw[lt]
   refine⟨⟨by omega,by omega⟩,?_⟩
   rw[Int.toNat_natCast]
   exact q
  ·exact⟨none,none,rfl⟩
  ·rintro i ρ hi ⟨x,y,rfl⟩
   rw[Int.zero_add]
   refine⟨by simp,?_⟩
   dsimp only[List.set_cons_zero,List.set_cons_succ]
   rw[aO,lB]
   refine b91 hi (by omega) (fun r hr=>by rw[sq.row r hr];exact hp) ?_
   walk_at "u"
   have ai:=a70 hi
   rw[Int.zero_add]at ai
   rw[ai,cF _ (by omega)]
   simp only[aN]
   rw[sY (lrow i hi)]
   have e1:1-2*((i:Int)%2)=(if i%2=0 then(1:Int)else -1):=by
    split<;>omega
   have eg:t.getD i []=t[i]:=by rw[List.getD_eq_getElem?_getD,List.getElem?_eq_getElem hi];rfl
   have en:((t.getD i []).getD 0 0).natAbs≤2^2000:=by
    have h0:=lrow i hi
    rw[eg]at h0⊢
    rw[List.getD_eq_getElem?_getD,List.getElem?_eq_getElem h0]
    exact Nat.le_of_lt (sq.small _ (List.getElem_mem hi) _ (List.getElem_mem h0))
   have se:Sm ((t.getD i []).getD 0 0):=Sm.pow en (by decide)
   have sg:Sm (if i%2=0 then(1:Int)else -1):=by split<;>exact aA4 (by decide) (by decide)
   have sp:Sm ((if i%2=0 then(1:Int)else -1)*(t.getD i []).getD 0 0):=by
    refine Sm.pow (k:=2000) ?_ (by decide)
    rw[Int.natAbs_mul]
    have e1:(if i%2=0 then(1:Int)else -1).natAbs=1:=by split<;>rfl
    rw[e1,Nat.one_mul]
    exact en
   have sd:Sm (gI n ((t.eraseIdx i).map List.tail)):=Sm.pow (uS n _ (by omega) (sq.less h1' hi)) (by omega)
   have sm:Sm ((i:Int)%2):=aA4 (by omega) (by omega)
   rw[e1]
   refine⟨by decide,.inr ⟨aA4 (by decide) (by decide),sm⟩,.inr ⟨sg,se⟩,(t.eraseIdx i).map List.tail,rfl,sq.less h1' hi,.inr ⟨sp,sd⟩,?_⟩
   rw[List.range_succ,List.map_append,List.sum_append]
   simp
  ·rintro ρ ⟨x,y,rfl⟩
   walk_at "u"
   exact h
theorem cay2 (p:List Int)(u:Nat→Int): ∀j,j<2→itT p 2 u 2 j= -(p.getD 0 0*itT p 2 u 0 j+p.getD 1 0*itT p 2 u 1 j)
 | 0,_=>by simp[itT,ttF];grind
 | 1,_=>by simp[itT,ttF];grind
theorem cay3 (p:List Int)(u:Nat→Int): ∀j,j<3→itT p 3 u 3 j= -(p.getD 0 0*itT p 3 u 0 j+p.getD 1 0*itT p 3 u 1 j+p.getD 2 0*itT p 3 u 2 j)
 | 0,_=>by simp[itT,ttF];grind
 | 1,_=>by simp[itT,ttF];grind
 | 2,_=>by simp[itT,ttF];grind
theorem cay4 (p:List Int)(u:Nat→Int): ∀j,j<4→itT p 4 u 4 j= -(p.getD 0 0*itT p 4 u 0 j+p.getD 1 0*itT p 4 u 1 j+p.getD 2 0*itT p 4 u 2 j+p.getD 3 0*itT p 4 u 3 j)
 | 0,_=>by simp[itT,ttF];grind
 | 1,_=>by simp[itT,ttF];grind
 | 2,_=>by simp[itT,ttF];grind
 | 3,_=>by simp[itT,ttF];grind
def zA (n:Nat)(w:Nat→Int)(r:Nat→Nat→Int):Nat→Int:=fun j=>vA n fun k=>w k*r k j
theorem bE0 (w:Nat→Int)(r:Nat→Nat→Int)(j:Nat):zA 2 w r j=w 0*r 0 j+w 1*r 1 j:=by simp[zA,vA,List.range_succ]
theorem bE1 (w:Nat→Int)(r:Nat→Nat→Int)(j:Nat):zA 3 w r j=w 0*r 0 j+w 1*r 1 j+w 2*r 2 j:=by simp[zA,vA,List.range_succ,Int.add_assoc]
theorem bE2 (w:Nat→Int)(r:Nat→Nat→Int)(j:Nat):zA 4 w r j=w 0*r 0 j+w 1*r 1 j+w 2*r 2 j+w 3*r 3 j:=by simp[zA,vA,List.range_succ,Int.add_assoc]
theorem bY8 {p:List Int}{n:Nat}(w u:Nat→Int)(n2:2≤n)(n4:n≤4): ∀j,j<n→ttF p n (zA n w (itT p n u)) j=zA n (ttF p n w) (itT p n u) j:=by
 intro j hj
 match n,n2,n4 with
 | 2,_,_=>
  have c:=cay2 p u j hj
  have s1:itT p 2 u 1 j=ttF p 2 (itT p 2 u 0) j:=rfl
  have s2:itT p 2 u 2 j=ttF p 2 (itT p 2 u 1) j:=rfl
  have t0:ttF p 2 w 0= -(w 1*p.getD 0 0):=by simp[ttF]
  have t1:ttF p 2 w 1=w 0-w 1*p.getD 1 0:=by simp[ttF]
  rw[bE0,t0,t1]
  unfold ttF at s1 s2⊢
  rw[bE0,bE0]
  split at s1<;>split at s2<;>split<;>grind
 | 3,_,_=>
  have c:=cay3 p u j hj
  have s1:itT p 3 u 1 j=ttF p 3 (itT p 3 u 0) j:=rfl
  have s2:itT p 3 u 2 j=ttF p 3 (itT p 3 u 1) j:=rfl
  have s3:itT p 3 u 3 j=ttF p 3 (itT p 3 u 2) j:=rfl
  have t0:ttF p 3 w 0= -(w 2*p.getD 0 0):=by simp[ttF]
  have t1:ttF p 3 w 1=w 0-w 2*p.getD 1 0:=by simp[ttF]
  have t2:ttF p 3 w 2=w 1-w 2*p.getD 2 0:=by simp[ttF]
  rw[bE1,t0,t1,t2]
  unfold ttF at s1 s2 s3⊢
  rw[bE1,bE1]
  by_cases z:j=0
  ·rw[if_pos z]at s1 s2 s3⊢
   grind
  ·rw[if_neg z]at s1 s2 s3⊢
   grind
 | 4,_,_=>
  have c:=cay4 p u j hj
  have s1:itT p 4 u 1 j=ttF p 4 (itT p 4 u 0) j:=rfl
  have s2:itT p 4 u 2 j=ttF p 4 (itT p 4 u 1) j:=rfl
  have s3:itT p 4 u 3 j=ttF p 4 (itT p 4 u 2) j:=rfl
  have s4:itT p 4 u 4 j=ttF p 4 (itT p 4 u 3) j:=rfl
  have t0:ttF p 4 w 0= -(w 3*p.getD 0 0):=by simp[ttF]
  have t1:ttF p 4 w 1=w 0-w 3*p.getD 1 0:=by simp[ttF]
  have t2:ttF p 4 w 2=w 1-w 3*p.getD 2 0:=by simp[ttF]
  have t3:ttF p 4 w 3=w 2-w 3*p.getD 3 0:=by simp[ttF]
  rw[bE2,t0,t1,t2,t3]
  unfold ttF at s1 s2 s3 s4⊢
  rw[bE2,bE2]
  by_cases z:j=0
  ·rw[if_pos z]at s1 s2 s3 s4⊢
   grind
  ·rw[if_neg z]at s1 s2 s3 s4⊢
   grind
theorem bK8 {p:List Int}{n:Nat}{f g:Nat→Int}(n1:1≤n)(h: ∀j,j<n→f j=g j): ∀j,j<n→ttF p n f j=ttF p n g j:=by
 intro j hj
 unfold ttF
 rw[h (n-1) (by omega),h (j-1) (by omega)]
theorem bY9 {p:List Int}{n:Nat}(u v:Nat→Int)(n2:2≤n)(n4:n≤4): ∀i j,j<n→itT p n (mD p n u v) i j=zA n (itT p n v i) (itT p n u) j
 | 0,j,_=>rfl
 | i+1,j,hj=>by
  show ttF p n (itT p n (mD p n u v) i) j=_
  rw[bK8 (by omega) (bY9 u v n2 n4 i) j hj,bY8 _ _ n2 n4 j hj]
  rfl
theorem bK9 {n:Nat}{s t:Nat→Nat→Int}(h: ∀i j,j<n→s i j=t i j):tbL n s=tbL n t:=by
 unfold tbL
 exact List.map_congr_left fun i _=>fO fun j hj=>h i j hj
set_option maxHeartbeats 0 in
theorem mulD4 (A B:Nat→Nat→Int):gI 4 (tbL 4 fun i=>zA 4 (A i) B)=gI 4 (tbL 4 A)*gI 4 (tbL 4 B):=by
 simp only[tbL,rwF,List.range_succ,List.range_zero,List.nil_append,List.cons_append,List.map_cons,List.map_nil,bE2]
 simp[gI,List.range_succ,List.eraseIdx]
 grind (ringSteps:=100000000)
theorem mulD3 (A B:Nat→Nat→Int):gI 4 (tbL 3 fun i=>zA 3 (A i) B)=gI 4 (tbL 3 A)*gI 4 (tbL 3 B):=by
 simp only[tbL,rwF,List.range_succ,List.range_zero,List.nil_append,List.cons_append,List.map_cons,List.map_nil,bE1]
 simp[gI,List.range_succ,List.eraseIdx]
 grind
theorem mulD2 (A B:Nat→Nat→Int):gI 4 (tbL 2 fun i=>zA 2 (A i) B)=gI 4 (tbL 2 A)*gI 4 (tbL 2 B):=by
 simp only[tbL,rwF,List.range_succ,List.range_zero,List.nil_append,List.cons_append,List.map_cons,List.map_nil,bE0]
 simp[gI,List.range_succ,List.eraseIdx]
 grind
theorem cC4 {p:List Int}{n:Nat}(u v:Nat→Int)(n2:2≤n)(n4:n≤4):nrm p n (mD p n u v)=nrm p n u*nrm p n v:=by
 unfold nrm
 rw[bK9 (t:=fun i=>zA n (itT p n v i) (itT p n u)) (bY9 u v n2 n4),Int.mul_comm]
 match n,n2,n4 with
 | 2,_,_=>exact mulD2 _ _
 | 3,_,_=>exact mulD3 _ _
 | 4,_,_=>exact mulD4 _ _
def vB:List Int→Int→Int
 | [],_=>0
 | c::p,r=>vB p r*r+c
def xO (r:Int):Nat→Int:=fun j=>if j=0 then r else if j=1 then -1 else 0
theorem far2 (a b r:Int):nrm [a,b,1] 2 (xO r)=vB [a,b,1] r:=by
 simp[nrm,tbL,itT,ttF,xO,gI,List.range_succ,rwF,List.eraseIdx,vB]
 grind
theorem far3 (a b c r:Int):nrm [a,b,c,1] 3 (xO r)=vB [a,b,c,1] r:=by
 simp[nrm,tbL,itT,ttF,xO,gI,List.range_succ,rwF,List.eraseIdx,vB]
 grind
theorem far4 (a b c d r:Int):nrm [a,b,c,d,1] 4 (xO r)=vB [a,b,c,d,1] r:=by
 simp[nrm,tbL,itT,ttF,xO,gI,List.range_succ,rwF,List.eraseIdx,vB]
 grind
theorem cC5 {p:List Int}{n:Nat}(rp:cW p)(hn:p.length=n+1)(r:Int):nrm p n (xO r)=vB p r:=by
 rcases rp.cases with⟨x,y,rfl,_⟩| ⟨x,y,z,rfl,_⟩| ⟨x,y,z,w,rfl,_⟩
 ·have h:3=n+1:=hn
  obtain rfl:n=2:=by omega
  exact far2 x y r
 ·have h:4=n+1:=hn
  obtain rfl:n=3:=by omega
  exact far3 x y z r
 ·have h:5=n+1:=hn
  obtain rfl:n=4:=by omega
  exact far4 x y z w r
theorem b92 (t u:UT)(ρ:Ev)(Q:Bool→Ev→Prop):uOr t u ρ Q=t ρ fun c ρ1=>if c=true then Q true ρ1 else u ρ1 Q:=rfl
def trc (p:List Int)(n:Nat)(u:Nat→Int):Int:=vA n fun i=>itT p n u i i
theorem aN8 {T:Nat→Nat→Int}{n:Nat}{ρ:Ev}{ui:UI}{Q:B→Ev→Prop}{b:D}(n4:n≤4)(hb:b= .tup (tbF n n T)∨b= .lst (tbF n n T))(hui: ∀Q':Nat→(Nat→D)→Ev→Prop,Q' n (fun k=> .int (0+(k:Int))) ρ→ui ρ Q')
  (h0:mM (vY ρ []) [none,some 2,none] 2=[none,some (.pu b),some (.ow [])]) (h:Q (.ow (((List.range n).map fun i=>T i i).map .int)) ρ) :
  dQ [] [none,some 2,none] 2 ui (bO 0) (fun ρ Q=>Q true ρ) (uIx (uV (uIx (aS 1) (aG 0))) (aG 0)) ρ Q:=by
 refine dA (t0:=0) n (fun k=> .int (0+(k:Int))) ρ hui (by omega) (fun x l'=>[x,some (.pu b),some (.ow l')]) none h0 (fun _ _ _=>rfl) (fun _ _=>Nat.zero_lt_succ _) (fun _ _ _ q=>q) (fun _ _ _=>rfl) (fun k=> .int (T k k)) ?_ ?_
 ·intro k l' Q' hk q'
  rw[Int.zero_add]at q'⊢
  rcases hb with rfl|rfl
  ·walk_at "u"
   rw[bU9 hk]
   simp only[aN]
   rw[jZ hk]
   exact q'
  ·walk_at "u"
   rw[bU9 hk]
   simp only[aN]
   rw[jZ hk]
   exact q'
 ·rw[qP]
  exact h
theorem bZ0 {T:Nat→Nat→Int}{n:Nat}{ρ:Ev}{ui:UI}{Q:B→Ev→Prop}{b:D}(n4:n≤4)(hb:b= .tup (tbF n n T)∨b= .lst (tbF n n T))(hui: ∀Q':Nat→(Nat→D)→Ev→Prop,Q' n (fun k=> .int (0+(k:Int))) ρ→ui ρ Q')
  (h0:mM (vY ρ []) [none,some 2,none] 2=[none,some (.pu b),some (.ow [])]) (h:Q (.pu (.int (vA n fun i=>T i i))) ρ) :
  aM bH3 (aD (dQ [] [none,some 2,none] 2 ui (bO 0) (fun ρ Q=>Q true ρ) (uIx (uV (uIx (aS 1) (aG 0))) (aG 0))) aK) ρ Q:=by
 rw[d8,cJ]
 refine aN8 n4 hb hui h0 ?_
 walk_at "u"
 rw[yE]
 exact h
def kP:Φ:=fun ds Q=> ∃(C:Addr) (p:List Int) (n:Nat) (u:Nat→Int),ds=[iB C p,aN (rwF n u)]∧cW p∧p.length=n+1∧Q (.pu (.int (trc p n u)))
def zY:US:=(cC (aM bH3 (aD (dQ [] [none,some 2,none] 2 (eJ (aD (yJ "degree" (aG 0)) aK)) (bO 0) (fun ρ Q=>Q true ρ) (uIx (uV (uIx (aS 1) (aG 0))) (aG 0))) aK)))
def wE:US:=(aQ (bK 2 (aM eC (aD (aG 0) (aD (aG 1) aK)))) zY)
theorem b15: ∀ds Q,kP ds Q→ds.length=2:=by rintro ds Q ⟨C,p,n,u,rfl,_⟩;rfl
theorem b93: ∀ds Q,kP ds Q→wE {nx:=fun _=>Q (.pu .non),rt:=Q} (init ["r","x","t"] ds):=by
 rintro ds Q ⟨C,p,n,u,rfl,rp,hn,h⟩
 have lo:=rp.ok.lo
 have hi:=rp.ok.hi
 unfold wE
 show(aQ _ _:US) _ [some (.pu (iB C p)),some (.pu (aN (rwF n u))),none]
 rw[aO]
 walk_at "u"
 refine⟨C,p,n,u,rfl,rp,hn,?_⟩
 try dsimp only
 unfold zY
 rw[fU]
 refine bZ0 (n:=n) (T:=itT p n u) (by omega) (.inl rfl) (fun Q' q=> ?_) rfl h
 unfold eJ
 rw[cJ,oH (C:=C) (p:=p) rfl]
 walk_at "u"
 rw[show(p.length:Int)-1=(n:Int)by omega]
 refine⟨⟨by omega,by omega⟩,?_⟩
 rw[Int.toNat_natCast]
 exact q
theorem aN9 {r:Int}(hr:r.natAbs≤2^90): ∀p:List Int,(∀x∈p,x.natAbs≤499)→(vB p r).natAbs≤2^(100*p.length)
 | [],_=>by simp[vB]
 | c::p,h=>by
  have h1:=aN9 hr p fun x hx=>h x (List.mem_cons_of_mem _ hx)
  have h2:=h c List.mem_cons_self
  unfold vB
  have h3:(vB p r*r).natAbs≤2^(100*p.length)*2^90:=by rw[Int.natAbs_mul];exact Nat.mul_le_mul h1 hr
  have h4:=Int.natAbs_add_le (vB p r*r) c
  have h5:(2:Nat)^(100*(c::p).length)=2^(100*p.length)*2^90*2^10:=by
   rw[←Nat.pow_add,←Nat.pow_add,List.length_cons]
   congr 1
  have h6:1≤2^(100*p.length)*2^90:=Nat.mul_pos (Nat.two_pow_pos _) (Nat.two_pow_pos _)
  rw[h5,show(2:Nat)^10=1024 from rfl]
  generalize 2^(100*p.length)*2^90=M at *
  omega
def tV:Φ:=fun ds Q=> ∃(p:List Int) (r:Int),ds=[aN p,.int r]∧p.length≤5∧(∀x∈p,x.natAbs≤499)∧r.natAbs≤2^90∧Q (.pu (.int (vB p r)))
def aO0:US:=(mK 2)
def aO1:US:=(aQ (i7 (bC2 (aD (aG 0) aK)) (bO 3) (bK 2 (uOp eS (uOp dE (aG 2) (aG 1)) (aG 3)))) aO0)
def aD7:US:=(aQ (bK 2 (uC (.int 0))) aO1)
theorem bL0: ∀ds Q,tV ds Q→ds.length=2:=by rintro ds Q ⟨p,r,rfl,_⟩;rfl
theorem bZ1: ∀ds Q,tV ds Q→aD7 {nx:=fun _=>Q (.pu .non),rt:=Q} (init ["p","r","t","c"] ds):=by
 rintro ds Q ⟨p,r,rfl,hl,hp,hr,h⟩
 unfold aD7
 show(aQ _ _:US) _ [some (.pu (.tup (p.map .int))),some (.pu (.int r)),none,none]
 rw[aO]
 walk_at "u"
 unfold aO1
 rw[aO]
 refine bJ p.length (fun i=>(p.map D.int).getD ((p.map D.int).length-1-i) .non) [some (.pu (.tup (p.map .int))),some (.pu (.int r)),some (.pu (.int (vB (p.drop (p.length-0)) r))),none] ?_ (fun i ρ=> ∃x,ρ=[some (.pu (.tup (p.map .int))),some (.pu (.int r)),some (.pu (.int (vB (p.drop (p.length-i)) r))),x]) ⟨none,rfl⟩ ?_ ?_
 ·intro Q' q
  rw[Nat.sub_zero,List.drop_length]at q
  walk_at "u"
  rw[List.length_map]at q⊢
  exact q
 ·rintro i ρ hi ⟨x,rfl⟩
  have hk:p.length-1-i<p.length:=by omega
  have e:(p.map D.int).getD ((p.map D.int).length-1-i) .non= .int p[p.length-1-i]:=by
   rw[List.length_map,List.getD_eq_getElem?_getD,List.getElem?_map,List.getElem?_eq_getElem hk]
   rfl
  have ed:p.drop (p.length-(i+1))=p[p.length-1-i]::p.drop (p.length-i):=by
   rw[show p.length-(i+1)=p.length-1-i by omega,List.drop_eq_getElem_cons hk]
   congr 2
   omega
  rw[e]
  walk_at "u"
  have vb:=aN9 hr (p.drop (p.length-i)) fun x hx=>hp x (List.mem_of_mem_drop hx)
  refine⟨by decide,.inr ⟨Sm.pow vb (by rw[List.length_drop];omega),Sm.pow hr (by decide)⟩,?_⟩
  rw[ed]
  exact⟨_,rfl⟩
 ·rintro ρ ⟨x,rfl⟩
  dsimp only
  unfold aO0
  walk_at "u"
  rw[Nat.sub_self,List.drop_zero]
  exact h
def neI (i:Int):Int:=if(if i<0 then -i else i)<10^40 then i else i%10^40
theorem aO2 (i:Int):(neI i).natAbs≤2^133:=by
 have h1:(10:Int)^40=10000000000000000000000000000000000000000:=by decide
 have h2:(2:Nat)^133=10889035741470030830827987437816582766592:=by decide
 unfold neI
 rw[h1,h2]
 by_cases c:(if i<0 then -i else i)<10000000000000000000000000000000000000000
 ·rw[if_pos c]
  by_cases z:i<0
  ·rw[if_pos z]at c
   omega
  ·rw[if_neg z]at c
   omega
 ·rw[if_neg c]
  omega
def nB:Φ:=fun ds Q=> ∃(n:Nat) (u:Nat→Int),ds=[aN (rwF n u)]∧n≤100∧Q (.pu (aN (rwF n fun j=>neI (u j))))
def zB:US:=(cC (aM bY (aD (dQ [] [none,none] 1 (eO (aG 0)) (bO 0) (fun ρ Q=>Q true ρ) (uIf (cN (uOp (nF fun i j=>decide (i<j)) (aM b56 (aD (aG 0) aK)) (uOp r6 (uC (.int 10)) (uC (.int 40))))) (aG 0) (uOp jQ (aG 0) (uOp r6 (uC (.int 10)) (uC (.int 40)))))) aK)))
theorem b94: ∀ds Q,nB ds Q→ds.length=1:=by rintro ds Q ⟨n,u,rfl,_⟩;rfl
theorem bL1: ∀ds Q,nB ds Q→zB {nx:=fun _=>Q (.pu .non),rt:=Q} (init ["x"] ds):=by
 rintro ds Q ⟨n,u,rfl,hn,h⟩
 unfold zB
 show(cC _:US) _ [some (.pu (aN (rwF n u)))]
 rw[fU,d8,cJ]
 refine dA (t0:=0) n (fun k=>((rwF n u).map D.int).getD k .non) [some (.pu (aN (rwF n u)))] (fun Q' q=> ?_) (by omega) (fun x l'=>[x,some (.ow l')]) none rfl (fun _ _ _=>rfl) (fun _ _=>Nat.zero_lt_succ _) (fun _ _ _ q=>q) (fun _ _ _=>rfl) (fun k=> .int (neI (u k))) ?_ ?_
 ·unfold eO
  rw[a74 rfl]
  simp only[aN]
  walk_at "u"
  rw[bS]
  exact q
 ·intro k l Q' hk q'
  rw[t7 hk]at q'⊢
  walk_at "u"
  refine⟨⟨by decide,by decide,by decide⟩,?_⟩
  unfold neI at q'
  rw[show(40:Int).toNat=40 from rfl]
  by_cases c:(if u k<0 then -u k else u k)<10^40
  ·rw[if_pos c]at q'⊢
   exact q'
  ·rw[if_neg c]at q'⊢
   refine⟨⟨by decide,by decide,by decide⟩,by decide,?_⟩
   rw[cF _ (by decide)]
   exact q'
 ·rw[qP]
  exact h
def lP:Φ:=fun ds Q=> ∃(n:Nat) (T:Nat→Nat→Int),ds=[.tup (tbF n n T),.int (n:Int)]∧n≤100∧Q (.pu (.bl true))
def rN:US:=(cC (aM aQ6 (aD (dQ [1] [none,some 1,none] 2 (eO (aG 0)) (bO 0) (fun ρ Q=>Q true ρ) (aM aD5 (aD (aG 0) (aD (aG 1) aK)))) aK)))
def tW:US:=(aQ (eG (uOr (aF9 (cN (aM bH2 (aD (aG 0) (aD (uC (.ty "tuple")) aK))))) (cN (uOp (gH true) (iD (aS 0)) (aG 1)))) (cC (uC (.bl false))) cM) rN)
theorem aU2: ∀ds Q,lP ds Q→ds.length=2:=by rintro ds Q ⟨n,T,rfl,_⟩;rfl
theorem b16: ∀ds Q,lP ds Q→tW {nx:=fun _=>Q (.pu .non),rt:=Q} (init ["f","m"] ds):=by
 rintro ds Q ⟨n,T,rfl,hn,h⟩
 unfold tW
 show(aQ _ _:US) _ [some (.pu (.tup (tbF n n T))),some (.pu (.int (n:Int)))]
 rw[aO]
 have two:rN {nx:=fun _=>Q (.pu .non),rt:=Q} [some (.pu (.tup (tbF n n T))),some (.pu (.int (n:Int)))]:=by
  unfold rN
  rw[fU,d8,cJ]
  refine dA (t0:=0) n (fun k=>(tbF n n T).getD k .non) [some (.pu (.tup (tbF n n T))),some (.pu (.int (n:Int)))] ?_ (by omega) (fun x l=>[x,some (.pu (.int (n:Int))),some (.ow l)]) none rfl (fun _ _ _=>rfl) (fun _ _=>Nat.zero_lt_succ _) (fun _ _ _ q=>q) (fun _ _ _=>rfl) (fun _=> .bl true) ?_ ?_
  ·intro Q' q
   walk_at "u"
   rw[xE]
   exact q
  ·intro k l Q' hk q
   have e:(tbF n n T).getD k .non=aN (rwF n (T k)):=by
    rw[List.getD_eq_getElem?_getD,aS6 hk]
    rfl
   rw[e]at q⊢
   walk_at "u"
   exact⟨rwF n (T k),by rw[rH],by rw[rH];omega,q⟩
  ·walk_at "u"
   have e:(List.range n).map (fun _=>D.bl true)=(List.replicate n true).map D.bl:=by apply List.ext_getElem<;>simp
   rw[e,rB]
   dsimp only
   have e2:(List.replicate n true).all id=true:=by simp
   rw[e2]
   exact h
 walk_at "u"
 simp only[xE,Bool.not_true,decide_true,Bool.false_eq_true,if_false]
 exact two
theorem aD8: ∀t:List (List Int),pdL (t.map aN)=some (t.map fun r=>PyData.tuple (r.map .int))
 | []=>by simp[pdL]
 | r::t=>by simp[pdL,b74,aD8 t]
theorem b17: ∀t:List (List Int),PyData.depthAll (t.map fun r=>PyData.tuple (r.map .int))≤1
 | []=>by simp[PyData.depthAll]
 | r::t=>by
  have:=b17 t
  simp[PyData.depthAll,PyData.depth,aA9]
  omega
theorem b18: ∀t:List (List Int),PyData.eqvAll (t.map fun r=>PyData.tuple (r.map .int)) (t.map fun r=>PyData.tuple (r.map .int))=true
 | []=>by simp[PyData.eqvAll]
 | r::t=>by
  have e:=bD0 r r
  rw[decide_eq_true rfl]at e
  simp only[List.map_cons,PyData.eqvAll,e,b18 t,Bool.and_self]
theorem bZ2 {t:List (List Int)}{Q:B→Prop}(h:Q (.pu (.bl false))):bI1 true (.tup (t.map aN)) (.tup (t.map aN)) Q:=by
 refine⟨.tuple (t.map fun r=>PyData.tuple (r.map .int)),.tuple (t.map fun r=>PyData.tuple (r.map .int)),by simp[pd,aD8],by simp[pd,aD8],?_,?_⟩
 ·have:=b17 t
  simp[PyData.depth]
  omega
 ·simp only[PyData.eqv]
  rw[b18]
  exact h
theorem b19 (n:Nat)(T:Nat→Nat→Int):tbF n n T=(tbL n T).map aN:=by
 unfold tbL tbF
 rw[List.map_map]
 rfl
def wF:Φ:=fun ds Q=> ∃(C:Addr) (p:List Int) (n e:Nat) (u:Nat→Int),ds=[iB C p,aN (rwF n u)]∧cW p∧p.length=n+1∧e≤1900∧(∀j,(u j).natAbs≤2^e)∧Q (.pu (.bl true))
def bE3:US:=(cC (bB6 (aM jV (aD (aM kP (aD (aG 0) (aD (aG 1) aK))) aK)) (uOp (gH false) (aM kP (aD (aG 0) (aD (aG 1) aK))) (aM bH3 (aD (dQ [] [none,some 2,none] 2 (eJ (aD (iD (aS 1)) aK)) (bO 0) (fun ρ Q=>Q true ρ) (uIx (uV (uIx (aS 1) (aG 0))) (aG 0))) aK)))))
def bE4:US:=(aQ (eG (uOr (aF9 (cN (aM jV (aD (aM gO (aD (aG 0) (aD (aG 1) aK))) aK)))) (cN (uOp (gH true) (aM gO (aD (aG 0) (aD (aG 1) aK))) (aM (iZ 4) (aD (aG 2) aK))))) (cC (uC (.bl false))) cM) bE3)
def bE5:US:=(aQ (eG (uOr (aF9 (cN (aM lP (aD (aG 3) (aD (iD (aS 1)) aK))))) (cN (uOp (bI1 true) (aG 3) (aM bY (aD (aG 2) aK))))) (cC (uC (.bl false))) cM) bE4)
def bE6:US:=(aQ (bK 3 (aM eC (aD (aG 0) (aD (aG 1) aK)))) bE5)
def b95:US:=(aQ (bK 2 (aM tU (aD (yJ "poly" (aG 0)) (aD (aG 1) aK)))) bE6)
theorem cC6: ∀ds Q,wF ds Q→ds.length=2:=by rintro ds Q ⟨C,p,n,e,u,rfl,_⟩;rfl
theorem rd_due: ∀ds Q,wF ds Q→b95 {nx:=fun _=>Q (.pu .non),rt:=Q} (init ["r","x","w","t"] ds):=by
 rintro ds Q ⟨C,p,n,e,u,rfl,rp,hn,he,hu,h⟩
 have lo:=rp.ok.lo
 have hi:=rp.ok.hi
 unfold b95
 show(aQ _ _:US) _ [some (.pu (iB C p)),some (.pu (aN (rwF n u))),none,none]
 rw[aO,lB,d8,cJ,uT (C:=C) (p:=p) rfl]
 walk_at "u"
 refine⟨p,n,e,u,rfl,rp,hn,he,hu,?_⟩
 try dsimp only
 unfold bE6
 rw[aO]
 walk_at "u"
 refine⟨C,p,n,u,rfl,rp,hn,?_⟩
 try dsimp only
 unfold bE5
 rw[aO,a73,b92]
 simp only[aN]
 walk_at "u"
 rw[bS]
 refine⟨n,itT p n u,rfl,by omega,?_⟩
 try dsimp only
 rw[if_neg (by decide),b19]
 refine bZ2 ?_
 try dsimp only
 rw[if_neg (by decide)]
 unfold bE4
 rw[aO,a73,b92]
 walk_at "u"
 refine⟨C,p,n,e,u,rfl,rp,hn,he,hu,?_⟩
 try dsimp only
 refine⟨_,rfl,?_⟩
 try dsimp only
 rw[if_neg (by decide)]
 refine⟨C,p,n,e,u,rfl,rp,hn,he,hu,?_⟩
 try dsimp only
 refine⟨tbL n (itT p n u),rfl,b88 (e:=e+27) (by omega) (by omega) (by omega) fun i j hi'=>Nat.le_trans (nA (n:=n) rp.ok.small hu i j) (Nat.pow_le_pow_right (by decide) (by omega)),?_⟩
 try dsimp only
 rw[if_neg (show ¬ ¬nrm p n u=gI 4 (tbL n (itT p n u))from fun c=>c rfl)]
 unfold bE3
 rw[fU]
 walk_at "u"
 refine⟨C,p,n,u,rfl,rp,hn,?_⟩
 try dsimp only
 refine⟨_,rfl,?_⟩
 try dsimp only
 try rw[if_pos rfl]
 refine⟨C,p,n,u,rfl,rp,hn,?_⟩
 try dsimp only
 refine aN8 (n:=n) (T:=itT p n u) (by omega) (.inr (by rw[b19])) (fun Q' q=> ?_) rfl ?_
 ·walk_at "u"
  rw[bS]
  refine⟨⟨by omega,by omega⟩,?_⟩
  rw[Int.toNat_natCast]
  exact q
 ·try dsimp only
  rw[yE]
  try dsimp only
  rw[show((List.range n).map fun i=>itT p n u i i).sum=trc p n u from rfl]
  simpa using h
def aD9:US:=(cC (uOp (gH false) (aM gO (aD (aG 1) (aD (aM bY (aD (uOp eS (i6 (aD (aG 7) (aD (lD (uC (.int 1))) aK))) (uOp dE (i6 (aD (uC (.int 0)) aK)) (uOp M.gSub (aG 2) (uC (.int 2))))) aK)) aK))) (aM tV (aD (yJ "poly" (aG 1)) (aD (aG 7) aK)))))
def bE7:US:=(aQ (bK 7 (uOp dE (uOp M.gSub (uC (.int 1)) (uOp dE (uC (.int 2)) (uIx (aS 6) (uC (.int 3))))) (uOp eS (uIx (aS 6) (uC (.int 0))) (uOp dE (uIx (aS 6) (uC (.int 4))) (uOp eS (uOp dE (uOp r6 (uC (.int 10)) (uC (.int 8))) (uIx (aS 6) (uC (.int 1)))) (uOp dE (uOp r6 (uC (.int 10)) (uC (.int 16))) (uIx (aS 6) (uC (.int 2))))))))) aD9)
def aU3:US:=(aQ (bK 6 (aM fT (aD (aM jU (aD (aG 0) (aD (uC (.int 5)) aK))) (aD (i6 (aD (uOp r6 (uC (.int 10)) (uC (.int 8))) (aD (uOp r6 (uC (.int 10)) (uC (.int 8))) (aD (uOp r6 (uC (.int 10)) (uC (.int 4))) (aD (uC (.int 2)) (aD (uC (.int 2)) aK)))))) (aD (uC (.int 999999883)) aK))))) bE7)
def bE8:US:=(aQ (eG (cN (uOp (gH true) (aM gO (aD (aG 1) (aD (aG 5) aK))) (uOp dE (aM gO (aD (aG 1) (aD (aG 3) aK))) (aM gO (aD (aG 1) (aD (aG 4) aK)))))) (cC (uC (.bl false))) cM) aU3)
def bE9:US:=(aQ (bK 5 (aM nS (aD (yJ "poly" (aG 1)) (aD (aG 3) (aD (aG 4) aK))))) bE8)
def bF0:US:=(aQ (eG (aF9 (cN (aM wF (aD (aG 1) (aD (aM kO (aD (aM jU (aD (aG 0) (aD (uC (.int 6)) aK))) (aD (aG 2) (aD (uC (.int 999999797)) aK)))) aK))))) (cC (uC (.bl false))) cM) bE9)
def bF1:US:=(aQ (eG (uOr (aF9 (cN (aM wF (aD (aG 1) (aD (aG 3) aK))))) (aF9 (cN (aM wF (aD (aG 1) (aD (aG 4) aK)))))) (cC (uC (.bl false))) cM) bF0)
def bF2:US:=(aQ (bK 4 (aM nB (aD (aM kO (aD (aM jU (aD (aG 0) (aD (uC (.int 4)) aK))) (aD (aG 2) (aD (uC (.int 999999893)) aK)))) aK))) bF1)
def bF3:US:=(aQ (bK 3 (aM nB (aD (aM kO (aD (aM jU (aD (aG 0) (aD (uC (.int 3)) aK))) (aD (aG 2) (aD (uC (.int 999999929)) aK)))) aK))) bF2)
def bF4:US:=(aQ (bK 2 (yJ "degree" (aG 1))) bF3)
def aU4:US:=(aQ (bK 1 (aM xN (aD (aG 0) (aD (uC (.int 0)) (aD (uC (.int 999999937)) aK))))) bF4)
theorem bZ3 {n:Nat}(r:Int)(h:2≤n):([D.int r,D.int (-1)]++List.replicate (n-2) (D.int 0):List D)=(rwF n (xO r)).map D.int:=by
 apply List.ext_getElem
 ·simp[rwF]
  omega
 ·intro i h1 h2
  match i with
  | 0=>simp[rwF,xO]
  | 1=>simp[rwF,xO]
  | i+2=>simp[rwF,xO]
theorem bL2 {r:Int}(h:r.natAbs≤2^90)(j:Nat):(xO r j).natAbs≤2^90:=by
 unfold xO
 split
 ·exact h
 ·split
  ·decide
  ·exact Nat.zero_le _
theorem bZ4 {p:List Int}{n e:Nat}{u:Nat→Int}(rp:cW p)(n1:1≤n)(n4:n≤4)(he:e≤1900)(hu: ∀j,(u j).natAbs≤2^e):Sm (nrm p n u):=
 Sm.pow (uS 4 _ (by decide) (b88 (e:=e+27) n1 n4 (by omega) fun i j hi'=>Nat.le_trans (nA (n:=n) rp.ok.small hu i j) (Nat.pow_le_pow_right (by decide) (by omega)))) (by decide)
theorem at0g (a:D)(l:List D):atI (a::l) 0=some a:=bP (j:=0) rfl
theorem at1g (a b:D)(l:List D):atI (a::b::l) 1=some b:=bP (j:=1) rfl
theorem at2 (a b c:D)(l:List D):atI (a::b::c::l) 2=some c:=bP (j:=2) rfl
theorem at3 (a b c d:D)(l:List D):atI (a::b::c::d::l) 3=some d:=bP (j:=3) rfl
theorem at4 (a b c d e:D)(l:List D):atI (a::b::c::d::e::l) 4=some e:=bP (j:=4) rfl
theorem bZ5 (S:B)(C:Addr)(p:List Int)(n:Nat)(b3 b4 b5 b6:Option B)(r:Int)(rp:cW p)(hn:p.length=n+1)(hr:r.natAbs≤2^90)(Q:B→Prop)(h:Q (.pu (.bl true))) :
  aD9 {nx:=fun _=>Q (.pu .non),rt:=Q} [some S,some (.pu (iB C p)),some (.pu (.int (n:Int))),b3,b4,b5,b6,some (.pu (.int r))]:=by
 have lo:=rp.ok.lo
 have hi:=rp.ok.hi
 unfold aD9
 rw[fU,aS8]
 walk_at "u"
 rw[cG2,show((n:Int)-2).toNat=n-2 by omega]
 refine⟨by decide,by decide,⟨by omega,by omega,Nat.le_trans (show(0+1)*(n-2)≤4 by omega) (by decide)⟩,?_,?_⟩
 ·rw[List.length_replicate]
  exact Nat.le_trans (show 0+1+1+(n-2)≤6 by omega) (by decide)
 rw[bZ3 r (by omega)]
 refine⟨C,p,n,90,xO r,rfl,rp,hn,by decide,bL2 hr,?_⟩
 try dsimp only
 rw[uT (C:=C) (p:=p) rfl]
 refine⟨p,r,rfl,by omega,rp.ok.small,hr,?_⟩
 try dsimp only
 rw[cC5 rp hn]
 simpa using h
theorem cC7 (ns:List Int)(hl:ns.length≤63)(C:Addr)(p:List Int)(n:Nat)(b3 b4 b5:Option B)(rp:cW p)(hn:p.length=n+1)(Q:B→Prop)(h:Q (.pu (.bl true))) :
  aU3 {nx:=fun _=>Q (.pu .non),rt:=Q} [some (.pu (.rol (ns.map .int))),some (.pu (iB C p)),some (.pu (.int (n:Int))),b3,b4,b5,none,none]:=by
 unfold aU3
 rw[aO]
 walk_at "u"
 refine⟨ns,5,rfl,hl,by decide,by decide,fun c=> ?_⟩
 try dsimp only
 refine⟨⟨by decide,by decide,by decide⟩,⟨by decide,by decide,by decide⟩,⟨by decide,by decide,by decide⟩,by decide,c,[10^8,10^8,10^4,2,2],999999883,rfl,by decide,by decide,by decide,fun xs hx=> ?_⟩
 obtain⟨d0,d1,d2,d3,d4,rfl⟩: ∃d0 d1 d2 d3 d4,xs=[d0,d1,d2,d3,d4]:=by
  match xs,hx.1 with
  | [a,b,c,d,e],_=>exact⟨a,b,c,d,e,rfl⟩
 have b0:=hx.2 0 d0 (10^8) rfl rfl
 have b1:=hx.2 1 d1 (10^8) rfl rfl
 have b2:=hx.2 2 d2 (10^4) rfl rfl
 have b3':=hx.2 3 d3 2 rfl rfl
 have b4':=hx.2 4 d4 2 rfl rfl
 try dsimp only
 simp only[List.map_cons,List.map_nil]
 unfold bE7
 rw[aO]
 walk_at "u"
 simp only[at0g,at1g,at2,at3,at4]
 have sm1: ∀i:Int,i.natAbs≤2^90→Sm i:=fun i h=>Sm.pow h (by decide)
 have e8:(10:Int)^(8:Int).toNat=100000000:=by decide
 have e16:(10:Int)^(16:Int).toNat=10000000000000000:=by decide
 have p90:(2:Nat)^90=1237940039285380274899124224:=by decide
 have q8:(10:Int)^8=100000000:=by decide
 have q4:(10:Int)^4=10000:=by decide
 rw[e8,e16]
 rw[q8]at b0 b1
 rw[q4]at b2
 have k1:(d4*(100000000*d1+10000000000000000*d2)).natAbs≤200000000000000000000:=by
  rw[Int.natAbs_mul]
  exact Nat.le_trans (Nat.mul_le_mul (show d4.natAbs≤1 by omega) (show(100000000*d1+10000000000000000*d2).natAbs≤200000000000000000000 by omega)) (by decide)
 have k2:((1-2*d3)*(d0+d4*(100000000*d1+10000000000000000*d2))).natAbs≤2^90:=by
  rw[Int.natAbs_mul,p90]
  generalize d4*(100000000*d1+10000000000000000*d2)=z at *
  exact Nat.le_trans (Nat.mul_le_mul (show(1-2*d3).natAbs≤1 by omega) (show(d0+z).natAbs≤300000000000000000000 by omega)) (by decide)
 refine⟨.inr ⟨sm1 _ (by decide),sm1 _ (by rw[p90];omega)⟩,⟨by decide,by decide,by decide⟩,.inr ⟨sm1 _ (by decide),sm1 _ (by rw[p90];omega)⟩,⟨by decide,by decide,by decide⟩,.inr ⟨sm1 _ (by decide),sm1 _ (by rw[p90];omega)⟩,.inr ⟨sm1 _ (by rw[p90];omega),sm1 _ (by rw[p90];omega)⟩,.inr ⟨sm1 _ (by rw[p90];omega),sm1 _ (by rw[p90];generalize d4*(100000000*d1+10000000000000000*d2)=z at *; omega)⟩,?_⟩
 exact bZ5 _ C p n b3 b4 b5 _ _ rp hn k2 Q h
theorem rd_law: ∀ds Q,aK6 ds Q→aU4 {nx:=fun _=>Q (.pu .non),rt:=Q} (init ["s","a","m","x","y","b","r","f"] ds):=by
 rintro ds Q ⟨ns,rfl,hl,h⟩
 unfold aU4
 show(aQ _ _:US) _ [some (.pu (.rol (ns.map .int))),none,none,none,none,none,none,none]
 rw[aO]
 walk_at "u"
 refine⟨ns,0,999999937,rfl,hl,by decide,by decide,fun C p rp=> ?_⟩
 try dsimp only
 have lo:=rp.ok.lo
 have hi:=rp.ok.hi
 obtain⟨n,hn⟩: ∃n,p.length=n+1:=⟨p.length-1,by omega⟩
 have n2:2≤n:=by omega
 have n4:n≤4:=by omega
 unfold bF4
 rw[aO,lB,oH (C:=C) (p:=p) rfl]
 walk_at "u"
 rw[show(p.length:Int)-1=(n:Int)by omega]
 unfold bF3
 rw[aO]
 walk_at "u"
 refine⟨ns,3,rfl,hl,by decide,by decide,fun c=> ?_⟩
 try dsimp only
 refine⟨c,n,999999929,rfl,by omega,by decide,fun rx hx=> ?_⟩
 obtain⟨x0,rfl,xb0,xz0⟩:=hx
 try dsimp only
 refine⟨n,x0,rfl,by omega,?_⟩
 have xb: ∀j,(neI (x0 j)).natAbs≤2^133:=fun j=>aO2 _
 have xz: ∀j,n≤j→neI (x0 j)=0:=fun j hj=>by rw[xz0 j hj];decide
 obtain⟨x,ex⟩: ∃x:Nat→Int,x=fun j=>neI (x0 j):=⟨_,rfl⟩
 have xb: ∀j,(x j).natAbs≤2^133:=fun j=>by rw[ex];exact xb j
 have xz: ∀j,n≤j→x j=0:=fun j hj=>by rw[ex];exact xz j hj
 rw[←ex]
 try dsimp only
 unfold bF2
 rw[aO]
 walk_at "u"
 refine⟨ns,4,rfl,hl,by decide,by decide,fun c=> ?_⟩
 try dsimp only
 refine⟨c,n,999999893,rfl,by omega,by decide,fun ry hy=> ?_⟩
 obtain⟨y0,rfl,yb0,yz0⟩:=hy
 try dsimp only
 refine⟨n,y0,rfl,by omega,?_⟩
 have yb: ∀j,(neI (y0 j)).natAbs≤2^133:=fun j=>aO2 _
 have yz: ∀j,n≤j→neI (y0 j)=0:=fun j hj=>by rw[yz0 j hj];decide
 obtain⟨y,ey⟩: ∃y:Nat→Int,y=fun j=>neI (y0 j):=⟨_,rfl⟩
 have yb: ∀j,(y j).natAbs≤2^133:=fun j=>by rw[ey];exact yb j
 have yz: ∀j,n≤j→y j=0:=fun j hj=>by rw[ey];exact yz j hj
 rw[←ey]
 try dsimp only
 unfold bF1
 rw[aO,a73,b92]
 walk_at "u"
 refine⟨C,p,n,133,x,rfl,rp,hn,by decide,xb,?_⟩
 try dsimp only
 rw[if_neg (by decide)]
 refine⟨C,p,n,133,y,rfl,rp,hn,by decide,yb,?_⟩
 try dsimp only
 rw[if_neg (by decide)]
 unfold bF0
 rw[aO]
 walk_at "u"
 refine⟨ns,6,rfl,hl,by decide,by decide,fun c=> ?_⟩
 try dsimp only
 refine⟨c,n,999999797,rfl,by omega,by decide,fun rz hz=> ?_⟩
 obtain⟨z,rfl,zb,zz⟩:=hz
 try dsimp only
 refine⟨C,p,n,400,z,rfl,rp,hn,by decide,zb,?_⟩
 try dsimp only
 rw[if_neg (by decide)]
 unfold bE9
 rw[aO,lB,d8,cJ,uT (C:=C) (p:=p) rfl]
 walk_at "u"
 refine⟨p,n,133,x,y,rfl,rp,hn,by decide,xb,yb,xz,yz,?_⟩
 try dsimp only
 have tb:=b87 (n:=n) n4 rp.ok.small xb yb
 unfold bE8
 rw[aO]
 walk_at "u"
 refine⟨C,p,n,133+133+29,mD p n x y,rfl,rp,hn,by decide,tb,?_⟩
 try dsimp only
 refine⟨C,p,n,133,x,rfl,rp,hn,by decide,xb,?_⟩
 try dsimp only
 refine⟨C,p,n,133,y,rfl,rp,hn,by decide,yb,?_⟩
 try dsimp only
 refine⟨.inr ⟨bZ4 rp (by omega) n4 (by decide) xb,bZ4 rp (by omega) n4 (by decide) yb⟩,?_⟩
 rw[cC4 x y n2 n4,if_neg (fun c=>c rfl)]
 exact cC7 ns hl C p n _ _ _ rp hn Q h
abbrev fM:=jA
abbrev kG:=mB
theorem rO: ∀ds Q,fM ds Q→ds.length=2:=yR
theorem sQ: ∀ds Q,fM ds Q→kG {nx:=fun _=>Q (.pu .non),rt:=Q} (init ["f","p","u","s","total","v","w"] ds):=a54
theorem bL3:bootBuiltins "sorted"=some (.builtin "sorted"):=by decide +kernel
end M
end
namespace M
open PySem PySem.Spec PyProof.Rows L2
set_option maxHeartbeats 4000000
def top (i:Nat):Stmt:=PySem.Challenge.pw_ringhouse_k21_norms.main.body.getD i (.Pass ⟨0,0,0,0⟩)
abbrev oJ:Stmt:=top 8
abbrev iK:Stmt:=top 9
abbrev dR:Stmt:=top 10
abbrev gT:Stmt:=top 11
abbrev oK:Stmt:=top 13
abbrev fX:Stmt:=top 14
abbrev fY:Stmt:=top 16
abbrev fZ:Stmt:=top 17
abbrev lQ:Stmt:=top 18
abbrev iT:Stmt:=top 19
abbrev cO:Stmt:=top 22
abbrev cK:Stmt:=top 23
abbrev lU:Stmt:=top 26
abbrev dB:Stmt:=top 27
abbrev jM:Stmt:=top 29
abbrev gA:Stmt:=top 30
abbrev cS:Stmt:=top 31
abbrev bZ:Stmt:=top 32
abbrev gB:Stmt:=top 34
abbrev gC:Stmt:=top 36
abbrev eE:Stmt:=top 37
abbrev eU:Stmt:=top 39
abbrev eH:Stmt:=top 40
abbrev gZ:Stmt:=top 41
abbrev eI:Stmt:=top 42
abbrev gD:Stmt:=top 44
abbrev eZ:Stmt:=top 45
abbrev cD:Stmt:=top 46
abbrev cA:Stmt:=top 47
abbrev eF:Stmt:=top 50
abbrev eV:Stmt:=top 51
abbrev dN:Stmt:=top 52
abbrev cT:Stmt:=top 56
abbrev dO:Stmt:=top 57
abbrev tX:Stmt:=top 59
abbrev oM:Stmt:=top 60
abbrev oN:Stmt:=top 61
abbrev jN:Stmt:=top 62
abbrev rP:Stmt:=top 63
abbrev gE:Stmt:=top 64
abbrev tY:Stmt:=top 65
abbrev lW:Stmt:=top 66
abbrev oO:Stmt:=top 67
abbrev xP:Stmt:=top 68
abbrev mX:Stmt:=top 69
abbrev oP:Stmt:=top 70
abbrev oQ:Stmt:=top 71
abbrev xQ:Stmt:=top 72
abbrev hG:Stmt:=top 73
abbrev kC:Stmt:=top 74
abbrev xR:Stmt:=top 75
abbrev tZ:Stmt:=top 76
theorem aE0:aU ["row","size"] ["row"] (aB oJ):=⟨rfl,rfl,rfl,by decide +kernel,rfl,by decide +kernel,by decide +kernel⟩
theorem b20:aU ["row","size"] ["row","size"] (aB iK):=⟨rfl,rfl,rfl,by decide +kernel,rfl,by decide +kernel,by decide +kernel⟩
theorem cP:aU ["f","g","degree","size","left","quotient","at","many","j","c"] ["f","g"] (aB dR):=⟨rfl,rfl,rfl,by decide +kernel,rfl,by decide +kernel,by decide +kernel⟩
theorem mY:aU ["f","z","value","c"] ["f","z"] (aB gT):=⟨rfl,rfl,rfl,by decide +kernel,rfl,by decide +kernel,by decide +kernel⟩
theorem kD:aU ["table","total","sign","i"] ["table"] (aB oK):=⟨rfl,rfl,rfl,by decide +kernel,rfl,by decide +kernel,by decide +kernel⟩
theorem aU5:aU ["table","i"] ["table","i"] (aB fX):=⟨rfl,rfl,rfl,by decide +kernel,rfl,by decide +kernel,by decide +kernel⟩
theorem rQ:aU ["ring","x","last","moved"] ["ring","x"] (aB fY):=⟨rfl,rfl,rfl,by decide +kernel,rfl,by decide +kernel,by decide +kernel⟩
theorem pP:aU ["ring","x","rows","step"] ["ring","x"] (aB fZ):=⟨rfl,rfl,rfl,by decide +kernel,rfl,by decide +kernel,by decide +kernel⟩
theorem bL4:aU ["ring","x"] ["ring","x"] (aB lQ):=⟨rfl,rfl,rfl,by decide +kernel,rfl,by decide +kernel,by decide +kernel⟩
theorem aE1:aU ["ring","x","table"] ["ring","x"] (aB iT):=⟨rfl,rfl,rfl,by decide +kernel,rfl,by decide +kernel,by decide +kernel⟩
theorem xS:aU ["row"] ["row"] (aB cO):=⟨rfl,rfl,rfl,by decide +kernel,rfl,by decide +kernel,by decide +kernel⟩
theorem vC:aU ["row"] ["row"] (aB cK):=⟨rfl,rfl,rfl,by decide +kernel,rfl,by decide +kernel,by decide +kernel⟩
theorem qU:aU ["m","guess","better"] ["m"] (aB lU):=⟨rfl,rfl,rfl,by decide +kernel,rfl,by decide +kernel,by decide +kernel⟩
theorem xT:aU [] [] (aB dB):=⟨rfl,rfl,rfl,by decide +kernel,rfl,by decide +kernel,by decide +kernel⟩
theorem wG:aU ["poly","pair"] ["poly"] (aB jM):=⟨rfl,rfl,rfl,by decide +kernel,rfl,by decide +kernel,by decide +kernel⟩
theorem pQ:aU ["m","found","d"] ["m"] (aB gA):=⟨rfl,rfl,rfl,by decide +kernel,rfl,by decide +kernel,by decide +kernel⟩
theorem jG:aU ["poly","z","left"] ["poly"] (aB cS):=⟨rfl,rfl,rfl,by decide +kernel,rfl,by decide +kernel,by decide +kernel⟩
theorem dW:aU ["poly","v","w","u","s"] ["poly"] (aB bZ):=⟨rfl,rfl,rfl,by decide +kernel,rfl,by decide +kernel,by decide +kernel⟩
theorem pR:aU ["total","times","square","gap"] ["total","times"] (aB gB):=⟨rfl,rfl,rfl,by decide +kernel,rfl,by decide +kernel,by decide +kernel⟩
theorem rR:aU ["poly","n","sums"] ["poly"] (aB gC):=⟨rfl,rfl,rfl,by decide +kernel,rfl,by decide +kernel,by decide +kernel⟩
theorem gP:aU ["poly","many","n","sums","k","total"] ["poly","many"] (aB eE):=⟨rfl,rfl,rfl,by decide +kernel,rfl,by decide +kernel,by decide +kernel⟩
theorem aH9:aU ["row","p"] ["row","p"] (aB eU):=⟨rfl,rfl,rfl,by decide +kernel,rfl,by decide +kernel,by decide +kernel⟩
theorem i5:aU ["a","b","p","low","turn","quotient","rest"] ["a","b","p"] (aB eH):=⟨rfl,rfl,rfl,by decide +kernel,rfl,by decide +kernel,by decide +kernel⟩
theorem b21:aU ["f","k","p"] ["f","k","p"] (aB gZ):=⟨rfl,rfl,rfl,by decide +kernel,rfl,by decide +kernel,by decide +kernel⟩
theorem jB:aU ["c","p","value","step"] ["c","p"] (aB eI):=⟨rfl,rfl,rfl,by decide +kernel,rfl,by decide +kernel,by decide +kernel⟩
theorem pS:aU ["poly","p","parts","left"] ["poly","p"] (aB gD):=⟨rfl,rfl,rfl,by decide +kernel,rfl,by decide +kernel,by decide +kernel⟩
theorem fK:aU ["f","p","parts","left","c","often"] ["f","p"] (aB eZ):=⟨rfl,rfl,rfl,by decide +kernel,rfl,by decide +kernel,by decide +kernel⟩
theorem mQ:aU ["f","p","pair"] ["f","p"] (aB cD):=⟨rfl,rfl,rfl,by decide +kernel,rfl,by decide +kernel,by decide +kernel⟩
theorem cU:aU ["f","p","u","s","total","v","w"] ["f","p"] (aB cA):=⟨rfl,rfl,rfl,by decide +kernel,rfl,by decide +kernel,by decide +kernel⟩
theorem aE2:aU ["poly","size"] ["poly","size"] (aB eF):=⟨rfl,rfl,rfl,by decide +kernel,rfl,by decide +kernel,by decide +kernel⟩
theorem aI0:aU ["poly","p"] ["poly","p"] (aB eV):=⟨rfl,rfl,rfl,by decide +kernel,rfl,by decide +kernel,by decide +kernel⟩
theorem fP:aU ["poly","rows","p","parts","g","often","rest"] ["poly","rows"] (aB dN):=⟨rfl,rfl,rfl,by decide +kernel,rfl,by decide +kernel,by decide +kernel⟩
theorem nT:aU ["poly","pair"] ["poly"] (aB cT):=⟨rfl,rfl,rfl,by decide +kernel,rfl,by decide +kernel,by decide +kernel⟩
theorem jC:aU ["poly","size","found","p","f"] ["poly","size"] (aB dO):=⟨rfl,rfl,rfl,by decide +kernel,rfl,by decide +kernel,by decide +kernel⟩
theorem cC8:aU ["_law_script","_law_k"] ["_law_script","_law_k"] (aB tX):=⟨rfl,rfl,rfl,by decide +kernel,rfl,by decide +kernel,by decide +kernel⟩
theorem aE3:aU ["_law_cell_here","_law_k","_law_prime","_law_far"] ["_law_cell_here","_law_k","_law_prime"] (aB oM):=⟨rfl,rfl,rfl,by decide +kernel,rfl,by decide +kernel,by decide +kernel⟩
theorem qV:aU ["_law_cell_here","_law_widths","_law_prime","_law_left","_law_found","_law_k"] ["_law_cell_here","_law_widths","_law_prime"] (aB oN):=⟨rfl,rfl,rfl,by decide +kernel,rfl,by decide +kernel,by decide +kernel⟩
theorem rS:aU ["_law_poly_here","_law_s","_law_row_here","_law_low","_law_at"] ["_law_poly_here","_law_s"] (aB jN):=⟨rfl,rfl,rfl,by decide +kernel,rfl,by decide +kernel,by decide +kernel⟩
theorem uU:aU ["_law_cell_here","_law_prime","_law_deep","_law_wide","_law_found"] ["_law_cell_here","_law_prime"] (aB rP):=⟨rfl,rfl,rfl,by decide +kernel,rfl,by decide +kernel,by decide +kernel⟩
theorem pT:aU ["_law_cell_here","_law_known"] ["_law_cell_here"] (aB gE):=⟨rfl,rfl,rfl,by decide +kernel,rfl,by decide +kernel,by decide +kernel⟩
theorem uW:aU ["_law_script","_law_k","_law_prime","_law_found","_law_j"] ["_law_script","_law_k","_law_prime"] (aB tY):=⟨rfl,rfl,rfl,by decide +kernel,rfl,by decide +kernel,by decide +kernel⟩
theorem eK:aU ["_law_cell_here","_law_many","_law_prime","_law_deep","_law_found","_law_row_here","_law_k","_law_far","_law_part"] ["_law_cell_here","_law_many","_law_prime"] (aB lW):=⟨rfl,rfl,rfl,by decide +kernel,rfl,by decide +kernel,by decide +kernel⟩
theorem lX:aU ["_law_poly_here","_law_x","_law_y","_law_many","_law_raw","_law_i","_law_j","_law_k","_law_at"] ["_law_poly_here","_law_x","_law_y"] (aB oO):=⟨rfl,rfl,rfl,by decide +kernel,rfl,by decide +kernel,by decide +kernel⟩
theorem u4:aU ["_law_rows","_law_total","_law_i","_law_minor"] ["_law_rows"] (aB xP):=⟨rfl,rfl,rfl,by decide +kernel,rfl,by decide +kernel,by decide +kernel⟩
theorem nU:aU ["_law_poly_here","_law_x","_law_many","_law_turn","_law_rows","_law_row_here","_law_k"] ["_law_poly_here","_law_x"] (aB mX):=⟨rfl,rfl,rfl,by decide +kernel,rfl,by decide +kernel,by decide +kernel⟩
theorem xU:aU ["_law_poly_here","_law_r","_law_total","_law_place"] ["_law_poly_here","_law_r"] (aB oP):=⟨rfl,rfl,rfl,by decide +kernel,rfl,by decide +kernel,by decide +kernel⟩
theorem bZ6:aU ["_law_found"] ["_law_found"] (aB oQ):=⟨rfl,rfl,rfl,by decide +kernel,rfl,by decide +kernel,by decide +kernel⟩
theorem sc_row:aU ["_law_found","_law_many"] ["_law_found","_law_many"] (aB xQ):=⟨rfl,rfl,rfl,by decide +kernel,rfl,by decide +kernel,by decide +kernel⟩
theorem b22:aU ["_law_found","_law_many"] ["_law_found","_law_many"] (aB hG):=⟨rfl,rfl,rfl,by decide +kernel,rfl,by decide +kernel,by decide +kernel⟩
theorem bL5:aU ["_law_x"] ["_law_x"] (aB kC):=⟨rfl,rfl,rfl,by decide +kernel,rfl,by decide +kernel,by decide +kernel⟩
theorem b96:aU ["_law_ring_here","_law_x","_law_rows","_law_told"] ["_law_ring_here","_law_x"] (aB xR):=⟨rfl,rfl,rfl,by decide +kernel,rfl,by decide +kernel,by decide +kernel⟩
theorem u5:aU ["_law_script","_law_ring_here","_law_many","_law_x","_law_y","_law_both_of","_law_r","_law_far"] ["_law_script"] (aB tZ):=⟨rfl,rfl,rfl,by decide +kernel,rfl,by decide +kernel,by decide +kernel⟩
abbrev kE:Stmt:=(aR8 (top 3)).getD 0 (.Pass ⟨0,0,0,0⟩)
theorem aI1:aU ["self","left","right"] ["self","left","right"] (aB kE):=⟨rfl,rfl,rfl,by decide +kernel,rfl,by decide +kernel,by decide +kernel⟩
abbrev nV:Stmt:=(aR8 (top 5)).getD 0 (.Pass ⟨0,0,0,0⟩)
theorem b23:aU ["self","prime","number"] ["self","prime","number"] (aB nV):=⟨rfl,rfl,rfl,by decide +kernel,rfl,by decide +kernel,by decide +kernel⟩
abbrev u6:Stmt:=(aR8 (top 55)).getD 0 (.Pass ⟨0,0,0,0⟩)
theorem bF5:aU ["self","poly","size"] ["self","poly"] (aB u6):=⟨rfl,rfl,rfl,by decide +kernel,rfl,by decide +kernel,by decide +kernel⟩
section
variable {P:Program}{w:World}{K:PySem.W.Frag}{mg:Str→Option Value}{base:Heap}
theorem bL6 (bD:mg "len"=none){f:Addr}{cdv:Value}{A:Around}{outer:List Env}{s:Shared}{H:Hp}{E:XK}(hr:bM 0 (A.deeper (envOfC "cut" (aB oJ) s.heap.objs.size f cdv))) :
  cZ (cL CX0 P w K mg base ["row","size"] "cut" (aB oJ) f cdv A outer s H E).nox (aI oJ) aB2:=
 (aH (aR 1 aE0.nd rfl (Or.inl rfl) (dD (aP 0 (pv 0)) rfl bD) (hl:=il (n:=2) rfl (by decide))) (aH (a86 PassesOwn.never (PUW.pt (a66 (bE aX2 (aC 1 (pv 1)) aE (bL _)) (wT (bE fS (b9 (aP 0 (pv 0)) (aJ bF (aC 1 (pv 1)) aE) (fun _ _=>rfl)) aE (bL _))))) (aL (aP6 1 aE0.nd rfl (Or.inl rfl) aE iu_sub (hl:=il (n:=2) rfl (by decide))))) (aL (b7 (bI0 (aC 0 (pv 0)) j2 (eP (aC 1 (pv 1))))))))
theorem aU6 (bD:mg "len"=none){f:Addr}{cdv:Value}{A:Around}{outer:List Env}{s:Shared}{H:Hp}{E:XK}(hr:bM 0 (A.deeper (envOfC "padded" (aB iK) s.heap.objs.size f cdv))) :
  cZ (cL CX0 P w K mg base ["row","size"] "padded" (aB iK) f cdv A outer s H E).nox (aI iK) tM:=
 (aL (b7 (aJ bT (aC 0 (pv 0)) (aJ c94 (cH (aA aE aF)) (aJ bF (aC 1 (pv 1)) (dD (aP 0 (pv 0)) rfl bD))))))
theorem xV (bD:mg "len"=none)(aF1:mg "max"=none)(kQ:mg "list"=none)(dZ:mg "reversed"=none)(aT:mg "range"=none)(iL:mg "enumerate"=none)(aX:mg "tuple"=none)(rW:Fn P w K mg base "cut" ["row"] 1 lH){f:Addr}{cdv:Value}{A:Around}{outer:List Env}{s:Shared}{H:Hp}{E:XK}(hr:bM 1 (A.deeper (envOfC "poly_parted" (aB dR) s.heap.objs.size f cdv))) :
  cZ (cL CX0 P w K mg base ["f","g","degree","size","left","quotient","at","many","j","c"] "poly_parted" (aB dR) f cdv A outer s H E).nox (aI dR) kJ:=
 (aH (aR 2 cP.nd rfl (Or.inl rfl) (aJ bF (dD (aP 1 (pv 1)) rfl bD) aE) (hl:=il (n:=10) rfl (by decide))) (aH (aR 3 cP.nd rfl (Or.inl rfl) (dS (cu_max rfl) rfl aF1 bt_max (aA aE (aA (aJ bF (dD (aP 0 (pv 0)) rfl bD) (aC 2 (pv 2))) aF))) (hl:=il (n:=10) rfl (by decide))) (aH (aR 4 cP.nd rfl (Or.inl rfl) (bW aQ1 rfl kQ aS1 (aA (aC 0 (pv 0)) aF)) (hl:=il (n:=10) rfl (by decide))) (aH (aR 5 cP.nd rfl (Or.inl rfl) (aJ bH (cQ (aA aE aF)) (aC 3 (pv 3))) (hl:=il (n:=10) rfl (by decide))) (aH (dG PassesOwn.never rfl (c89 rfl dZ rfl aT (aA (aC 3 (pv 3)) aF)) (bG 6 (aW cP.nd rfl (Or.inl rfl))) (aH (aR 7 cP.nd rfl (Or.inl rfl) (b9 (aP 4 (pv 4)) (aJ bT (aC 6 (pv 6)) (aC 2 (pv 2))) (fun _ _=>rfl)) (hl:=il (n:=10) rfl (by decide))) (aH (qZ 5 (pv 5) (aC 7 (pv 7)) (aC 6 (pv 6))) (aL (dG PassesOwn.never rfl (c88 rfl iL (aA (aC 1 (pv 1)) aF)) (vU rfl (fG 8 (aW cP.nd rfl (Or.inl rfl)) (fG 9 (aW cP.nd rfl (Or.inl rfl)) qY)) (dY (dY nI))) (aL (c87 4 (pv 4) (aJ bT (aC 6 (pv 6)) (aC 8 (pv 8))) (aJ bH (aC 7 (pv 7)) (aC 9 (pv 9))) bN8))))))) (aL (b7 (cH (aA (aZ rW hr (by decide) rfl (aA (bW dH rfl aX cV (aA (aC 5 (pv 5)) aF)) aF)) (aA (aZ rW hr (by decide) rfl (aA (bW dH rfl aX cV (aA (aC 4 (pv 4)) aF)) aF)) aF))))))))))
theorem aI2 (dZ:mg "reversed"=none){f:Addr}{cdv:Value}{A:Around}{outer:List Env}{s:Shared}{H:Hp}{E:XK}(hr:bM 0 (A.deeper (envOfC "poly_at" (aB gT) s.heap.objs.size f cdv))) :
  cZ (cL CX0 P w K mg base ["f","z","value","c"] "poly_at" (aB gT) f cdv A outer s H E).nox (aI gT) rK:=
 (aH (aR 2 mY.nd rfl (Or.inl rfl) aE (hl:=il (n:=4) rfl (by decide))) (aH (dG PassesOwn.never rfl (bC3 rfl dZ (aA (aC 0 (pv 0)) aF)) (bG 3 (aW mY.nd rfl (Or.inl rfl))) (aL (aR 2 mY.nd rfl (Or.inl rfl) (aJ bT (aJ bH (aC 2 (pv 2)) (aC 1 (pv 1))) (aC 3 (pv 3))) (hl:=il (n:=4) rfl (by decide))))) (aL (j9 2 (pv 2)))))
theorem uX (bD:mg "len"=none)(aT:mg "range"=none){k:Nat}{dJ:Φ}(hk:1≤k)(oR:Fn P w K mg base "det" ["table"] k dJ)(jO:Fn P w K mg base "without" ["table","i"] 1 jW){f:Addr}{cdv:Value}{A:Around}{outer:List Env}{s:Shared}{H:Hp}{E:XK}(hr:bM k (A.deeper (envOfC "det" (aB oK) s.heap.objs.size f cdv))) :
  cZ (cL CX0 P w K mg base ["table","total","sign","i"] "det" (aB oK) f cdv A outer s H E).nox (aI oK) (aA7 dJ):=
 (aH (d7 (bE fS (dD (aP 0 (pv 0)) rfl bD) aE (bL _)) (aL (b7 (b9 (qH (b9 (aP 0 (pv 0)) aE (fun _ _=>rfl))) aE (fun _ _=>rfl)))) bX) (aH (aR 1 kD.nd rfl (Or.inl rfl) aE (hl:=il (n:=4) rfl (by decide))) (aH (aR 2 kD.nd rfl (Or.inl rfl) aE (hl:=il (n:=4) rfl (by decide))) (aH (dG PassesOwn.never rfl (cI rfl aT (aA (dD (aP 0 (pv 0)) rfl bD) aF)) (bG 3 (aW kD.nd rfl (Or.inl rfl))) (aH (aP6 1 kD.nd rfl (Or.inl rfl) (aJ bH (aJ bH (aC 2 (pv 2)) (b9 (qH (b9 (aP 0 (pv 0)) (aC 3 (pv 3)) (fun _ _=>rfl))) aE (fun _ _=>rfl))) (aZ oR hr (Nat.le_refl _) rfl (aA (aZ jO hr hk rfl (aA (aC 0 (pv 0)) (aA (aC 3 (pv 3)) aF))) aF))) b54 (hl:=il (n:=4) rfl (by decide))) (aL (aR 2 kD.nd rfl (Or.inl rfl) (fH (aC 2 (pv 2))) (hl:=il (n:=4) rfl (by decide)))))) (aL (j9 1 (pv 1)))))))
theorem aI3 (aX:mg "tuple"=none){f:Addr}{cdv:Value}{A:Around}{outer:List Env}{s:Shared}{H:Hp}{E:XK}(hr:bM 0 (A.deeper (envOfC "without" (aB fX) s.heap.objs.size f cdv))) :
  cZ (cL CX0 P w K mg base ["table","i"] "without" (aB fX) f cdv A outer s H E).nox (aI fX) rE:=
 (aL (b7 (bW dH rfl aX cV (aA (dI (js:=[]) (N:=["row",".acc"]) (cap:=[none,none]) (last:=1) (esc:=(aB fX).names) (XN:=["table","i"]) rfl rfl (by decide +kernel) (by decide) (by decide) rfl (gL (aJ bT (hV (aP 0 (pv 0)) j2 (eP (aC 1 (pv 1)))) (hV (aP 0 (pv 0)) (eP (aJ bT (aC 1 (pv 1)) aE)) j2))) (fun _ _ _ _ _ _=>(bG 0 (aW (show List.Nodup (["row",".acc"]:List Str)by decide +kernel) rfl (Or.inl rfl)))) (fun _ _ _ _ _ _=>eT) (fun _ _ _ _ _ _=>(hV (aP 0 (pv 0)) (eP aE) j2))) aF))))
theorem aI4 (aX:mg "tuple"=none)(aT:mg "range"=none){f:Addr}{cdv:Value}{A:Around}{outer:List Env}{s:Shared}{H:Hp}{E:XK}(hr:bM 0 (A.deeper (envOfC "t_times" (aB fY) s.heap.objs.size f cdv))) :
  cZ (cL CX0 P w K mg base ["ring","x","last","moved"] "t_times" (aB fY) f cdv A outer s H E).nox (aI fY) rM:=
 (aH (aR 2 rQ.nd rfl (Or.inr rfl) (b9 (aP 1 (pv 1)) (fH aE) (fun _ _=>rfl)) (hl:=il (n:=4) rfl (by decide))) (aH (aR 3 rQ.nd rfl (Or.inr rfl) (aJ bT (cH (aA aE aF)) (hV (aP 1 (pv 1)) j2 (eP (fH aE)))) (hl:=il (n:=4) rfl (by decide))) (aL (b7 (bW dH rfl aX cV (aA (dI (js:=[2,0]) (N:=["i","moved","last","ring",".acc"]) (cap:=[none,some 3,some 2,some 0,none]) (last:=4) (esc:=(aB fY).names) (XN:=["ring","x","last","moved"]) rfl rfl (by decide +kernel) (by decide) (by decide) rfl (cI rfl aT (aA (sX (aC 0 (pv 0))) aF)) (fun _ _ _ _ _ _=>(bG 0 (aW (show List.Nodup (["i","moved","last","ring",".acc"]:List Str)by decide +kernel) rfl (Or.inl rfl)))) (fun _ _ _ _ _ _=>eT) (fun _ _ _ _ _ _=>(aJ bF (b9 (aP 1 (pv 1)) (aC 0 (pv 0)) (fun _ _=>rfl)) (aJ bH (aC 2 (pv 2)) (b9 (qH (sX (aC 3 (pv 3)))) (aC 0 (pv 0)) (fun _ _=>rfl)))))) aF))))))
theorem aE4 (aT:mg "range"=none)(aX:mg "tuple"=none)(uA:Fn P w K mg base "t_times" ["ring","x"] 1 kB){f:Addr}{cdv:Value}{A:Around}{outer:List Env}{s:Shared}{H:Hp}{E:XK}(hr:bM 1 (A.deeper (envOfC "table_of" (aB fZ) s.heap.objs.size f cdv))) :
  cZ (cL CX0 P w K mg base ["ring","x","rows","step"] "table_of" (aB fZ) f cdv A outer s H E).nox (aI fZ) pE:=
 (aH (aR 2 pP.nd rfl (Or.inl rfl) (cQ (aA (aC 1 (pv 1)) aF)) (hl:=il (n:=4) rfl (by decide))) (aH (dG PassesOwn.never rfl (cI rfl aT (aA (aJ bF (sX (aC 0 (pv 0))) aE) aF)) (bG 3 (aW pP.nd rfl (Or.inl rfl))) (aL (iS 2 (pv 2) (aZ uA hr (by decide) rfl (aA (aC 0 (pv 0)) (aA (b9 (aP 2 (pv 2)) (fH aE) (fun _ _=>rfl)) aF)))))) (aL (b7 (bW dH rfl aX cV (aA (aC 2 (pv 2)) aF))))))
theorem b97 (oR:Fn P w K mg base "det" ["table"] 5 (dJ 4))(eW:Fn P w K mg base "table_of" ["ring","x"] 2 eC){f:Addr}{cdv:Value}{A:Around}{outer:List Env}{s:Shared}{H:Hp}{E:XK}(hr:bM 5 (A.deeper (envOfC "norm" (aB lQ) s.heap.objs.size f cdv))) :
  cZ (cL CX0 P w K mg base ["ring","x"] "norm" (aB lQ) f cdv A outer s H E).nox (aI lQ) yX:=
 (aL (b7 (aZ oR hr (by decide) rfl (aA (aZ eW hr (by decide) rfl (aA (aC 0 (pv 0)) (aA (aC 1 (pv 1)) aF))) aF))))
theorem b24 (qW:mg "sum"=none)(aT:mg "range"=none)(eW:Fn P w K mg base "table_of" ["ring","x"] 2 eC){f:Addr}{cdv:Value}{A:Around}{outer:List Env}{s:Shared}{H:Hp}{E:XK}(hr:bM 2 (A.deeper (envOfC "trace" (aB iT) s.heap.objs.size f cdv))) :
  cZ (cL CX0 P w K mg base ["ring","x","table"] "trace" (aB iT) f cdv A outer s H E).nox (aI iT) wE:=
 (aH (aR 2 aE1.nd rfl (Or.inr rfl) (aZ eW hr (by decide) rfl (aA (aC 0 (pv 0)) (aA (aC 1 (pv 1)) aF))) (hl:=il (n:=3) rfl (by decide))) (aL (b7 (dS (b61 rfl) rfl qW b62 (aA (dI (js:=[]) (N:=["i","table",".acc"]) (cap:=[none,some 2,none]) (last:=2) (esc:=(aB iT).names) (XN:=["ring","x","table"]) rfl rfl (by decide +kernel) (by decide) (by decide) rfl (cI rfl aT (aA (sX (aC 0 (pv 0))) aF)) (fun _ _ _ _ _ _=>(bG 0 (aW (show List.Nodup (["i","table",".acc"]:List Str)by decide +kernel) rfl (Or.inl rfl)))) (fun _ _ _ _ _ _=>eT) (fun _ _ _ _ _ _=>(b9 (qH (b9 (aP 1 (pv 1)) (aC 0 (pv 0)) (fun _ _=>rfl))) (aC 0 (pv 0)) (fun _ _=>rfl)))) aF)))))
theorem wH (bD:mg "len"=none)(mS:mg "all"=none)(mT:mg "abs"=none){kR:Tok}(eA:mg "GREATEST_PLACE"=some (.int 499 kR)){f:Addr}{cdv:Value}{A:Around}{outer:List Env}{s:Shared}{H:Hp}{E:XK}(hr:bM 0 (A.deeper (envOfC "is_ring_poly" (aB cO) s.heap.objs.size f cdv))) :
  cZ (cL CX0 P w K mg base ["row"] "is_ring_poly" (aB cO) f cdv A outer s H E).nox (aI cO) jX:=
 (aH (d7 (PUW.pt (vT (bE aX1 (dD (aP 0 (pv 0)) rfl bD) aE (bL _)) (vT (bE aX2 (dD (aP 0 (pv 0)) rfl bD) aE (bL _)) (uM (bE aK5 (b9 (aP 0 (pv 0)) (fH aE) (fun _ _=>rfl)) aE (bL _)))))) (aL (b7 zL)) bX) (aL (b7 (dS (aQ7 rfl) rfl mS aQ8 (aA (dI (js:=[]) (N:=["c",".acc"]) (cap:=[none,none]) (last:=1) (esc:=(aB cO).names) (XN:=["row"]) rfl rfl (by decide +kernel) (by decide) (by decide) rfl (gL (aC 0 (pv 0))) (fun _ _ _ _ _ _=>(bG 0 (aW (show List.Nodup (["c",".acc"]:List Str)by decide +kernel) rfl (Or.inl rfl)))) (fun _ _ _ _ _ _=>eT) (fun _ _ _ _ _ _=>(a84 cF2 (dS aP9 rfl mT aS0 (aA (aC 0 (pv 0)) aF)) (bC1 rfl eA) (bL _)))) aF)))))
theorem u7 (kS:Fn P w K mg base "is_ring_poly" ["row"] 1 fV){f:Addr}{cdv:Value}{A:Around}{outer:List Env}{s:Shared}{H:Hp}{E:XK}(hr:bM 1 (A.deeper (envOfC "need_ring_poly" (aB cK) s.heap.objs.size f cdv))) :
  cZ (cL CX0 P w K mg base ["row"] "need_ring_poly" (aB cK) f cdv A outer s H E).nox (aI cK) iW:=
 (aL (d7 (oA (wS (aZ kS hr (by decide) rfl (aA (aC 0 (pv 0)) aF)))) (aL aX0) bX))
theorem b98 {f:Addr}{cdv:Value}{A:Around}{outer:List Env}{s:Shared}{H:Hp}{E:XK}(hr:bM 0 (A.deeper (envOfC "root" (aB lU) s.heap.objs.size f cdv))) :
  cZ (cL CX0 P w K mg base ["m","guess","better"] "root" (aB lU) f cdv A outer s H E).nox (aI lU) yU:=
 (aH (aR 1 qU.nd rfl (Or.inl rfl) (aC 0 (pv 0)) (hl:=il (n:=3) rfl (by decide))) (aH (aR 2 qU.nd rfl (Or.inl rfl) (aJ vV (aJ bT (aC 0 (pv 0)) aE) aE) (hl:=il (n:=3) rfl (by decide))) (aH (a86 PassesOwn.never (bE aX1 (aC 2 (pv 2)) (aC 1 (pv 1)) (bL _)) (aH (aR 1 qU.nd rfl (Or.inl rfl) (aC 2 (pv 2)) (hl:=il (n:=3) rfl (by decide))) (aL (aR 2 qU.nd rfl (Or.inl rfl) (aJ vV (aJ bT (aC 1 (pv 1)) (aJ vV (aC 0 (pv 0)) (aC 1 (pv 1)))) aE) (hl:=il (n:=3) rfl (by decide)))))) (aL (j9 1 (pv 1))))))
theorem wI (kQ:mg "list"=none){gQ:Addr}(fL:mg "SMALL_PRIMES"=some (.ref gQ))(nW:KT K gQ (T_SMALL_PRIMES.map V.int)){f:Addr}{cdv:Value}{A:Around}{outer:List Env}{s:Shared}{H:Hp}{E:XK}(hr:bM 0 (A.deeper (envOfC "small_primes" (aB dB) s.heap.objs.size f cdv))) :
  cZ (cL CX0 P w K mg base [] "small_primes" (aB dB) f cdv A outer s H E).nox (aI dB) kA:=
 (aL (b7 (bW aQ1 rfl kQ aS1 (aA (c95 rfl fL nW) aF))))
theorem b25 (bD:mg "len"=none)(cE:Fn P w K mg base "need_ring_poly" ["row"] 2 bU)(kF:Fn P w K mg base "line_and_rest" ["poly"] 3 fJ)(iM:Fn P w K mg base "two_by_two_apart" ["poly"] 3 dU){f:Addr}{cdv:Value}{A:Around}{outer:List Env}{s:Shared}{H:Hp}{E:XK}(hr:bM 3 (A.deeper (envOfC "apart" (aB jM) s.heap.objs.size f cdv))) :
  cZ (cL CX0 P w K mg base ["poly","pair"] "apart" (aB jM) f cdv A outer s H E).nox (aI jM) wB:=
 (aH (aQ9 (aZ cE hr (by decide) rfl (aA (aC 0 (pv 0)) aF))) (aH (aR 1 wG.nd rfl (Or.inl rfl) (aZ kF hr (by decide) rfl (aA (aC 0 (pv 0)) aF)) (hl:=il (n:=2) rfl (by decide))) (aH (d7 (PUW.pt (a66 (aR1 (aC 1 (pv 1))) (wT (bE fS (dD (aP 0 (pv 0)) rfl bD) aE (bL _))))) (aL (aR 1 wG.nd rfl (Or.inl rfl) (aZ iM hr (by decide) rfl (aA (aC 0 (pv 0)) aF)) (hl:=il (n:=2) rfl (by decide)))) bX) (aL (j9 1 (pv 1))))))
theorem aE5 (aT:mg "range"=none)(mT:mg "abs"=none){f:Addr}{cdv:Value}{A:Around}{outer:List Env}{s:Shared}{H:Hp}{E:XK}(hr:bM 0 (A.deeper (envOfC "dividers" (aB gA) s.heap.objs.size f cdv))) :
  cZ (cL CX0 P w K mg base ["m","found","d"] "dividers" (aB gA) f cdv A outer s H E).nox (aI gA) pB:=
 (aH (d7 (bE fS (aC 0 (pv 0)) aE (bL _)) (aL (b7 (cQ (aA aE aF)))) bX) (aH (aR 1 pQ.nd rfl (Or.inl rfl) (cQ aF) (hl:=il (n:=3) rfl (by decide))) (aH (dG PassesOwn.never rfl (yA rfl aT (aA aE (aA (aJ bT (dS aP9 rfl mT aS0 (aA (aC 0 (pv 0)) aF)) aE) aF))) (bG 2 (aW pQ.nd rfl (Or.inl rfl))) (aL (d7 (bE fS (aJ eM (aC 0 (pv 0)) (aC 2 (pv 2))) aE (bL _)) (aH (iS 1 (pv 1) (aC 2 (pv 2))) (aL (iS 1 (pv 1) (fH (aC 2 (pv 2)))))) bX))) (aL (j9 1 (pv 1))))))
theorem vD (iU:Fn P w K mg base "dividers" ["m"] 1 gJ)(jP:Fn P w K mg base "poly_at" ["f","z"] 1 gY)(bV:Fn P w K mg base "poly_parted" ["f","g"] 2 bN){f:Addr}{cdv:Value}{A:Around}{outer:List Env}{s:Shared}{H:Hp}{E:XK}(hr:bM 2 (A.deeper (envOfC "line_and_rest" (aB cS) s.heap.objs.size f cdv))) :
  cZ (cL CX0 P w K mg base ["poly","z","left"] "line_and_rest" (aB cS) f cdv A outer s H E).nox (aI cS) jF:=
 (aH (dG PassesOwn.never rfl (gL (aZ iU hr (by decide) rfl (aA (b9 (aP 0 (pv 0)) aE (fun _ _=>rfl)) aF))) (bG 1 (aW jG.nd rfl (Or.inl rfl))) (aL (d7 (bE fS (aZ jP hr (by decide) rfl (aA (aC 0 (pv 0)) (aA (aC 1 (pv 1)) aF))) aE (bL _)) (aH (aR 2 jG.nd rfl (Or.inl rfl) (cH (aA (fH (aC 1 (pv 1))) (aA aE aF))) (hl:=il (n:=3) rfl (by decide))) (aL (b7 (cH (aA (aC 2 (pv 2)) (aA (b9 (qH (aZ bV hr (by decide) rfl (aA (aC 0 (pv 0)) (aA (aC 2 (pv 2)) aF)))) aE (fun _ _=>rfl)) aF)))))) bX))) (aL (b7 a83)))
theorem rT (iU:Fn P w K mg base "dividers" ["m"] 1 gJ)(rX:Fn P w K mg base "two_with" ["total","times"] 2 j6){f:Addr}{cdv:Value}{A:Around}{outer:List Env}{s:Shared}{H:Hp}{E:XK}(hr:bM 2 (A.deeper (envOfC "two_by_two" (aB bZ) s.heap.objs.size f cdv))) :
  cZ (cL CX0 P w K mg base ["poly","v","w","u","s"] "two_by_two" (aB bZ) f cdv A outer s H E).nox (aI bZ) i8:=
 (aH (dG PassesOwn.never rfl (gL (aZ iU hr (by decide) rfl (aA (b9 (aP 0 (pv 0)) aE (fun _ _=>rfl)) aF))) (bG 1 (aW dW.nd rfl (Or.inl rfl))) (aH (aR 2 dW.nd rfl (Or.inl rfl) (aJ vV (b9 (aP 0 (pv 0)) aE (fun _ _=>rfl)) (aC 1 (pv 1))) (hl:=il (n:=5) rfl (by decide))) (aL (dG PassesOwn.never rfl (gL (aZ rX hr (by decide) rfl (aA (b9 (aP 0 (pv 0)) aE (fun _ _=>rfl)) (aA (aJ bF (aJ bF (b9 (aP 0 (pv 0)) aE (fun _ _=>rfl)) (aC 1 (pv 1))) (aC 2 (pv 2))) aF)))) (bG 3 (aW dW.nd rfl (Or.inl rfl))) (aH (aR 4 dW.nd rfl (Or.inl rfl) (aJ bF (b9 (aP 0 (pv 0)) aE (fun _ _=>rfl)) (aC 3 (pv 3))) (hl:=il (n:=5) rfl (by decide))) (aL (d7 (bE fS (aJ bT (aJ bH (aC 3 (pv 3)) (aC 2 (pv 2))) (aJ bH (aC 1 (pv 1)) (aC 4 (pv 4)))) (b9 (aP 0 (pv 0)) aE (fun _ _=>rfl)) (bL _)) (aL (b7 (cH (aA (cH (aA (aC 1 (pv 1)) (aA (aC 3 (pv 3)) (aA aE aF)))) (aA (cH (aA (aC 2 (pv 2)) (aA (aC 4 (pv 4)) (aA aE aF)))) aF))))) bX))))))) (aL (b7 a83)))
theorem aE6 (aF2:Fn P w K mg base "root" ["m"] 1 qS){f:Addr}{cdv:Value}{A:Around}{outer:List Env}{s:Shared}{H:Hp}{E:XK}(hr:bM 1 (A.deeper (envOfC "two_with" (aB gB) s.heap.objs.size f cdv))) :
  cZ (cL CX0 P w K mg base ["total","times","square","gap"] "two_with" (aB gB) f cdv A outer s H E).nox (aI gB) pC:=
 (aH (aR 2 pR.nd rfl (Or.inl rfl) (aJ bF (aJ bH (aC 0 (pv 0)) (aC 0 (pv 0))) (aJ bH aE (aC 1 (pv 1)))) (hl:=il (n:=4) rfl (by decide))) (aH (d7 (bE aX1 (aC 2 (pv 2)) aE (bL _)) (aL (b7 (cQ aF))) bX) (aH (aR 3 pR.nd rfl (Or.inl rfl) (aZ aF2 hr (by decide) rfl (aA (aC 2 (pv 2)) aF)) (hl:=il (n:=4) rfl (by decide))) (aH (d7 (bE aK5 (aJ bH (aC 3 (pv 3)) (aC 3 (pv 3))) (aC 2 (pv 2)) (bL _)) (aL (b7 (cQ aF))) bX) (aL (b7 (cQ (aA (aJ vV (aJ bT (aC 0 (pv 0)) (aC 3 (pv 3))) aE) (aA (aJ vV (aJ bF (aC 0 (pv 0)) (aC 3 (pv 3))) aE) aF)))))))))
theorem aI5 (bD:mg "len"=none)(aX:mg "tuple"=none)(aT:mg "range"=none)(cE:Fn P w K mg base "need_ring_poly" ["row"] 2 bU)(pU:Fn P w K mg base "root_sums" ["poly","many"] 1 iH)(oR:Fn P w K mg base "det" ["table"] 5 (dJ 4)){f:Addr}{cdv:Value}{A:Around}{outer:List Env}{s:Shared}{H:Hp}{E:XK}(hr:bM 5 (A.deeper (envOfC "measure" (aB gC) s.heap.objs.size f cdv))) :
  cZ (cL CX0 P w K mg base ["poly","n","sums"] "measure" (aB gC) f cdv A outer s H E).nox (aI gC) rG:=
 (aH (aQ9 (aZ cE hr (by decide) rfl (aA (aC 0 (pv 0)) aF))) (aH (aR 1 rR.nd rfl (Or.inr rfl) (aJ bF (dD (aP 0 (pv 0)) rfl bD) aE) (hl:=il (n:=3) rfl (by decide))) (aH (aR 2 rR.nd rfl (Or.inr rfl) (aZ pU hr (by decide) rfl (aA (aC 0 (pv 0)) (aA (aJ bF (aJ bH aE (aC 1 (pv 1))) aE) aF))) (hl:=il (n:=3) rfl (by decide))) (aL (b7 (aZ oR hr (by decide) rfl (aA (bW dH rfl aX cV (aA (dI (js:=[1]) (N:=["i","sums","n",".acc"]) (cap:=[none,some 2,some 1,none]) (last:=3) (esc:=(aB gC).names) (XN:=["poly","n","sums"]) rfl rfl (by decide +kernel) (by decide) (by decide) rfl (cI rfl aT (aA (aC 1 (pv 1)) aF)) (fun _ _ _ _ _ _=>(bG 0 (aW (show List.Nodup (["i","sums","n",".acc"]:List Str)by decide +kernel) rfl (Or.inl rfl)))) (fun _ _ _ _ _ _=>eT) (fun _ _ _ _ _ _=>(bW dH rfl aX cV (aA (hV (aP 1 (pv 1)) (eP (aC 0 (pv 0))) (eP (aJ bT (aC 0 (pv 0)) (aC 2 (pv 2))))) aF)))) aF)) aF)))))))
theorem a58 (bD:mg "len"=none)(aT:mg "range"=none)(qW:mg "sum"=none)(aF3:mg "min"=none){f:Addr}{cdv:Value}{A:Around}{outer:List Env}{s:Shared}{H:Hp}{E:XK}(hr:bM 0 (A.deeper (envOfC "root_sums" (aB eE) s.heap.objs.size f cdv))) :
  cZ (cL CX0 P w K mg base ["poly","many","n","sums","k","total"] "root_sums" (aB eE) f cdv A outer s H E).nox (aI eE) nM:=
 (aH (aR 2 gP.nd rfl (Or.inr rfl) (aJ bF (dD (aP 0 (pv 0)) rfl bD) aE) (hl:=il (n:=6) rfl (by decide))) (aH (aR 3 gP.nd rfl (Or.inr rfl) (cQ (aA (aC 2 (pv 2)) aF)) (hl:=il (n:=6) rfl (by decide))) (aH (dG PassesOwn.never rfl (yA rfl aT (aA aE (aA (aC 1 (pv 1)) aF))) (bG 4 (aW gP.nd rfl (Or.inr rfl))) (aH (aR 5 gP.nd rfl (Or.inl rfl) (dS (b61 rfl) rfl qW b62 (aA (dI (js:=[2,4]) (N:=["i","poly","n","sums","k",".acc"]) (cap:=[none,some 0,some 2,some 3,some 4,none]) (last:=5) (esc:=(aB eE).names) (XN:=["poly","many","n","sums","k","total"]) rfl rfl (by decide +kernel) (by decide) (by decide) rfl (yA rfl aT (aA aE (aA (aJ bT (dS (cu_min rfl) rfl aF3 bt_min (aA (aJ bF (aC 4 (pv 4)) aE) (aA (aC 2 (pv 2)) aF))) aE) aF))) (fun _ _ _ _ _ _=>(bG 0 (aW (show List.Nodup (["i","poly","n","sums","k",".acc"]:List Str)by decide +kernel) rfl (Or.inl rfl)))) (fun _ _ _ _ _ _=>eT) (fun _ _ _ _ _ _=>(aJ bH (b9 (aP 1 (pv 1)) (aJ bF (aC 2 (pv 2)) (aC 0 (pv 0))) (fun _ _=>rfl)) (b9 (aP 3 (pv 3)) (aJ bF (aC 4 (pv 4)) (aC 0 (pv 0))) (fun _ _=>rfl))))) aF)) (hl:=il (n:=6) rfl (by decide))) (aH (d7 (bE cF2 (aC 4 (pv 4)) (aC 2 (pv 2)) (bL _)) (aL (aP6 5 gP.nd rfl (Or.inl rfl) (aJ bH (aC 4 (pv 4)) (b9 (aP 0 (pv 0)) (aJ bF (aC 2 (pv 2)) (aC 4 (pv 4))) (fun _ _=>rfl))) b54 (hl:=il (n:=6) rfl (by decide)))) bX) (aL (iS 3 (pv 3) (fH (aC 5 (pv 5)))))))) (aL (j9 3 (pv 3))))))
theorem aE7 (aX:mg "tuple"=none)(rW:Fn P w K mg base "cut" ["row"] 1 lH){f:Addr}{cdv:Value}{A:Around}{outer:List Env}{s:Shared}{H:Hp}{E:XK}(hr:bM 1 (A.deeper (envOfC "mod_poly" (aB eU) s.heap.objs.size f cdv))) :
  cZ (cL CX0 P w K mg base ["row","p"] "mod_poly" (aB eU) f cdv A outer s H E).nox (aI eU) oY:=
 (aL (b7 (aZ rW hr (by decide) rfl (aA (bW dH rfl aX cV (aA (dI (js:=[1]) (N:=["c","p",".acc"]) (cap:=[none,some 1,none]) (last:=2) (esc:=(aB eU).names) (XN:=["row","p"]) rfl rfl (by decide +kernel) (by decide) (by decide) rfl (gL (aC 0 (pv 0))) (fun _ _ _ _ _ _=>(bG 0 (aW (show List.Nodup (["c","p",".acc"]:List Str)by decide +kernel) rfl (Or.inl rfl)))) (fun _ _ _ _ _ _=>eT) (fun _ _ _ _ _ _=>(aJ eM (aC 0 (pv 0)) (aC 1 (pv 1))))) aF)) aF))))
theorem zC (dP:Fn P w K mg base "mod_poly" ["row","p"] 2 cX)(nX:Fn P w K mg base "inverse_of" ["c","p"] 1 hX)(bV:Fn P w K mg base "poly_parted" ["f","g"] 2 bN)(rY:Fn P w K mg base "scaled" ["f","k","p"] 3 jL){f:Addr}{cdv:Value}{A:Around}{outer:List Env}{s:Shared}{H:Hp}{E:XK}(hr:bM 3 (A.deeper (envOfC "mod_parted" (aB eH) s.heap.objs.size f cdv))) :
  cZ (cL CX0 P w K mg base ["a","b","p","low","turn","quotient","rest"] "mod_parted" (aB eH) f cdv A outer s H E).nox (aI eH) m8:=
 (aH (aR 3 i5.nd rfl (Or.inl rfl) (aZ dP hr (by decide) rfl (aA (aC 1 (pv 1)) (aA (aC 2 (pv 2)) aF))) (hl:=il (n:=7) rfl (by decide))) (aH (aR 4 i5.nd rfl (Or.inl rfl) (aZ nX hr (by decide) rfl (aA (b9 (aP 3 (pv 3)) (fH aE) (fun _ _=>rfl)) (aA (aC 2 (pv 2)) aF))) (hl:=il (n:=7) rfl (by decide))) (aH (b51 (aZ bV hr (by decide) rfl (aA (aZ dP hr (by decide) rfl (aA (aC 0 (pv 0)) (aA (aC 2 (pv 2)) aF))) (aA (aZ rY hr (by decide) rfl (aA (aC 3 (pv 3)) (aA (aC 4 (pv 4)) (aA (aC 2 (pv 2)) aF)))) aF))) (vU rfl (fG 5 (aW i5.nd rfl (Or.inl rfl)) (fG 6 (aW i5.nd rfl (Or.inl rfl)) qY)) (dY (dY nI)))) (aL (b7 (cH (aA (aZ rY hr (by decide) rfl (aA (aC 5 (pv 5)) (aA (aC 4 (pv 4)) (aA (aC 2 (pv 2)) aF)))) (aA (aZ dP hr (by decide) rfl (aA (aC 6 (pv 6)) (aA (aC 2 (pv 2)) aF))) aF))))))))
theorem aU7 (aX:mg "tuple"=none)(dP:Fn P w K mg base "mod_poly" ["row","p"] 2 cX){f:Addr}{cdv:Value}{A:Around}{outer:List Env}{s:Shared}{H:Hp}{E:XK}(hr:bM 2 (A.deeper (envOfC "scaled" (aB gZ) s.heap.objs.size f cdv))) :
  cZ (cL CX0 P w K mg base ["f","k","p"] "scaled" (aB gZ) f cdv A outer s H E).nox (aI gZ) t8:=
 (aL (b7 (aZ dP hr (by decide) rfl (aA (bW dH rfl aX cV (aA (dI (js:=[1]) (N:=["c","k",".acc"]) (cap:=[none,some 1,none]) (last:=2) (esc:=(aB gZ).names) (XN:=["f","k","p"]) rfl rfl (by decide +kernel) (by decide) (by decide) rfl (gL (aC 0 (pv 0))) (fun _ _ _ _ _ _=>(bG 0 (aW (show List.Nodup (["c","k",".acc"]:List Str)by decide +kernel) rfl (Or.inl rfl)))) (fun _ _ _ _ _ _=>eT) (fun _ _ _ _ _ _=>(aJ bH (aC 1 (pv 1)) (aC 0 (pv 0))))) aF)) (aA (aC 2 (pv 2)) aF)))))
theorem zD (aT:mg "range"=none){f:Addr}{cdv:Value}{A:Around}{outer:List Env}{s:Shared}{H:Hp}{E:XK}(hr:bM 0 (A.deeper (envOfC "inverse_of" (aB eI) s.heap.objs.size f cdv))) :
  cZ (cL CX0 P w K mg base ["c","p","value","step"] "inverse_of" (aB eI) f cdv A outer s H E).nox (aI eI) lZ:=
 (aH (aR 2 jB.nd rfl (Or.inl rfl) aE (hl:=il (n:=4) rfl (by decide))) (aH (dG PassesOwn.never rfl (cI rfl aT (aA (aJ bF (aC 1 (pv 1)) aE) aF)) (bG 3 (aW jB.nd rfl (Or.inl rfl))) (aL (aR 2 jB.nd rfl (Or.inl rfl) (aJ eM (aJ bH (aC 2 (pv 2)) (aC 0 (pv 0))) (aC 1 (pv 1))) (hl:=il (n:=4) rfl (by decide))))) (aL (j9 2 (pv 2)))))
theorem aE8 (fE:Fn P w K mg base "small_primes" [] 1 dM)(pV:Fn P w K mg base "lines_out" ["f","p"] 5 iI)(dP:Fn P w K mg base "mod_poly" ["row","p"] 2 cX)(jH:Fn P w K mg base "rootless_parts" ["f","p"] 2 eQ){f:Addr}{cdv:Value}{A:Around}{outer:List Env}{s:Shared}{H:Hp}{E:XK}(hr:bM 5 (A.deeper (envOfC "split_by" (aB gD) s.heap.objs.size f cdv))) :
  cZ (cL CX0 P w K mg base ["poly","p","parts","left"] "split_by" (aB gD) f cdv A outer s H E).nox (aI gD) oZ:=
 (aH (d7 (bE bQ8 (aC 1 (pv 1)) (bQ5 fE hr (by decide) rfl) rfl) (aL aX0) bX) (aH (b51 (aZ pV hr (by decide) rfl (aA (aZ dP hr (by decide) rfl (aA (aC 0 (pv 0)) (aA (aC 1 (pv 1)) aF))) (aA (aC 1 (pv 1)) aF))) (vU rfl (fG 2 (aW pS.nd rfl (Or.inl rfl)) (fG 3 (aW pS.nd rfl (Or.inl rfl)) qY)) (dY (dY nI)))) (aL (b7 (aJ bT (aC 2 (pv 2)) (aZ jH hr (by decide) rfl (aA (aC 3 (pv 3)) (aA (aC 1 (pv 1)) aF))))))))
theorem a59 (aT:mg "range"=none)(jP:Fn P w K mg base "poly_at" ["f","z"] 1 gY)(nY:Fn P w K mg base "mod_parted" ["a","b","p"] 4 hZ){f:Addr}{cdv:Value}{A:Around}{outer:List Env}{s:Shared}{H:Hp}{E:XK}(hr:bM 4 (A.deeper (envOfC "lines_out" (aB eZ) s.heap.objs.size f cdv))) :
  cZ (cL CX0 P w K mg base ["f","p","parts","left","c","often"] "lines_out" (aB eZ) f cdv A outer s H E).nox (aI eZ) nO:=
 (aH (aR 2 fK.nd rfl (Or.inl rfl) (cQ aF) (hl:=il (n:=6) rfl (by decide))) (aH (aR 3 fK.nd rfl (Or.inl rfl) (aC 0 (pv 0)) (hl:=il (n:=6) rfl (by decide))) (aH (dG PassesOwn.never rfl (cI rfl aT (aA (aC 1 (pv 1)) aF)) (bG 4 (aW fK.nd rfl (Or.inl rfl))) (aH (aR 5 fK.nd rfl (Or.inl rfl) aE (hl:=il (n:=6) rfl (by decide))) (aH (a86 PassesOwn.never (bE fS (aJ eM (aZ jP hr (by decide) rfl (aA (aC 3 (pv 3)) (aA (fH (aC 4 (pv 4))) aF))) (aC 1 (pv 1))) aE (bL _)) (aH (aR 3 fK.nd rfl (Or.inl rfl) (b9 (qH (aZ nY hr (by decide) rfl (aA (aC 3 (pv 3)) (aA (cH (aA (aC 4 (pv 4)) (aA aE aF))) (aA (aC 1 (pv 1)) aF))))) aE (fun _ _=>rfl)) (hl:=il (n:=6) rfl (by decide))) (aL (aP6 5 fK.nd rfl (Or.inl rfl) aE b54 (hl:=il (n:=6) rfl (by decide)))))) (aL (d7 (bE aX2 (aC 5 (pv 5)) aE (bL _)) (aL (iS 2 (pv 2) (cH (aA (cH (aA (aC 4 (pv 4)) (aA aE aF))) (aA (aC 5 (pv 5)) aF))))) bX))))) (aL (b7 (cH (aA (aC 2 (pv 2)) (aA (aC 3 (pv 3)) aF))))))))
theorem u8 (bD:mg "len"=none)(nZ:mg "sorted"=none)(iN:Fn P w K mg base "two_by_two_split" ["f","p"] 1 fM){f:Addr}{cdv:Value}{A:Around}{outer:List Env}{s:Shared}{H:Hp}{E:XK}(hr:bM 1 (A.deeper (envOfC "rootless_parts" (aB cD) s.heap.objs.size f cdv))) :
  cZ (cL CX0 P w K mg base ["f","p","pair"] "rootless_parts" (aB cD) f cdv A outer s H E).nox (aI cD) iX:=
 (aH (d7 (bE fS (dD (aP 0 (pv 0)) rfl bD) aE (bL _)) (aL (b7 (cQ aF))) bX) (aH (aR 2 mQ.nd rfl (Or.inl rfl) (aW9 (bE fS (dD (aP 0 (pv 0)) rfl bD) aE (bL _)) (aZ iN hr (by decide) rfl (aA (aC 0 (pv 0)) (aA (aC 1 (pv 1)) aF))) (cQ aF)) (hl:=il (n:=3) rfl (by decide))) (aH (d7 (bE fS (dD (aP 2 (pv 2)) rfl bD) aE (bL _)) (aL (b7 (cQ (aA (cH (aA (aC 0 (pv 0)) (aA aE aF))) aF)))) bX) (aH (d7 (bE (ou_eqD hr.units) (b9 (aP 2 (pv 2)) aE (fun _ _=>rfl)) (b9 (aP 2 (pv 2)) aE (fun _ _=>rfl)) (bL _)) (aL (b7 (cQ (aA (cH (aA (b9 (aP 2 (pv 2)) aE (fun _ _=>rfl)) (aA aE aF))) aF)))) bX) (aL (b7 (dI (js:=[]) (N:=["g",".acc"]) (cap:=[none,none]) (last:=1) (esc:=(aB cD).names) (XN:=["f","p","pair"]) rfl rfl (by decide +kernel) (by decide) (by decide) rfl (gL (dS bS8 rfl nZ bL3 (aA (aC 2 (pv 2)) aF))) (fun _ _ _ _ _ _=>(bG 0 (aW (show List.Nodup (["g",".acc"]:List Str)by decide +kernel) rfl (Or.inl rfl)))) (fun _ _ _ _ _ _=>eT) (fun _ _ _ _ _ _=>(cH (aA (aC 0 (pv 0)) (aA aE aF)))))))))))
theorem rV (aT:mg "range"=none){f:Addr}{cdv:Value}{A:Around}{outer:List Env}{s:Shared}{H:Hp}{E:XK}(hr:bM 0 (A.deeper (envOfC "two_by_two" (aB cA) s.heap.objs.size f cdv))) :
  cZ (cL CX0 P w K mg base ["f","p","u","s","total","v","w"] "two_by_two" (aB cA) f cdv A outer s H E).nox (aI cA) kG:=
 (aH (dG PassesOwn.never rfl (cI rfl aT (aA (aC 1 (pv 1)) aF)) (bG 2 (aW cU.nd rfl (Or.inl rfl))) (aH (aR 3 cU.nd rfl (Or.inl rfl) (aJ eM (aJ bF (b9 (aP 0 (pv 0)) aE (fun _ _=>rfl)) (aC 2 (pv 2))) (aC 1 (pv 1))) (hl:=il (n:=7) rfl (by decide))) (aH (aR 4 cU.nd rfl (Or.inl rfl) (aJ bF (b9 (aP 0 (pv 0)) aE (fun _ _=>rfl)) (aJ bH (aC 2 (pv 2)) (aC 3 (pv 3)))) (hl:=il (n:=7) rfl (by decide))) (aL (dG PassesOwn.never rfl (cI rfl aT (aA (aC 1 (pv 1)) aF)) (bG 5 (aW cU.nd rfl (Or.inl rfl))) (aH (aR 6 cU.nd rfl (Or.inl rfl) (aJ eM (aJ bF (aC 4 (pv 4)) (aC 5 (pv 5))) (aC 1 (pv 1))) (hl:=il (n:=7) rfl (by decide))) (aL (d7 (PUW.pt (a66 (bE fS (aJ eM (aJ bH (aC 5 (pv 5)) (aC 6 (pv 6))) (aC 1 (pv 1))) (b9 (aP 0 (pv 0)) aE (fun _ _=>rfl)) (bL _)) (wT (bE fS (aJ eM (aJ bT (aJ bH (aC 2 (pv 2)) (aC 6 (pv 6))) (aJ bH (aC 5 (pv 5)) (aC 3 (pv 3)))) (aC 1 (pv 1))) (b9 (aP 0 (pv 0)) aE (fun _ _=>rfl)) (bL _))))) (aL (b7 (cQ (aA (cH (aA (aC 5 (pv 5)) (aA (aC 2 (pv 2)) (aA aE aF)))) (aA (cH (aA (aC 6 (pv 6)) (aA (aC 3 (pv 3)) (aA aE aF)))) aF))))) bX)))))))) (aL (b7 (cQ aF))))
theorem a60 (fE:Fn P w K mg base "small_primes" [] 1 dM)(rZ:Fn P w K mg base "parts_at" ["poly","p"] 7 j5){f:Addr}{cdv:Value}{A:Around}{outer:List Env}{s:Shared}{H:Hp}{E:XK}(hr:bM 7 (A.deeper (envOfC "papers_of" (aB eF) s.heap.objs.size f cdv))) :
  cZ (cL CX0 P w K mg base ["poly","size"] "papers_of" (aB eF) f cdv A outer s H E).nox (aI eF) nP:=
 (aL (b7 (dI (js:=[0,1]) (N:=["p","poly","size",".acc"]) (cap:=[none,some 0,some 1,none]) (last:=3) (esc:=(aB eF).names) (XN:=["poly","size"]) rfl rfl (by decide +kernel) (by decide) (by decide) rfl (gL (bQ5 fE hr (by decide) rfl)) (fun _ _ _ _ _ _=>(bG 0 (aW (show List.Nodup (["p","poly","size",".acc"]:List Str)by decide +kernel) rfl (Or.inl rfl)))) (fun _ _ _ _ _ _=>(c81 (bE fS (aJ eM (aC 2 (pv 2)) (aJ bH (aC 0 (pv 0)) (aC 0 (pv 0)))) aE (bL _)))) (fun _ _ _ _ _ _=>(cH (aA (aC 0 (pv 0)) (aA (aZ rZ hr (by decide) rfl (aA (aC 1 (pv 1)) (aA (aC 0 (pv 0)) aF))) aF)))))))
theorem aE9 (sA:Fn P w K mg base "split_by" ["poly","p"] 6 j4)(bV:Fn P w K mg base "poly_parted" ["f","g"] 2 bN){f:Addr}{cdv:Value}{A:Around}{outer:List Env}{s:Shared}{H:Hp}{E:XK}(hr:bM 6 (A.deeper (envOfC "parts_at" (aB eV) s.heap.objs.size f cdv))) :
  cZ (cL CX0 P w K mg base ["poly","p"] "parts_at" (aB eV) f cdv A outer s H E).nox (aI eV) pA:=
 (aL (b7 (dI (js:=[0]) (N:=["g","often","poly",".acc"]) (cap:=[none,none,some 0,none]) (last:=3) (esc:=(aB eV).names) (XN:=["poly","p"]) rfl rfl (by decide +kernel) (by decide) (by decide) rfl (gL (aZ sA hr (by decide) rfl (aA (aC 0 (pv 0)) (aA (aC 1 (pv 1)) aF)))) (fun _ _ _ _ _ _=>(vU rfl (fG 0 (aW (show List.Nodup (["g","often","poly",".acc"]:List Str)by decide +kernel) rfl (Or.inl rfl)) (fG 1 (aW (show List.Nodup (["g","often","poly",".acc"]:List Str)by decide +kernel) rfl (Or.inl rfl)) qY)) (dY (dY nI)))) (fun _ _ _ _ _ _=>eT) (fun _ _ _ _ _ _=>(cH (aA (aC 0 (pv 0)) (aA (aC 1 (pv 1)) (aA (b9 (qH (aZ bV hr (by decide) rfl (aA (aC 2 (pv 2)) (aA (aC 0 (pv 0)) aF)))) aE (fun _ _=>rfl)) aF))))))))
theorem zE (mS:mg "all"=none)(bV:Fn P w K mg base "poly_parted" ["f","g"] 2 bN){f:Addr}{cdv:Value}{A:Around}{outer:List Env}{s:Shared}{H:Hp}{E:XK}(hr:bM 2 (A.deeper (envOfC "outside_of" (aB dN) s.heap.objs.size f cdv))) :
  cZ (cL CX0 P w K mg base ["poly","rows","p","parts","g","often","rest"] "outside_of" (aB dN) f cdv A outer s H E).nox (aI dN) mC:=
 (aH (dG PassesOwn.never rfl (gL (aC 1 (pv 1))) (vU rfl (fG 2 (aW fP.nd rfl (Or.inr rfl)) (fG 3 (aW fP.nd rfl (Or.inl rfl)) qY)) (dY (dY nI))) (aL (dG PassesOwn.never rfl (gL (aC 3 (pv 3))) (vU rfl (fG 4 (aW fP.nd rfl (Or.inl rfl)) (fG 5 (aW fP.nd rfl (Or.inl rfl)) (fG 6 (aW fP.nd rfl (Or.inl rfl)) qY))) (dY (dY (dY nI)))) (aL (d7 (PUW.pt (a66 (bE cF3 (aC 5 (pv 5)) aE (bL _)) (wT (wS (dS (aQ7 rfl) rfl mS aQ8 (aA (dI (js:=[2]) (N:=["c","p",".acc"]) (cap:=[none,some 2,none]) (last:=2) (esc:=(aB dN).names) (XN:=["poly","rows","p","parts","g","often","rest"]) rfl rfl (by decide +kernel) (by decide) (by decide) rfl (gL (aC 6 (pv 6))) (fun _ _ _ _ _ _=>(bG 0 (aW (show List.Nodup (["c","p",".acc"]:List Str)by decide +kernel) rfl (Or.inl rfl)))) (fun _ _ _ _ _ _=>eT) (fun _ _ _ _ _ _=>(a84 fS (aJ eM (aC 0 (pv 0)) (aJ bH (aC 1 (pv 1)) (aC 1 (pv 1)))) aE (bL _)))) aF)))))) (aL (b7 (cH (aA (aC 2 (pv 2)) (aA (b9 (qH (aZ bV hr (by decide) rfl (aA (aC 0 (pv 0)) (aA (aC 4 (pv 4)) aF)))) aE (fun _ _=>rfl)) aF))))) bX))))) (aL (b7 a83)))
theorem u9 {cY:Addr}(gF:mg "FallsApart"=some (.ref cY)){fA:Addr}{aI6:FuncData}{aU9 aV0:Str}(iV:vG K cY fA [.type "ValueError",.type "Exception",.type "BaseException",.type "object"] "ValueError.__new__"=true)(sB:aY5 K cY fA aI6 aU9 aV0)(zF:Fn P w K mg base "apart" ["poly"] 4 nQ){f:Addr}{cdv:Value}{A:Around}{outer:List Env}{s:Shared}{H:Hp}{E:XK}(hr:bM 4 (A.deeper (envOfC "need_together" (aB cT) s.heap.objs.size f cdv))) :
  sW (cL (CXr P w base) P w K mg base ["poly","pair"] "need_together" (aB cT) f cdv A outer s H E) E (aI cT) iY:=
 (aR6 (x9 (aR 1 nT.nd rfl (Or.inl rfl) (aZ zF hr (by decide) rfl (aA (aC 0 (pv 0)) aF)) (hl:=il (n:=2) rfl (by decide)))) (a99 (bT3 (aY1 (aC 1 (pv 1))) (a99 (aL9 (k:=0) PySem.F.excBase_ValueError iV sB (hr.mono (by decide)) rfl gF rfl (aA (b9 (aP 1 (pv 1)) aE (fun _ _=>rfl)) (aA (b9 (aP 1 (pv 1)) aE (fun _ _=>rfl)) aF)) b68)) b71)))
theorem xW (aX:mg "tuple"=none)(bD:mg "len"=none){eN:Addr}(iO:mg "NotWhole"=some (.ref eN)){gU:Addr}{b27:FuncData}{bA1 bA2:Str}(kT:vG K eN gU [.type "ValueError",.type "Exception",.type "BaseException",.type "object"] "ValueError.__new__"=true)(wJ:aY5 K eN gU b27 bA1 bA2)(o5:Fn P w K mg base "outside_of" ["poly","rows"] 3 i4)(pW:Fn P w K mg base "papers_of" ["poly","size"] 8 iJ)(wK:Fn P w K mg base "padded" ["row","size"] 1 lN){f:Addr}{cdv:Value}{A:Around}{outer:List Env}{s:Shared}{H:Hp}{E:XK}(hr:bM 8 (A.deeper (envOfC "need_whole" (aB dO) s.heap.objs.size f cdv))) :
  sW (cL (CXr P w base) P w K mg base ["poly","size","found","p","f"] "need_whole" (aB dO) f cdv A outer s H E) E (aI dO) kL:=
 (aR6 (x9 (aR 2 jC.nd rfl (Or.inl rfl) (aZ o5 hr (by decide) rfl (aA (aC 0 (pv 0)) (aA (aZ pW hr (by decide) rfl (aA (aC 0 (pv 0)) (aA (aC 1 (pv 1)) aF))) aF))) (hl:=il (n:=5) rfl (by decide)))) (a99 (bT3 (aY1 (aC 2 (pv 2))) (aR6 (x9 (b51 (aC 2 (pv 2)) (vU rfl (fG 3 (aW jC.nd rfl (Or.inr rfl)) (fG 4 (aW jC.nd rfl (Or.inl rfl)) qY)) (dY (dY nI))))) (a99 (aL9 (k:=0) PySem.F.excBase_ValueError kT wJ (hr.mono (by decide)) rfl iO rfl (aA (aC 3 (pv 3)) (aA (aZ wK hr (by decide) rfl (aA (bW dH rfl aX cV (aA (dI (js:=[3]) (N:=["c","p",".acc"]) (cap:=[none,some 3,none]) (last:=2) (esc:=(aB dO).names) (XN:=["poly","size","found","p","f"]) rfl rfl (by decide +kernel) (by decide) (by decide) rfl (gL (aC 4 (pv 4))) (fun _ _ _ _ _ _=>(bG 0 (aW (show List.Nodup (["c","p",".acc"]:List Str)by decide +kernel) rfl (Or.inl rfl)))) (fun _ _ _ _ _ _=>eT) (fun _ _ _ _ _ _=>(aJ eM (aC 0 (pv 0)) (aC 1 (pv 1))))) aF)) (aA (aJ bF (dD (aP 0 (pv 0)) rfl bD) aE) aF))) aF)) b68))) b71)))
theorem bZ7 (bD:mg "len"=none){f:Addr}{cdv:Value}{A:Around}{outer:List Env}{s:Shared}{H:Hp}{E:XK}(hr:bM 0 (A.deeper (envOfC "_law_cell" (aB tX) s.heap.objs.size f cdv))) :
  cZ (cL CX0 P w K mg base ["_law_script","_law_k"] "_law_cell" (aB tX) f cdv A outer s H E).nox (aI tX) aR9:=
 (aH (d7 (bE fS (dD (aP 0 (pv 0)) rfl bD) aE (bL _)) (aL (b7 (aJ bH aE (aJ bT (aC 1 (pv 1)) aE)))) bX) (aH (d7 (bE aX1 (aC 1 (pv 1)) (dD (aP 0 (pv 0)) rfl bD) (bL _)) (aL (b7 (b9 (aP 0 (pv 0)) (aC 1 (pv 1)) (fun _ _=>rfl)))) bX) (aL (b7 (aJ bT (b9 (aP 0 (pv 0)) (aJ eM (aC 1 (pv 1)) (dD (aP 0 (pv 0)) rfl bD)) (fun _ _=>rfl)) (aJ bH aE (aC 1 (pv 1))))))))
theorem bL7 {f:Addr}{cdv:Value}{A:Around}{outer:List Env}{s:Shared}{H:Hp}{E:XK}(hr:bM 0 (A.deeper (envOfC "_law_mixed" (aB oM) s.heap.objs.size f cdv))) :
  cZ (cL CX0 P w K mg base ["_law_cell_here","_law_k","_law_prime","_law_far"] "_law_mixed" (aB oM) f cdv A outer s H E).nox (aI oM) aA2:=
 (aH (aR 3 aE3.nd rfl (Or.inl rfl) (aJ eM (aJ bH (aJ bT (aJ bT (aJ bT (aC 0 (pv 0)) (aJ bH (aJ bH aE (aC 1 (pv 1))) (aC 1 (pv 1)))) (aJ bH aE (aC 1 (pv 1)))) aE) aE) aE) (hl:=il (n:=4) rfl (by decide))) (aH (aR 3 aE3.nd rfl (Or.inl rfl) (aJ eM (aJ bH (aC 3 (pv 3)) (aC 3 (pv 3))) aE) (hl:=il (n:=4) rfl (by decide))) (aL (b7 (aJ eM (aJ bH (aC 3 (pv 3)) aE) (aC 2 (pv 2)))))))
theorem bL8 (aT:mg "range"=none)(bD:mg "len"=none)(uY:Fn P w K mg base "_law_mixed" ["_law_cell_here","_law_k","_law_prime"] 1 lF){f:Addr}{cdv:Value}{A:Around}{outer:List Env}{s:Shared}{H:Hp}{E:XK}(hr:bM 1 (A.deeper (envOfC "_law_draws" (aB oN) s.heap.objs.size f cdv))) :
  cZ (cL CX0 P w K mg base ["_law_cell_here","_law_widths","_law_prime","_law_left","_law_found","_law_k"] "_law_draws" (aB oN) f cdv A outer s H E).nox (aI oN) aA3:=
 (aH (aR 3 qV.nd rfl (Or.inl rfl) aE (hl:=il (n:=6) rfl (by decide))) (aH (d7 (bE cF3 (aC 0 (pv 0)) (aJ iF aE aE) (bL _)) (aL (aR 3 qV.nd rfl (Or.inl rfl) (aJ bF (aC 0 (pv 0)) (aJ iF aE aE)) (hl:=il (n:=6) rfl (by decide)))) bX) (aH (aR 4 qV.nd rfl (Or.inl rfl) (cQ aF) (hl:=il (n:=6) rfl (by decide))) (aH (dG PassesOwn.never rfl (cI rfl aT (aA (dD (aP 1 (pv 1)) rfl bD) aF)) (bG 5 (aW qV.nd rfl (Or.inl rfl))) (aL (d7 (bE aX2 (aC 3 (pv 3)) aE (bL _)) (aH (iS 4 (pv 4) (aJ eM (aC 3 (pv 3)) (b9 (aP 1 (pv 1)) (aC 5 (pv 5)) (fun _ _=>rfl)))) (aL (aR 3 qV.nd rfl (Or.inl rfl) (aJ vV (aC 3 (pv 3)) (b9 (aP 1 (pv 1)) (aC 5 (pv 5)) (fun _ _=>rfl))) (hl:=il (n:=6) rfl (by decide))))) (aL (iS 4 (pv 4) (aJ eM (aZ uY hr (by decide) rfl (aA (aC 0 (pv 0)) (aA (aC 5 (pv 5)) (aA (aC 2 (pv 2)) aF)))) (b9 (aP 1 (pv 1)) (aC 5 (pv 5)) (fun _ _=>rfl)))))))) (aL (j9 4 (pv 4)))))))
theorem b26 (kQ:mg "list"=none)(aT:mg "range"=none)(bD:mg "len"=none)(aX:mg "tuple"=none){f:Addr}{cdv:Value}{A:Around}{outer:List Env}{s:Shared}{H:Hp}{E:XK}(hr:bM 0 (A.deeper (envOfC "_law_shifted" (aB jN) s.heap.objs.size f cdv))) :
  cZ (cL CX0 P w K mg base ["_law_poly_here","_law_s","_law_row_here","_law_low","_law_at"] "_law_shifted" (aB jN) f cdv A outer s H E).nox (aI jN) wD:=
 (aH (aR 2 rS.nd rfl (Or.inl rfl) (bW aQ1 rfl kQ aS1 (aA (aC 0 (pv 0)) aF)) (hl:=il (n:=5) rfl (by decide))) (aH (dG PassesOwn.never rfl (cI rfl aT (aA (aJ bF (dD (aP 2 (pv 2)) rfl bD) aE) aF)) (bG 3 (aW rS.nd rfl (Or.inl rfl))) (aL (dG PassesOwn.never rfl (aL4 rfl aT (aA (aJ bF (dD (aP 2 (pv 2)) rfl bD) aE) (aA (aJ bF (aC 3 (pv 3)) aE) (aA (fH aE) aF)))) (bG 4 (aW rS.nd rfl (Or.inl rfl))) (aL (qZ 2 (pv 2) (aJ bT (b9 (aP 2 (pv 2)) (aC 4 (pv 4)) (fun _ _=>rfl)) (aJ bH (aC 1 (pv 1)) (b9 (aP 2 (pv 2)) (aJ bT (aC 4 (pv 4)) aE) (fun _ _=>rfl)))) (aC 4 (pv 4))))))) (aL (b7 (bW dH rfl aX cV (aA (aC 2 (pv 2)) aF))))))
theorem bZ8 (aX:mg "tuple"=none)(iC:Fn P w K mg base "_law_draws" ["_law_cell_here","_law_widths","_law_prime"] 2 fT)(uZ:Fn P w K mg base "_law_shifted" ["_law_poly_here","_law_s"] 1 kN){f:Addr}{cdv:Value}{A:Around}{outer:List Env}{s:Shared}{H:Hp}{E:XK}(hr:bM 2 (A.deeper (envOfC "_law_poly" (aB rP) s.heap.objs.size f cdv))) :
  cZ (cL CX0 P w K mg base ["_law_cell_here","_law_prime","_law_deep","_law_wide","_law_found"] "_law_poly" (aB rP) f cdv A outer s H E).nox (aI rP) aT9:=
 (aH (aR 2 uU.nd rfl (Or.inl rfl) (aZ iC hr (by decide) rfl (aA (aC 0 (pv 0)) (aA (cQ (aA aE (aA aE aF))) (aA (aC 1 (pv 1)) aF)))) (hl:=il (n:=5) rfl (by decide))) (aH (aR 3 uU.nd rfl (Or.inl rfl) (hV (qH (aZ iC hr (by decide) rfl (aA (aC 0 (pv 0)) (aA (cQ (aA aE (aA aE (aA aE (aA aE (aA aE (aA aE aF))))))) (aA (aC 1 (pv 1)) aF))))) (eP aE) (eP (aJ bT (b9 (aP 2 (pv 2)) aE (fun _ _=>rfl)) aE))) (hl:=il (n:=5) rfl (by decide))) (aH (d7 (bE fS (b9 (aP 2 (pv 2)) aE (fun _ _=>rfl)) aE (bL _)) (aL (b7 (bW dH rfl aX cV (aA (aJ bT (dI (js:=[]) (N:=["_law_place",".acc"]) (cap:=[none,none]) (last:=1) (esc:=(aB rP).names) (XN:=["_law_cell_here","_law_prime","_law_deep","_law_wide","_law_found"]) rfl rfl (by decide +kernel) (by decide) (by decide) rfl (gL (aC 3 (pv 3))) (fun _ _ _ _ _ _=>(bG 0 (aW (show List.Nodup (["_law_place",".acc"]:List Str)by decide +kernel) rfl (Or.inl rfl)))) (fun _ _ _ _ _ _=>eT) (fun _ _ _ _ _ _=>(aJ bF (aC 0 (pv 0)) aE))) (cQ (aA aE aF))) aF)))) bX) (aH (aR 4 uU.nd rfl (Or.inl rfl) (aZ iC hr (by decide) rfl (aA (aC 0 (pv 0)) (aA (cQ (aA aE (aA aE (aA aE (aA aE (aA aE (aA aE (aA aE aF)))))))) (aA (aC 1 (pv 1)) aF)))) (hl:=il (n:=5) rfl (by decide))) (aH (d7 (bE fS (b9 (aP 2 (pv 2)) aE (fun _ _=>rfl)) aE (bL _)) (aH (aR 4 uU.nd rfl (Or.inl rfl) (aZ iC hr (by decide) rfl (aA (aC 0 (pv 0)) (aA (cQ (aA aE (aA aE (aA aE (aA aE aF))))) (aA (aC 1 (pv 1)) aF)))) (hl:=il (n:=5) rfl (by decide))) (aL (b7 (cH (aA (aJ bF (b9 (aP 4 (pv 4)) aE (fun _ _=>rfl)) aE) (aA (aJ bF (b9 (aP 4 (pv 4)) aE (fun _ _=>rfl)) aE) (aA aE aF))))))) bX) (aH (d7 (bE fS (b9 (aP 2 (pv 2)) aE (fun _ _=>rfl)) aE (bL _)) (aL (b7 (aZ uZ hr (by decide) rfl (aA (cH (aA (aJ bF (b9 (aP 4 (pv 4)) aE (fun _ _=>rfl)) aE) (aA (aJ bF (b9 (aP 4 (pv 4)) aE (fun _ _=>rfl)) aE) (aA (aJ bF (b9 (aP 4 (pv 4)) aE (fun _ _=>rfl)) aE) (aA aE aF))))) (aA (aJ bF (b9 (aP 4 (pv 4)) aE (fun _ _=>rfl)) aE) aF))))) bX) (aH (aR 4 uU.nd rfl (Or.inl rfl) (aZ iC hr (by decide) rfl (aA (aC 0 (pv 0)) (aA (cQ (aA aE (aA aE (aA aE (aA aE (aA aE (aA aE (aA aE aF)))))))) (aA (aC 1 (pv 1)) aF)))) (hl:=il (n:=5) rfl (by decide))) (aL (b7 (aZ uZ hr (by decide) rfl (aA (cH (aA (aJ bF (b9 (aP 4 (pv 4)) aE (fun _ _=>rfl)) aE) (aA (aJ bF (b9 (aP 4 (pv 4)) aE (fun _ _=>rfl)) aE) (aA (aJ bF (b9 (aP 4 (pv 4)) aE (fun _ _=>rfl)) aE) (aA (aJ bF (b9 (aP 4 (pv 4)) aE (fun _ _=>rfl)) aE) (aA aE aF)))))) (aA (aJ bF (b9 (aP 4 (pv 4)) aE (fun _ _=>rfl)) aE) aF))))))))))))
theorem aF0 (uY:Fn P w K mg base "_law_mixed" ["_law_cell_here","_law_k","_law_prime"] 1 lF){f:Addr}{cdv:Value}{A:Around}{outer:List Env}{s:Shared}{H:Hp}{E:XK}(hr:bM 1 (A.deeper (envOfC "_law_known_ring" (aB gE) s.heap.objs.size f cdv))) :
  cZ (cL CX0 P w K mg base ["_law_cell_here","_law_known"] "_law_known_ring" (aB gE) f cdv A outer s H E).nox (aI gE) pF:=
 (aH (aR 1 pT.nd rfl (Or.inl rfl) (cQ (aA (cH (aA aE (aA aE (aA aE aF)))) (aA (cH (aA (fH aE) (aA aE (aA aE aF)))) (aA (cH (aA aE (aA aE (aA aE aF)))) (aA (cH (aA (fH aE) (aA aE (aA aE aF)))) (aA (cH (aA (fH aE) (aA (fH aE) (aA aE (aA aE aF))))) (aA (cH (aA (fH aE) (aA aE (aA aE (aA aE aF))))) (aA (cH (aA (fH aE) (aA aE (aA aE (aA aE aF))))) aF)))))))) (hl:=il (n:=2) rfl (by decide))) (aH (aR 1 pT.nd rfl (Or.inl rfl) (aJ bT (aC 1 (pv 1)) (cQ (aA (cH (aA aE (aA aE (aA aE (aA aE (aA aE aF)))))) (aA (cH (aA (fH aE) (aA (fH aE) (aA aE (aA aE (aA aE aF)))))) (aA (cH (aA aE (aA aE (aA aE (aA aE (aA aE aF)))))) (aA (cH (aA (fH aE) (aA aE (aA aE (aA aE (aA aE aF)))))) (aA (cH (aA aE (aA aE (aA (fH aE) (aA aE (aA aE aF)))))) aF))))))) (hl:=il (n:=2) rfl (by decide))) (aL (b7 (b9 (aP 1 (pv 1)) (aJ eM (aZ uY hr (by decide) rfl (aA (aC 0 (pv 0)) (aA aE (aA aE aF)))) aE) (fun _ _=>rfl))))))
theorem bZ9 (aT:mg "range"=none){fB:Addr}(iP:mg "RingError"=some (.ref fB))(lY:PySem.W.excIn K fB [.type "ValueError",.type "Exception",.type "BaseException",.type "object"] "ValueError.__new__"=true)(kU: ∀n∈(["FallsApart","TooGreat","NotWhole"]:List Str),∀C,mg n=some (.ref C)→yI K fB C [.type "ValueError",.type "Exception",.type "BaseException",.type "object"] "ValueError.__new__")(a79:MkX P w K mg base "Ring" 10 ["poly","degree","measure"] qT)(bA3:Fn P w K mg base "_law_poly" ["_law_cell_here","_law_prime"] 3 xM)(pX:Fn P w K mg base "_law_cell" ["_law_script","_law_k"] 1 jU)(sC:Fn P w K mg base "_law_known_ring" ["_law_cell_here"] 2 j7){f:Addr}{cdv:Value}{A:Around}{outer:List Env}{s:Shared}{H:Hp}{E:XK}(hr:bM 11 (A.deeper (envOfC "_law_ring" (aB tY) s.heap.objs.size f cdv))) :
  cZ (cL CX0 P w K mg base ["_law_script","_law_k","_law_prime","_law_found","_law_j"] "_law_ring" (aB tY) f cdv A outer s H E).nox (aI tY) aT8:=
 (aH (aR 3 uW.nd rfl (Or.inl rfl) a83 (hl:=il (n:=5) rfl (by decide))) (aH (dG PassesOwn.never rfl (cI rfl aT (aA aE aF)) (bG 4 (aW uW.nd rfl (Or.inl rfl))) (aL (d7 (aR1 (aC 3 (pv 3))) (aL (cA0 3 ["FallsApart","TooGreat","NotWhole"] PySem.F.excBase_ValueError a79 hr (by decide) rfl rfl rfl rfl rfl (fun _=>(aA (aZ bA3 hr (by decide) rfl (aA (aZ pX hr (by decide) rfl (aA (aC 0 (pv 0)) (aA (aJ bT (aC 1 (pv 1)) (aC 4 (pv 4))) aF))) (aA (aC 2 (pv 2)) aF))) aF)) uW.nd rfl (Or.inl rfl) (fun _=>(aL (aR 3 uW.nd rfl (Or.inl rfl) a83 (hl:=il (n:=5) rfl (by decide))))) rfl iP lY kU (il (n:=5) rfl (by decide)))) bX))) (aH (d7 (aR1 (aC 3 (pv 3))) (aL (aR 3 uW.nd rfl (Or.inl rfl) (c99 a79 hr (by decide) rfl (aA (aZ sC hr (by decide) rfl (aA (aZ pX hr (by decide) rfl (aA (aC 0 (pv 0)) (aA (aC 1 (pv 1)) aF))) aF)) aF)) (hl:=il (n:=5) rfl (by decide)))) bX) (aL (j9 3 (pv 3))))))
theorem b99 (aT:mg "range"=none)(aX:mg "tuple"=none)(iC:Fn P w K mg base "_law_draws" ["_law_cell_here","_law_widths","_law_prime"] 2 fT){f:Addr}{cdv:Value}{A:Around}{outer:List Env}{s:Shared}{H:Hp}{E:XK}(hr:bM 2 (A.deeper (envOfC "_law_number" (aB lW) s.heap.objs.size f cdv))) :
  cZ (cL CX0 P w K mg base ["_law_cell_here","_law_many","_law_prime","_law_deep","_law_found","_law_row_here","_law_k","_law_far","_law_part"] "_law_number" (aB lW) f cdv A outer s H E).nox (aI lW) yW:=
 (aH (aR 3 eK.nd rfl (Or.inl rfl) (aZ iC hr (by decide) rfl (aA (aC 0 (pv 0)) (aA (cQ (aA aE (aA aE aF))) (aA (aC 2 (pv 2)) aF)))) (hl:=il (n:=9) rfl (by decide))) (aH (aR 4 eK.nd rfl (Or.inl rfl) (hV (qH (aZ iC hr (by decide) rfl (aA (aC 0 (pv 0)) (aA (aJ bT (cQ (aA aE (aA aE aF))) (aJ bH (cQ (aA (aJ iF aE aE) aF)) (aJ bH aE (aC 1 (pv 1))))) (aA (aC 2 (pv 2)) aF))))) (eP aE) j2) (hl:=il (n:=9) rfl (by decide))) (aH (aR 5 eK.nd rfl (Or.inl rfl) (cQ aF) (hl:=il (n:=9) rfl (by decide))) (aH (dG PassesOwn.never rfl (cI rfl aT (aA (aC 1 (pv 1)) aF)) (bG 6 (aW eK.nd rfl (Or.inl rfl))) (aH (aR 7 eK.nd rfl (Or.inl rfl) aE (hl:=il (n:=9) rfl (by decide))) (aH (dG PassesOwn.never rfl (gL (hV (aP 4 (pv 4)) (eP (aJ bH aE (aC 6 (pv 6)))) (eP (aJ bT (aJ bH aE (aC 6 (pv 6))) aE)))) (bG 8 (aW eK.nd rfl (Or.inl rfl))) (aL (aR 7 eK.nd rfl (Or.inl rfl) (aJ bT (aJ bH (aC 7 (pv 7)) (aJ iF aE aE)) (aC 8 (pv 8))) (hl:=il (n:=9) rfl (by decide))))) (aH (d7 (bE fS (b9 (aP 3 (pv 3)) aE (fun _ _=>rfl)) aE (bL _)) (aL (aR 7 eK.nd rfl (Or.inl rfl) (aJ bF (aJ eM (aC 7 (pv 7)) aE) aE) (hl:=il (n:=9) rfl (by decide)))) bX) (aH (d7 (bE fS (b9 (aP 3 (pv 3)) aE (fun _ _=>rfl)) aE (bL _)) (aL (aR 7 eK.nd rfl (Or.inl rfl) (aJ bF (aJ eM (aC 7 (pv 7)) aE) aE) (hl:=il (n:=9) rfl (by decide)))) bX) (aH (d7 (bE fS (b9 (aP 3 (pv 3)) aE (fun _ _=>rfl)) aE (bL _)) (aL (aR 7 eK.nd rfl (Or.inl rfl) (aJ bF (aJ eM (aC 7 (pv 7)) aE) aE) (hl:=il (n:=9) rfl (by decide)))) bX) (aH (d7 (bE fS (b9 (aP 3 (pv 3)) aE (fun _ _=>rfl)) aE (bL _)) (aL (aR 7 eK.nd rfl (Or.inl rfl) (aJ bF (aJ eM (aC 7 (pv 7)) (aJ bT (aJ bH aE (aJ iF aE aE)) aE)) (aJ iF aE aE)) (hl:=il (n:=9) rfl (by decide)))) bX) (aH (d7 (bE fS (b9 (aP 3 (pv 3)) aE (fun _ _=>rfl)) aE (bL _)) (aL (aR 7 eK.nd rfl (Or.inl rfl) (aJ bF (aJ eM (aC 7 (pv 7)) (aJ bF (aJ bH (aJ bH aE (aJ iF aE aE)) (aJ iF aE aE)) aE)) (aJ bF (aJ bH (aJ iF aE aE) (aJ iF aE aE)) aE)) (hl:=il (n:=9) rfl (by decide)))) bX) (aH (d7 (bE fS (b9 (aP 3 (pv 3)) aE (fun _ _=>rfl)) (aC 6 (pv 6)) (bL _)) (aL (aR 7 eK.nd rfl (Or.inl rfl) aE (hl:=il (n:=9) rfl (by decide)))) bX) (aL (iS 5 (pv 5) (aC 7 (pv 7))))))))))))) (aL (b7 (bW dH rfl aX cV (aA (aC 5 (pv 5)) aF))))))))
theorem bL9 (bD:mg "len"=none)(aT:mg "range"=none)(aX:mg "tuple"=none){f:Addr}{cdv:Value}{A:Around}{outer:List Env}{s:Shared}{H:Hp}{E:XK}(hr:bM 0 (A.deeper (envOfC "_law_times" (aB oO) s.heap.objs.size f cdv))) :
  cZ (cL CX0 P w K mg base ["_law_poly_here","_law_x","_law_y","_law_many","_law_raw","_law_i","_law_j","_law_k","_law_at"] "_law_times" (aB oO) f cdv A outer s H E).nox (aI oO) aD0:=
 (aH (aR 3 lX.nd rfl (Or.inl rfl) (aJ bF (dD (aP 0 (pv 0)) rfl bD) aE) (hl:=il (n:=9) rfl (by decide))) (aH (aR 4 lX.nd rfl (Or.inl rfl) (aJ bH (cQ (aA aE aF)) (aJ bF (aJ bH aE (aC 3 (pv 3))) aE)) (hl:=il (n:=9) rfl (by decide))) (aH (dG PassesOwn.never rfl (cI rfl aT (aA (aC 3 (pv 3)) aF)) (bG 5 (aW lX.nd rfl (Or.inl rfl))) (aL (dG PassesOwn.never rfl (cI rfl aT (aA (aC 3 (pv 3)) aF)) (bG 6 (aW lX.nd rfl (Or.inl rfl))) (aL (qZ 4 (pv 4) (aJ bT (b9 (aP 4 (pv 4)) (aJ bT (aC 5 (pv 5)) (aC 6 (pv 6))) (fun _ _=>rfl)) (aJ bH (b9 (aP 1 (pv 1)) (aC 5 (pv 5)) (fun _ _=>rfl)) (b9 (aP 2 (pv 2)) (aC 6 (pv 6)) (fun _ _=>rfl)))) (aJ bT (aC 5 (pv 5)) (aC 6 (pv 6)))))))) (aH (dG PassesOwn.never rfl (aL4 rfl aT (aA (aJ bF (aJ bH aE (aC 3 (pv 3))) aE) (aA (aJ bF (aC 3 (pv 3)) aE) (aA (fH aE) aF)))) (bG 7 (aW lX.nd rfl (Or.inl rfl))) (aL (dG PassesOwn.never rfl (cI rfl aT (aA (aC 3 (pv 3)) aF)) (bG 6 (aW lX.nd rfl (Or.inl rfl))) (aH (aR 8 lX.nd rfl (Or.inl rfl) (aJ bT (aJ bF (aC 7 (pv 7)) (aC 3 (pv 3))) (aC 6 (pv 6))) (hl:=il (n:=9) rfl (by decide))) (aL (qZ 4 (pv 4) (aJ bF (b9 (aP 4 (pv 4)) (aC 8 (pv 8)) (fun _ _=>rfl)) (aJ bH (b9 (aP 4 (pv 4)) (aC 7 (pv 7)) (fun _ _=>rfl)) (b9 (aP 0 (pv 0)) (aC 6 (pv 6)) (fun _ _=>rfl)))) (aC 8 (pv 8)))))))) (aL (b7 (bW dH rfl aX cV (aA (hV (aP 4 (pv 4)) j2 (eP (aC 3 (pv 3)))) aF))))))))
theorem a78 (bD:mg "len"=none)(aT:mg "range"=none){k:Nat}{iZ:Φ}(hk:1≤k)(b28:Fn P w K mg base "_law_det" ["_law_rows"] k iZ){f:Addr}{cdv:Value}{A:Around}{outer:List Env}{s:Shared}{H:Hp}{E:XK}(hr:bM k (A.deeper (envOfC "_law_det" (aB xP) s.heap.objs.size f cdv))) :
  cZ (cL CX0 P w K mg base ["_law_rows","_law_total","_law_i","_law_minor"] "_law_det" (aB xP) f cdv A outer s H E).nox (aI xP) (b90 iZ):=
 (aH (d7 (bE fS (dD (aP 0 (pv 0)) rfl bD) aE (bL _)) (aL (b7 (b9 (qH (b9 (aP 0 (pv 0)) aE (fun _ _=>rfl))) aE (fun _ _=>rfl)))) bX) (aH (aR 1 u4.nd rfl (Or.inl rfl) aE (hl:=il (n:=4) rfl (by decide))) (aH (dG PassesOwn.never rfl (cI rfl aT (aA (dD (aP 0 (pv 0)) rfl bD) aF)) (bG 2 (aW u4.nd rfl (Or.inl rfl))) (aH (aX5 (js:=[]) (N:=["_law_row_here",".acc"]) (cap:=[none,none]) (last:=1) (esc:=(aB xP).names) (XN:=["_law_rows","_law_total","_law_i","_law_minor"]) 3 rfl rfl (by decide +kernel) (by decide) (by decide) rfl (gL (aJ bT (hV (aP 0 (pv 0)) j2 (eP (aC 2 (pv 2)))) (hV (aP 0 (pv 0)) (eP (aJ bT (aC 2 (pv 2)) aE)) j2))) (fun _ _ _ _ _ _=>(bG 0 (aW (show List.Nodup (["_law_row_here",".acc"]:List Str)by decide +kernel) rfl (Or.inl rfl)))) (fun _ _ _ _ _ _=>eT) (fun _ _ _ _ _ _=>(hV (aP 0 (pv 0)) (eP aE) j2)) (aW u4.nd rfl (Or.inl rfl)) (il (n:=4) rfl (by decide))) (aL (aR 1 u4.nd rfl (Or.inl rfl) (aJ bT (aC 1 (pv 1)) (aJ bH (aJ bH (aJ bF aE (aJ bH aE (aJ eM (aC 2 (pv 2)) aE))) (b9 (qH (b9 (aP 0 (pv 0)) (aC 2 (pv 2)) (fun _ _=>rfl))) aE (fun _ _=>rfl))) (aZ b28 hr (Nat.le_refl _) rfl (aA (aC 3 (pv 3)) aF)))) (hl:=il (n:=4) rfl (by decide)))))) (aL (j9 1 (pv 1))))))
theorem bM0 (bD:mg "len"=none)(aX:mg "tuple"=none)(aT:mg "range"=none)(vQ:mg "int"=none)(v3:Fn P w K mg base "_law_times" ["_law_poly_here","_law_x","_law_y"] 1 nS){f:Addr}{cdv:Value}{A:Around}{outer:List Env}{s:Shared}{H:Hp}{E:XK}(hr:bM 1 (A.deeper (envOfC "_law_table" (aB mX) s.heap.objs.size f cdv))) :
  cZ (cL CX0 P w K mg base ["_law_poly_here","_law_x","_law_many","_law_turn","_law_rows","_law_row_here","_law_k"] "_law_table" (aB mX) f cdv A outer s H E).nox (aI mX) aD6:=
 (aH (aR 2 nU.nd rfl (Or.inl rfl) (aJ bF (dD (aP 0 (pv 0)) rfl bD) aE) (hl:=il (n:=7) rfl (by decide))) (aH (aR 3 nU.nd rfl (Or.inl rfl) (bW dH rfl aX cV (aA (dI (js:=[]) (N:=["_law_k",".acc"]) (cap:=[none,none]) (last:=1) (esc:=(aB mX).names) (XN:=["_law_poly_here","_law_x","_law_many","_law_turn","_law_rows","_law_row_here","_law_k"]) rfl rfl (by decide +kernel) (by decide) (by decide) rfl (cI rfl aT (aA (aC 2 (pv 2)) aF)) (fun _ _ _ _ _ _=>(bG 0 (aW (show List.Nodup (["_law_k",".acc"]:List Str)by decide +kernel) rfl (Or.inl rfl)))) (fun _ _ _ _ _ _=>eT) (fun _ _ _ _ _ _=>(bW cu_int rfl vQ bU6 (aA (a84 fS (aC 0 (pv 0)) aE (bL _)) aF)))) aF)) (hl:=il (n:=7) rfl (by decide))) (aH (aR 4 nU.nd rfl (Or.inl rfl) (cQ aF) (hl:=il (n:=7) rfl (by decide))) (aH (aR 5 nU.nd rfl (Or.inl rfl) (bW dH rfl aX cV (aA (aC 1 (pv 1)) aF)) (hl:=il (n:=7) rfl (by decide))) (aH (dG PassesOwn.never rfl (cI rfl aT (aA (aC 2 (pv 2)) aF)) (bG 6 (aW nU.nd rfl (Or.inl rfl))) (aH (iS 4 (pv 4) (aC 5 (pv 5))) (aL (aR 5 nU.nd rfl (Or.inl rfl) (aZ v3 hr (by decide) rfl (aA (aC 0 (pv 0)) (aA (aC 3 (pv 3)) (aA (aC 5 (pv 5)) aF)))) (hl:=il (n:=7) rfl (by decide)))))) (aL (j9 4 (pv 4))))))))
theorem bM1 (dZ:mg "reversed"=none){f:Addr}{cdv:Value}{A:Around}{outer:List Env}{s:Shared}{H:Hp}{E:XK}(hr:bM 0 (A.deeper (envOfC "_law_value" (aB oP) s.heap.objs.size f cdv))) :
  cZ (cL CX0 P w K mg base ["_law_poly_here","_law_r","_law_total","_law_place"] "_law_value" (aB oP) f cdv A outer s H E).nox (aI oP) aD7:=
 (aH (aR 2 xU.nd rfl (Or.inl rfl) aE (hl:=il (n:=4) rfl (by decide))) (aH (dG PassesOwn.never rfl (bC3 rfl dZ (aA (aC 0 (pv 0)) aF)) (bG 3 (aW xU.nd rfl (Or.inl rfl))) (aL (aR 2 xU.nd rfl (Or.inl rfl) (aJ bT (aJ bH (aC 2 (pv 2)) (aC 1 (pv 1))) (aC 3 (pv 3))) (hl:=il (n:=4) rfl (by decide))))) (aL (j9 2 (pv 2)))))
theorem bM2 (cG:mg "isinstance"=none)(vQ:mg "int"=none)(wL:mg "bool"=none){f:Addr}{cdv:Value}{A:Around}{outer:List Env}{s:Shared}{H:Hp}{E:XK}(hr:bM 0 (A.deeper (envOfC "_law_whole" (aB oQ) s.heap.objs.size f cdv))) :
  cZ (cL CX0 P w K mg base ["_law_found"] "_law_whole" (aB oQ) f cdv A outer s H E).nox (aI oQ) aA6:=
 (aL (b7 (bP8 (dS aQ2 rfl cG kZ (aA (aC 0 (pv 0)) (aA (bB9 rfl vQ bU6) aF))) (bP7 (pu_not (dS aQ2 rfl cG kZ (aA (aC 0 (pv 0)) (aA (bB9 rfl wL cA3) aF))))))))
theorem cC9 (cG:mg "isinstance"=none)(aX:mg "tuple"=none)(bD:mg "len"=none)(mS:mg "all"=none)(sD:Fn P w K mg base "_law_whole" ["_law_found"] 1 jV){f:Addr}{cdv:Value}{A:Around}{outer:List Env}{s:Shared}{H:Hp}{E:XK}(hr:bM 1 (A.deeper (envOfC "_law_row" (aB xQ) s.heap.objs.size f cdv))) :
  cZ (cL CX0 P w K mg base ["_law_found","_law_many"] "_law_row" (aB xQ) f cdv A outer s H E).nox (aI xQ) b85:=
 (aH (d7 (PUW.pt (vT (oA (wS (dS aQ2 rfl cG kZ (aA (aC 0 (pv 0)) (aA (bB9 rfl aX cV) aF))))) (uM (bE aK5 (dD (aP 0 (pv 0)) rfl bD) (aC 1 (pv 1)) (bL _))))) (aL (b7 zL)) bX) (aL (b7 (dS (aQ7 rfl) rfl mS aQ8 (aA (dI (js:=[]) (N:=["_law_place",".acc"]) (cap:=[none,none]) (last:=1) (esc:=(aB xQ).names) (XN:=["_law_found","_law_many"]) rfl rfl (by decide +kernel) (by decide) (by decide) rfl (gL (aC 0 (pv 0))) (fun _ _ _ _ _ _=>(bG 0 (aW (show List.Nodup (["_law_place",".acc"]:List Str)by decide +kernel) rfl (Or.inl rfl)))) (fun _ _ _ _ _ _=>eT) (fun _ _ _ _ _ _=>(aZ sD hr (by decide) rfl (aA (aC 0 (pv 0)) aF)))) aF)))))
theorem aU8 (cG:mg "isinstance"=none)(aX:mg "tuple"=none)(bD:mg "len"=none)(mS:mg "all"=none)(c00:Fn P w K mg base "_law_row" ["_law_found","_law_many"] 2 aD5){f:Addr}{cdv:Value}{A:Around}{outer:List Env}{s:Shared}{H:Hp}{E:XK}(hr:bM 2 (A.deeper (envOfC "_law_is_table" (aB hG) s.heap.objs.size f cdv))) :
  cZ (cL CX0 P w K mg base ["_law_found","_law_many"] "_law_is_table" (aB hG) f cdv A outer s H E).nox (aI hG) tW:=
 (aH (d7 (PUW.pt (vT (oA (wS (dS aQ2 rfl cG kZ (aA (aC 0 (pv 0)) (aA (bB9 rfl aX cV) aF))))) (uM (bE aK5 (dD (aP 0 (pv 0)) rfl bD) (aC 1 (pv 1)) (bL _))))) (aL (b7 zL)) bX) (aL (b7 (dS (aQ7 rfl) rfl mS aQ8 (aA (dI (js:=[1]) (N:=["_law_row_here","_law_many",".acc"]) (cap:=[none,some 1,none]) (last:=2) (esc:=(aB hG).names) (XN:=["_law_found","_law_many"]) rfl rfl (by decide +kernel) (by decide) (by decide) rfl (gL (aC 0 (pv 0))) (fun _ _ _ _ _ _=>(bG 0 (aW (show List.Nodup (["_law_row_here","_law_many",".acc"]:List Str)by decide +kernel) rfl (Or.inl rfl)))) (fun _ _ _ _ _ _=>eT) (fun _ _ _ _ _ _=>(aZ c00 hr (by decide) rfl (aA (aC 0 (pv 0)) (aA (aC 1 (pv 1)) aF))))) aF)))))
theorem bA0 (aX:mg "tuple"=none)(mT:mg "abs"=none){f:Addr}{cdv:Value}{A:Around}{outer:List Env}{s:Shared}{H:Hp}{E:XK}(hr:bM 0 (A.deeper (envOfC "_law_nearer" (aB kC) s.heap.objs.size f cdv))) :
  cZ (cL CX0 P w K mg base ["_law_x"] "_law_nearer" (aB kC) f cdv A outer s H E).nox (aI kC) zB:=
 (aL (b7 (bW dH rfl aX cV (aA (dI (js:=[]) (N:=["_law_place",".acc"]) (cap:=[none,none]) (last:=1) (esc:=(aB kC).names) (XN:=["_law_x"]) rfl rfl (by decide +kernel) (by decide) (by decide) rfl (gL (aC 0 (pv 0))) (fun _ _ _ _ _ _=>(bG 0 (aW (show List.Nodup (["_law_place",".acc"]:List Str)by decide +kernel) rfl (Or.inl rfl)))) (fun _ _ _ _ _ _=>eT) (fun _ _ _ _ _ _=>(aW9 (bE aX1 (dS aP9 rfl mT aS0 (aA (aC 0 (pv 0)) aF)) (aJ iF aE aE) (bL _)) (aC 0 (pv 0)) (aJ eM (aC 0 (pv 0)) (aJ iF aE aE))))) aF))))
theorem cD0 (bD:mg "len"=none)(aX:mg "tuple"=none)(qW:mg "sum"=none)(aT:mg "range"=none)(aV1:Fn P w K mg base "_law_table" ["_law_poly_here","_law_x"] 2 tU)(eW:Fn P w K mg base "table_of" ["ring","x"] 2 eC)(wM:Fn P w K mg base "_law_is_table" ["_law_found","_law_many"] 3 lP)(sD:Fn P w K mg base "_law_whole" ["_law_found"] 1 jV)(j8:Fn P w K mg base "norm" ["ring","x"] 6 gO)(b28:Fn P w K mg base "_law_det" ["_law_rows"] 5 (iZ 4))(v4:Fn P w K mg base "trace" ["ring","x"] 3 kP){f:Addr}{cdv:Value}{A:Around}{outer:List Env}{s:Shared}{H:Hp}{E:XK}(hr:bM 6 (A.deeper (envOfC "_law_due" (aB xR) s.heap.objs.size f cdv))) :
  cZ (cL CX0 P w K mg base ["_law_ring_here","_law_x","_law_rows","_law_told"] "_law_due" (aB xR) f cdv A outer s H E).nox (aI xR) b95:=
 (aH (aR 2 b96.nd rfl (Or.inr rfl) (aZ aV1 hr (by decide) rfl (aA (sX (aC 0 (pv 0))) (aA (aC 1 (pv 1)) aF))) (hl:=il (n:=4) rfl (by decide))) (aH (aR 3 b96.nd rfl (Or.inl rfl) (aZ eW hr (by decide) rfl (aA (aC 0 (pv 0)) (aA (aC 1 (pv 1)) aF))) (hl:=il (n:=4) rfl (by decide))) (aH (d7 (PUW.pt (vT (oA (wS (aZ wM hr (by decide) rfl (aA (aC 3 (pv 3)) (aA (dD (aP 1 (pv 1)) rfl bD) aF))))) (uM (bE (ou_neD hr.units) (aC 3 (pv 3)) (bW dH rfl aX cV (aA (aC 2 (pv 2)) aF)) (bL _))))) (aL (b7 zL)) bX) (aH (d7 (PUW.pt (vT (oA (wS (aZ sD hr (by decide) rfl (aA (aZ j8 hr (by decide) rfl (aA (aC 0 (pv 0)) (aA (aC 1 (pv 1)) aF))) aF)))) (uM (bE aK5 (aZ j8 hr (by decide) rfl (aA (aC 0 (pv 0)) (aA (aC 1 (pv 1)) aF))) (aZ b28 hr (by decide) rfl (aA (aC 2 (pv 2)) aF)) (bL _))))) (aL (b7 zL)) bX) (aL (b7 (bP8 (aZ sD hr (by decide) rfl (aA (aZ v4 hr (by decide) rfl (aA (aC 0 (pv 0)) (aA (aC 1 (pv 1)) aF))) aF)) (bP7 (a84 fS (aZ v4 hr (by decide) rfl (aA (aC 0 (pv 0)) (aA (aC 1 (pv 1)) aF))) (dS (b61 rfl) rfl qW b62 (aA (dI (js:=[]) (N:=["_law_k","_law_rows",".acc"]) (cap:=[none,some 2,none]) (last:=2) (esc:=(aB xR).names) (XN:=["_law_ring_here","_law_x","_law_rows","_law_told"]) rfl rfl (by decide +kernel) (by decide) (by decide) rfl (cI rfl aT (aA (dD (aP 1 (pv 1)) rfl bD) aF)) (fun _ _ _ _ _ _=>(bG 0 (aW (show List.Nodup (["_law_k","_law_rows",".acc"]:List Str)by decide +kernel) rfl (Or.inl rfl)))) (fun _ _ _ _ _ _=>eT) (fun _ _ _ _ _ _=>(b9 (qH (b9 (aP 1 (pv 1)) (aC 0 (pv 0)) (fun _ _=>rfl))) (aC 0 (pv 0)) (fun _ _=>rfl)))) aF)) (bL _))))))))))
theorem cD1 (aX:mg "tuple"=none)(bA4:Fn P w K mg base "_law_ring" ["_law_script","_law_k","_law_prime"] 12 xN)(xX:Fn P w K mg base "_law_nearer" ["_law_x"] 1 nB)(uB:Fn P w K mg base "_law_number" ["_law_cell_here","_law_many","_law_prime"] 3 kO)(pX:Fn P w K mg base "_law_cell" ["_law_script","_law_k"] 1 jU)(b29:Fn P w K mg base "_law_due" ["_law_ring_here","_law_x"] 7 wF)(v3:Fn P w K mg base "_law_times" ["_law_poly_here","_law_x","_law_y"] 1 nS)(j8:Fn P w K mg base "norm" ["ring","x"] 6 gO)(iC:Fn P w K mg base "_law_draws" ["_law_cell_here","_law_widths","_law_prime"] 2 fT)(aV2:Fn P w K mg base "_law_value" ["_law_poly_here","_law_r"] 1 tV){f:Addr}{cdv:Value}{A:Around}{outer:List Env}{s:Shared}{H:Hp}{E:XK}(hr:bM 12 (A.deeper (envOfC "law" (aB tZ) s.heap.objs.size f cdv))) :
  cZ (cL CX0 P w K mg base ["_law_script","_law_ring_here","_law_many","_law_x","_law_y","_law_both_of","_law_r","_law_far"] "law" (aB tZ) f cdv A outer s H E).nox (aI tZ) aU4:=
 (aH (aR 1 u5.nd rfl (Or.inl rfl) (aZ bA4 hr (by decide) rfl (aA (aC 0 (pv 0)) (aA aE (aA aE aF)))) (hl:=il (n:=8) rfl (by decide))) (aH (aR 2 u5.nd rfl (Or.inl rfl) (sX (aC 1 (pv 1))) (hl:=il (n:=8) rfl (by decide))) (aH (aR 3 u5.nd rfl (Or.inl rfl) (aZ xX hr (by decide) rfl (aA (aZ uB hr (by decide) rfl (aA (aZ pX hr (by decide) rfl (aA (aC 0 (pv 0)) (aA aE aF))) (aA (aC 2 (pv 2)) (aA aE aF)))) aF)) (hl:=il (n:=8) rfl (by decide))) (aH (aR 4 u5.nd rfl (Or.inl rfl) (aZ xX hr (by decide) rfl (aA (aZ uB hr (by decide) rfl (aA (aZ pX hr (by decide) rfl (aA (aC 0 (pv 0)) (aA aE aF))) (aA (aC 2 (pv 2)) (aA aE aF)))) aF)) (hl:=il (n:=8) rfl (by decide))) (aH (d7 (PUW.pt (vT (oA (wS (aZ b29 hr (by decide) rfl (aA (aC 1 (pv 1)) (aA (aC 3 (pv 3)) aF))))) (uM (oA (wS (aZ b29 hr (by decide) rfl (aA (aC 1 (pv 1)) (aA (aC 4 (pv 4)) aF)))))))) (aL (b7 zL)) bX) (aH (d7 (oA (wS (aZ b29 hr (by decide) rfl (aA (aC 1 (pv 1)) (aA (aZ uB hr (by decide) rfl (aA (aZ pX hr (by decide) rfl (aA (aC 0 (pv 0)) (aA aE aF))) (aA (aC 2 (pv 2)) (aA aE aF)))) aF))))) (aL (b7 zL)) bX) (aH (aR 5 u5.nd rfl (Or.inl rfl) (aZ v3 hr (by decide) rfl (aA (sX (aC 1 (pv 1))) (aA (aC 3 (pv 3)) (aA (aC 4 (pv 4)) aF)))) (hl:=il (n:=8) rfl (by decide))) (aH (d7 (bE aK5 (aZ j8 hr (by decide) rfl (aA (aC 1 (pv 1)) (aA (aC 5 (pv 5)) aF))) (aJ bH (aZ j8 hr (by decide) rfl (aA (aC 1 (pv 1)) (aA (aC 3 (pv 3)) aF))) (aZ j8 hr (by decide) rfl (aA (aC 1 (pv 1)) (aA (aC 4 (pv 4)) aF)))) (bL _)) (aL (b7 zL)) bX) (aH (aR 6 u5.nd rfl (Or.inl rfl) (aZ iC hr (by decide) rfl (aA (aZ pX hr (by decide) rfl (aA (aC 0 (pv 0)) (aA aE aF))) (aA (cQ (aA (aJ iF aE aE) (aA (aJ iF aE aE) (aA (aJ iF aE aE) (aA aE (aA aE aF)))))) (aA aE aF)))) (hl:=il (n:=8) rfl (by decide))) (aH (aR 7 u5.nd rfl (Or.inl rfl) (aJ bH (aJ bF aE (aJ bH aE (b9 (aP 6 (pv 6)) aE (fun _ _=>rfl)))) (aJ bT (b9 (aP 6 (pv 6)) aE (fun _ _=>rfl)) (aJ bH (b9 (aP 6 (pv 6)) aE (fun _ _=>rfl)) (aJ bT (aJ bH (aJ iF aE aE) (b9 (aP 6 (pv 6)) aE (fun _ _=>rfl))) (aJ bH (aJ iF aE aE) (b9 (aP 6 (pv 6)) aE (fun _ _=>rfl))))))) (hl:=il (n:=8) rfl (by decide))) (aL (b7 (a84 fS (aZ j8 hr (by decide) rfl (aA (aC 1 (pv 1)) (aA (bW dH rfl aX cV (aA (aJ bT (cQ (aA (aC 7 (pv 7)) (aA (fH aE) aF))) (aJ bH (cQ (aA aE aF)) (aJ bF (aC 2 (pv 2)) aE))) aF)) aF))) (aZ aV2 hr (by decide) rfl (aA (sX (aC 1 (pv 1))) (aA (aC 7 (pv 7)) aF))) (bL _))))))))))))))
theorem bM3 (bD:mg "len"=none)(mT:mg "abs"=none){jI:Tok}(d5:mg "GREATEST_MEASURE"=some (.int 39999 jI)){kW:Addr}(iQ:mg "TooGreat"=some (.ref kW))(kX:PySem.W.excIn K kW [.type "ValueError",.type "Exception",.type "BaseException",.type "object"] "ValueError.__new__"=true)(cE:Fn P w K mg base "need_ring_poly" ["row"] 2 bU)(uD:Fn P w K mg base "measure" ["poly"] 6 jY)(jJ:FnX P w K mg base "need_together" ["poly"] 5 eR)(mE:FnX P w K mg base "need_whole" ["poly","size"] 9 gN){f:Addr}{cdv:Value}{A:Around}{outer:List Env}{s:Shared}{H:Hp}{E:XK}(hr:bM 9 (A.deeper (envOfC "Ring.__init__" (aB u6) s.heap.objs.size f cdv))) :
  PSs (cL (CXr P w base) P w K mg base ["self","poly","size"] "Ring.__init__" (aB u6) f cdv A outer s H E) (aI u6) (fun D=>lSX K mg E aC5 {D with nx:=tS3 K "poly" "degree" "measure" aC6 aC7 aC8 D}):=
 (a69 (x9 (aQ9 (aZ cE hr (by decide) rfl (aA (aC 1 (pv 1)) aF)))) (a69 (bC6 jJ hr (by decide) cF5 rfl (aA (aC 1 (pv 1)) aF)) (a69 (x9 (aR 2 bF5.nd rfl (Or.inl rfl) (aZ uD hr (by decide) rfl (aA (aC 1 (pv 1)) aF)) (hl:=il (n:=3) rfl (by decide)))) (a69 (bT3 (bE aX2 (dS aP9 rfl mT aS0 (aA (aC 2 (pv 2)) aF)) (bC1 rfl d5) (bL _)) (a99 (bT5 PySem.F.excBase_ValueError kX rfl iQ rfl (aA pu_str aF) b68)) b71) (cA1 (bC6 mE hr (by decide) cF5 rfl (aA (aC 1 (pv 1)) (aA (aC 2 (pv 2)) aF))) (qF (b43 (pv 0) (aC 1 (pv 1)) rfl) (qF (b43 (pv 0) (aJ bF (dD (aP 1 (pv 1)) rfl bD) aE) rfl) (aO5 (b43 (pv 0) (aC 2 (pv 2)) rfl)))))))))
end
theorem all_mk {l:PySem.W.OpenLaw}{w:World}{K:PySem.W.Frag}{h:Heap}{mg:Str→Option Value}{fa f1 f2 f3 f4 f5 f6 f7 f8 f9 f10 f11 f12 f13 f14 f15 f16 f17 f18 f19 f20 f21 f22 f23 f24 f25 f26 f27 f28 f29 f30 f31 f32 f33 f34 f35 f36 f37 f38 f39 f40 f41 f42 f43 f44 f45 f46 f47 f48 f49 f50 f51 f52 fA gU xY cY eN kW fB kY gQ:Addr}(X:K.In h)(G:h.Ns mainGlobals mg)(hfa:mg "law"=some (.ref fa))
  {od1 an1 od2 an2 od3 an3 od4 an4 od5 an5 od6 an6 od7 an7 od8 an8 od9 an9 od10 an10 od11 an11 od12 an12 od13 an13 od14 an14 od15 an15 od16 an16 od17 an17 od18 an18 od19 an19 od20 an20 od21 an21 od22 an22 od23 an23 od24 an24 od25 an25 od26 an26 od27 an27 od28 an28 od29 an29 od30 an30 od31 an31 od32 an32 od33 an33 od34 an34 od35 an35 od36 an36 od37 an37 od38 an38 od39 an39 od40 an40 od41 an41 od42 an42 od43 an43 od44 an44 od45 an45 od46 an46 od47 an47 od48 an48 od49 an49 od50 an50 od51 an51 od52 an52 aI7 aI8 b30 b31 cD2 cD3 a61:Option Addr} {sl1 sl2 sl3 sl4 sl5 sl6 sl7 sl8 sl9 sl10 sl11 sl12 sl13 sl14 sl15 sl16 sl17 sl18 sl19 sl20 sl21 sl22 sl23 sl24 sl25 sl26 sl27 sl28 sl29 sl30 sl31 sl32 sl33 sl34 sl35 sl36 sl37 sl38 sl39 sl40 sl41 sl42 sl43 sl44 sl45 sl46 sl47 sl48 sl49 sl50 sl51 sl52 aI9 b32 cD4 a62:Array (Option Value)} {oc1 kV1 dc1 pm1 cd1 ct1 oc2 kV2 dc2 pm2 cd2 ct2 oc3 kV3 dc3 pm3 cd3 ct3 oc4 kV4 dc4 pm4 cd4 ct4 oc5 kV5 dc5 pm5 cd5 ct5 oc6 kV6 dc6 pm6 cd6 ct6 oc7 kV7 dc7 pm7 cd7 ct7 oc8 kV8 dc8 pm8 cd8 ct8 oc9 kV9 dc9 pm9 cd9 ct9 oc10 kV10 dc10 pm10 cd10 ct10 oc11 kV11 dc11 pm11 cd11 ct11 oc12 kV12 dc12 pm12 cd12 ct12 oc13 kV13 dc13 pm13 cd13 ct13 oc14 kV14 dc14 pm14 cd14 ct14 oc15 kV15 dc15 pm15 cd15 ct15 oc16 kV16 dc16 pm16 cd16 ct16 oc17 kV17 dc17 pm17 cd17 ct17 oc18 kV18 dc18 pm18 cd18 ct18 oc19 kV19 dc19 pm19 cd19 ct19 oc20 kV20 dc20 pm20 cd20 ct20 oc21 kV21 dc21 pm21 cd21 ct21 oc22 kV22 dc22 pm22 cd22 ct22 oc23 kV23 dc23 pm23 cd23 ct23 oc24 kV24 dc24 pm24 cd24 ct24 oc25 kV25 dc25 pm25 cd25 ct25 oc26 kV26 dc26 pm26 cd26 ct26 oc27 kV27 dc27 pm27 cd27 ct27 oc28 kV28 dc28 pm28 cd28 ct28 oc29 kV29 dc29 pm29 cd29 ct29 oc30 kV30 dc30 pm30 cd30 ct30 oc31 kV31 dc31 pm31 cd31 ct31 oc32 kV32 dc32 pm32 cd32 ct32 oc33 kV33 dc33 pm33 cd33 ct33 oc34 kV34 dc34 pm34 cd34 ct34 oc35 kV35 dc35 pm35 cd35 ct35 oc36 kV36 dc36 pm36 cd36 ct36 oc37 kV37 dc37 pm37 cd37 ct37 oc38 kV38 dc38 pm38 cd38 ct38 oc39 kV39 dc39 pm39 cd39 ct39 oc40 kV40 dc40 pm40 cd40 ct40 oc41 kV41 dc41 pm41 cd41 ct41 oc42 kV42 dc42 pm42 cd42 ct42 oc43 kV43 dc43 pm43 cd43 ct43 oc44 kV44 dc44 pm44 cd44 ct44 oc45 kV45 dc45 pm45 cd45 ct45 oc46 kV46 dc46 pm46 cd46 ct46 oc47 kV47 dc47 pm47 cd47 ct47 oc48 kV48 dc48 pm48 cd48 ct48 oc49 kV49 dc49 pm49 cd49 ct49 oc50 kV50 dc50 pm50 cd50 ct50 oc51 kV51 dc51 pm51 cd51 ct51 oc52 kV52 dc52 pm52 cd52 ct52 aJ0 aJ1 aJ2 vR aJ3 b33 b34 b35 zZ b36 cD5 cD6 cD7 bF6 cD8 cD9:Value} {mZ sE aF4:ClassData} {kR jI:Tok} {zG:Array Value} {n_SMALL_PRIMES:Nat}
  (a1:PySem.W.nsIn K mainGlobals "cut"=some (some (.ref f1)))
  (l1:K.lookup f1=some ⟨oc1,od1,.func (PySem.W.fnOf "cut" "cut" (aV oJ) (aI oJ) (aB oJ) .none kV1 dc1 pm1 an1 cd1 ct1),sl1⟩)
  (c1:PySem.W.codeIn K cd1 "cut"=true)
  (k1:PySem.W.keepIn K (.ref f1)=true)
  (a2:PySem.W.nsIn K mainGlobals "padded"=some (some (.ref f2)))
  (l2:K.lookup f2=some ⟨oc2,od2,.func (PySem.W.fnOf "padded" "padded" (aV iK) (aI iK) (aB iK) .none kV2 dc2 pm2 an2 cd2 ct2),sl2⟩)
  (c2:PySem.W.codeIn K cd2 "padded"=true)
  (k2:PySem.W.keepIn K (.ref f2)=true)
  (a3:PySem.W.nsIn K mainGlobals "poly_parted"=some (some (.ref f3)))
  (l3:K.lookup f3=some ⟨oc3,od3,.func (PySem.W.fnOf "poly_parted" "poly_parted" (aV dR) (aI dR) (aB dR) .none kV3 dc3 pm3 an3 cd3 ct3),sl3⟩)
  (c3:PySem.W.codeIn K cd3 "poly_parted"=true)
  (k3:PySem.W.keepIn K (.ref f3)=true)
  (a4:PySem.W.nsIn K mainGlobals "poly_at"=some (some (.ref f4)))
  (l4:K.lookup f4=some ⟨oc4,od4,.func (PySem.W.fnOf "poly_at" "poly_at" (aV gT) (aI gT) (aB gT) .none kV4 dc4 pm4 an4 cd4 ct4),sl4⟩)
  (c4:PySem.W.codeIn K cd4 "poly_at"=true)
  (k4:PySem.W.keepIn K (.ref f4)=true)
  (a5:PySem.W.nsIn K mainGlobals "det"=some (some (.ref f5)))
  (l5:K.lookup f5=some ⟨oc5,od5,.func (PySem.W.fnOf "det" "det" (aV oK) (aI oK) (aB oK) .none kV5 dc5 pm5 an5 cd5 ct5),sl5⟩)
  (c5:PySem.W.codeIn K cd5 "det"=true)
  (k5:PySem.W.keepIn K (.ref f5)=true)
  (a6:PySem.W.nsIn K mainGlobals "without"=some (some (.ref f6)))
  (l6:K.lookup f6=some ⟨oc6,od6,.func (PySem.W.fnOf "without" "without" (aV fX) (aI fX) (aB fX) .none kV6 dc6 pm6 an6 cd6 ct6),sl6⟩)
  (c6:PySem.W.codeIn K cd6 "without"=true)
  (k6:PySem.W.keepIn K (.ref f6)=true)
  (a7:PySem.W.nsIn K mainGlobals "t_times"=some (some (.ref f7)))
  (l7:K.lookup f7=some ⟨oc7,od7,.func (PySem.W.fnOf "t_times" "t_times" (aV fY) (aI fY) (aB fY) .none kV7 dc7 pm7 an7 cd7 ct7),sl7⟩)
  (c7:PySem.W.codeIn K cd7 "t_times"=true)
  (k7:PySem.W.keepIn K (.ref f7)=true)
  (a8:PySem.W.nsIn K mainGlobals "table_of"=some (some (.ref f8)))
  (l8:K.lookup f8=some ⟨oc8,od8,.func (PySem.W.fnOf "table_of" "table_of" (aV fZ) (aI fZ) (aB fZ) .none kV8 dc8 pm8 an8 cd8 ct8),sl8⟩)
  (c8:PySem.W.codeIn K cd8 "table_of"=true)
  (k8:PySem.W.keepIn K (.ref f8)=true)
  (a9:PySem.W.nsIn K mainGlobals "norm"=some (some (.ref f9)))
  (l9:K.lookup f9=some ⟨oc9,od9,.func (PySem.W.fnOf "norm" "norm" (aV lQ) (aI lQ) (aB lQ) .none kV9 dc9 pm9 an9 cd9 ct9),sl9⟩)
  (c9:PySem.W.codeIn K cd9 "norm"=true)
  (k9:PySem.W.keepIn K (.ref f9)=true)
  (a10:PySem.W.nsIn K mainGlobals "trace"=some (some (.ref f10)))
  (l10:K.lookup f10=some ⟨oc10,od10,.func (PySem.W.fnOf "trace" "trace" (aV iT) (aI iT) (aB iT) .none kV10 dc10 pm10 an10 cd10 ct10),sl10⟩)
  (c10:PySem.W.codeIn K cd10 "trace"=true)
  (k10:PySem.W.keepIn K (.ref f10)=true)
  (a11:PySem.W.nsIn K mainGlobals "is_ring_poly"=some (some (.ref f11)))
  (l11:K.lookup f11=some ⟨oc11,od11,.func (PySem.W.fnOf "is_ring_poly" "is_ring_poly" (aV cO) (aI cO) (aB cO) .none kV11 dc11 pm11 an11 cd11 ct11),sl11⟩)
  (c11:PySem.W.codeIn K cd11 "is_ring_poly"=true)
  (k11:PySem.W.keepIn K (.ref f11)=true)
  (a12:PySem.W.nsIn K mainGlobals "need_ring_poly"=some (some (.ref f12)))
  (l12:K.lookup f12=some ⟨oc12,od12,.func (PySem.W.fnOf "need_ring_poly" "need_ring_poly" (aV cK) (aI cK) (aB cK) .none kV12 dc12 pm12 an12 cd12 ct12),sl12⟩)
  (c12:PySem.W.codeIn K cd12 "need_ring_poly"=true)
  (k12:PySem.W.keepIn K (.ref f12)=true)
  (a13:PySem.W.nsIn K mainGlobals "root"=some (some (.ref f13)))
  (l13:K.lookup f13=some ⟨oc13,od13,.func (PySem.W.fnOf "root" "root" (aV lU) (aI lU) (aB lU) .none kV13 dc13 pm13 an13 cd13 ct13),sl13⟩)
  (c13:PySem.W.codeIn K cd13 "root"=true)
  (k13:PySem.W.keepIn K (.ref f13)=true)
  (a14:PySem.W.nsIn K mainGlobals "small_primes"=some (some (.ref f14)))
  (l14:K.lookup f14=some ⟨oc14,od14,.func (PySem.W.fnOf "small_primes" "small_primes" (aV dB) (aI dB) (aB dB) .none kV14 dc14 pm14 an14 cd14 ct14),sl14⟩)
  (c14:PySem.W.codeIn K cd14 "small_primes"=true)
  (k14:PySem.W.keepIn K (.ref f14)=true)
  (a15:PySem.W.nsIn K mainGlobals "apart"=some (some (.ref f15)))
  (l15:K.lookup f15=some ⟨oc15,od15,.func (PySem.W.fnOf "apart" "apart" (aV jM) (aI jM) (aB jM) .none kV15 dc15 pm15 an15 cd15 ct15),sl15⟩)
  (c15:PySem.W.codeIn K cd15 "apart"=true)
  (k15:PySem.W.keepIn K (.ref f15)=true)
  (a16:PySem.W.nsIn K mainGlobals "dividers"=some (some (.ref f16)))
  (l16:K.lookup f16=some ⟨oc16,od16,.func (PySem.W.fnOf "dividers" "dividers" (aV gA) (aI gA) (aB gA) .none kV16 dc16 pm16 an16 cd16 ct16),sl16⟩)
  (c16:PySem.W.codeIn K cd16 "dividers"=true)
  (k16:PySem.W.keepIn K (.ref f16)=true)
  (a17:PySem.W.nsIn K mainGlobals "line_and_rest"=some (some (.ref f17)))
  (l17:K.lookup f17=some ⟨oc17,od17,.func (PySem.W.fnOf "line_and_rest" "line_and_rest" (aV cS) (aI cS) (aB cS) .none kV17 dc17 pm17 an17 cd17 ct17),sl17⟩)
  (c17:PySem.W.codeIn K cd17 "line_and_rest"=true)
  (k17:PySem.W.keepIn K (.ref f17)=true)
  (a18:PySem.W.nsIn K mainGlobals "two_by_two_apart"=some (some (.ref f18)))
  (l18:K.lookup f18=some ⟨oc18,od18,.func (PySem.W.fnOf "two_by_two" "two_by_two" (aV bZ) (aI bZ) (aB bZ) .none kV18 dc18 pm18 an18 cd18 ct18),sl18⟩)
  (c18:PySem.W.codeIn K cd18 "two_by_two"=true)
  (k18:PySem.W.keepIn K (.ref f18)=true)
  (a19:PySem.W.nsIn K mainGlobals "two_with"=some (some (.ref f19)))
  (l19:K.lookup f19=some ⟨oc19,od19,.func (PySem.W.fnOf "two_with" "two_with" (aV gB) (aI gB) (aB gB) .none kV19 dc19 pm19 an19 cd19 ct19),sl19⟩)
  (c19:PySem.W.codeIn K cd19 "two_with"=true)
  (k19:PySem.W.keepIn K (.ref f19)=true)
  (a20:PySem.W.nsIn K mainGlobals "measure"=some (some (.ref f20)))
  (l20:K.lookup f20=some ⟨oc20,od20,.func (PySem.W.fnOf "measure" "measure" (aV gC) (aI gC) (aB gC) .none kV20 dc20 pm20 an20 cd20 ct20),sl20⟩)
  (c20:PySem.W.codeIn K cd20 "measure"=true)
  (k20:PySem.W.keepIn K (.ref f20)=true)
  (a21:PySem.W.nsIn K mainGlobals "root_sums"=some (some (.ref f21)))
  (l21:K.lookup f21=some ⟨oc21,od21,.func (PySem.W.fnOf "root_sums" "root_sums" (aV eE) (aI eE) (aB eE) .none kV21 dc21 pm21 an21 cd21 ct21),sl21⟩)
  (c21:PySem.W.codeIn K cd21 "root_sums"=true)
  (k21:PySem.W.keepIn K (.ref f21)=true)
  (a22:PySem.W.nsIn K mainGlobals "mod_poly"=some (some (.ref f22)))
  (l22:K.lookup f22=some ⟨oc22,od22,.func (PySem.W.fnOf "mod_poly" "mod_poly" (aV eU) (aI eU) (aB eU) .none kV22 dc22 pm22 an22 cd22 ct22),sl22⟩)
  (c22:PySem.W.codeIn K cd22 "mod_poly"=true)
  (k22:PySem.W.keepIn K (.ref f22)=true)
  (a23:PySem.W.nsIn K mainGlobals "mod_parted"=some (some (.ref f23)))
  (l23:K.lookup f23=some ⟨oc23,od23,.func (PySem.W.fnOf "mod_parted" "mod_parted" (aV eH) (aI eH) (aB eH) .none kV23 dc23 pm23 an23 cd23 ct23),sl23⟩)
  (c23:PySem.W.codeIn K cd23 "mod_parted"=true)
  (k23:PySem.W.keepIn K (.ref f23)=true)
  (a24:PySem.W.nsIn K mainGlobals "scaled"=some (some (.ref f24)))
  (l24:K.lookup f24=some ⟨oc24,od24,.func (PySem.W.fnOf "scaled" "scaled" (aV gZ) (aI gZ) (aB gZ) .none kV24 dc24 pm24 an24 cd24 ct24),sl24⟩)
  (c24:PySem.W.codeIn K cd24 "scaled"=true)
  (k24:PySem.W.keepIn K (.ref f24)=true)
  (a25:PySem.W.nsIn K mainGlobals "inverse_of"=some (some (.ref f25)))
  (l25:K.lookup f25=some ⟨oc25,od25,.func (PySem.W.fnOf "inverse_of" "inverse_of" (aV eI) (aI eI) (aB eI) .none kV25 dc25 pm25 an25 cd25 ct25),sl25⟩)
  (c25:PySem.W.codeIn K cd25 "inverse_of"=true)
  (k25:PySem.W.keepIn K (.ref f25)=true)
  (a26:PySem.W.nsIn K mainGlobals "split_by"=some (some (.ref f26)))
  (l26:K.lookup f26=some ⟨oc26,od26,.func (PySem.W.fnOf "split_by" "split_by" (aV gD) (aI gD) (aB gD) .none kV26 dc26 pm26 an26 cd26 ct26),sl26⟩)
  (c26:PySem.W.codeIn K cd26 "split_by"=true)
  (k26:PySem.W.keepIn K (.ref f26)=true)
  (a27:PySem.W.nsIn K mainGlobals "lines_out"=some (some (.ref f27)))
  (l27:K.lookup f27=some ⟨oc27,od27,.func (PySem.W.fnOf "lines_out" "lines_out" (aV eZ) (aI eZ) (aB eZ) .none kV27 dc27 pm27 an27 cd27 ct27),sl27⟩)
  (c27:PySem.W.codeIn K cd27 "lines_out"=true)
  (k27:PySem.W.keepIn K (.ref f27)=true)
  (a28:PySem.W.nsIn K mainGlobals "rootless_parts"=some (some (.ref f28)))
  (l28:K.lookup f28=some ⟨oc28,od28,.func (PySem.W.fnOf "rootless_parts" "rootless_parts" (aV cD) (aI cD) (aB cD) .none kV28 dc28 pm28 an28 cd28 ct28),sl28⟩)
  (c28:PySem.W.codeIn K cd28 "rootless_parts"=true)
  (k28:PySem.W.keepIn K (.ref f28)=true)
  (a29:PySem.W.nsIn K mainGlobals "two_by_two_split"=some (some (.ref f29)))
  (l29:K.lookup f29=some ⟨oc29,od29,.func (PySem.W.fnOf "two_by_two" "two_by_two" (aV cA) (aI cA) (aB cA) .none kV29 dc29 pm29 an29 cd29 ct29),sl29⟩)
  (c29:PySem.W.codeIn K cd29 "two_by_two"=true)
  (k29:PySem.W.keepIn K (.ref f29)=true)
  (a30:PySem.W.nsIn K mainGlobals "papers_of"=some (some (.ref f30)))
  (l30:K.lookup f30=some ⟨oc30,od30,.func (PySem.W.fnOf "papers_of" "papers_of" (aV eF) (aI eF) (aB eF) .none kV30 dc30 pm30 an30 cd30 ct30),sl30⟩)
  (c30:PySem.W.codeIn K cd30 "papers_of"=true)
  (k30:PySem.W.keepIn K (.ref f30)=true)
  (a31:PySem.W.nsIn K mainGlobals "parts_at"=some (some (.ref f31)))
  (l31:K.lookup f31=some ⟨oc31,od31,.func (PySem.W.fnOf "parts_at" "parts_at" (aV eV) (aI eV) (aB eV) .none kV31 dc31 pm31 an31 cd31 ct31),sl31⟩)
  (c31:PySem.W.codeIn K cd31 "parts_at"=true)
  (k31:PySem.W.keepIn K (.ref f31)=true)
  (a32:PySem.W.nsIn K mainGlobals "outside_of"=some (some (.ref f32)))
  (l32:K.lookup f32=some ⟨oc32,od32,.func (PySem.W.fnOf "outside_of" "outside_of" (aV dN) (aI dN) (aB dN) .none kV32 dc32 pm32 an32 cd32 ct32),sl32⟩)
  (c32:PySem.W.codeIn K cd32 "outside_of"=true)
  (k32:PySem.W.keepIn K (.ref f32)=true)
  (a33:PySem.W.nsIn K mainGlobals "need_together"=some (some (.ref f33)))
  (l33:K.lookup f33=some ⟨oc33,od33,.func (PySem.W.fnOf "need_together" "need_together" (aV cT) (aI cT) (aB cT) .none kV33 dc33 pm33 an33 cd33 ct33),sl33⟩)
  (c33:PySem.W.codeIn K cd33 "need_together"=true)
  (k33:PySem.W.keepIn K (.ref f33)=true)
  (a34:PySem.W.nsIn K mainGlobals "need_whole"=some (some (.ref f34)))
  (l34:K.lookup f34=some ⟨oc34,od34,.func (PySem.W.fnOf "need_whole" "need_whole" (aV dO) (aI dO) (aB dO) .none kV34 dc34 pm34 an34 cd34 ct34),sl34⟩)
  (c34:PySem.W.codeIn K cd34 "need_whole"=true)
  (k34:PySem.W.keepIn K (.ref f34)=true)
  (a35:PySem.W.nsIn K mainGlobals "_law_cell"=some (some (.ref f35)))
  (l35:K.lookup f35=some ⟨oc35,od35,.func (PySem.W.fnOf "_law_cell" "_law_cell" (aV tX) (aI tX) (aB tX) .none kV35 dc35 pm35 an35 cd35 ct35),sl35⟩)
  (c35:PySem.W.codeIn K cd35 "_law_cell"=true)
  (k35:PySem.W.keepIn K (.ref f35)=true)
  (a36:PySem.W.nsIn K mainGlobals "_law_mixed"=some (some (.ref f36)))
  (l36:K.lookup f36=some ⟨oc36,od36,.func (PySem.W.fnOf "_law_mixed" "_law_mixed" (aV oM) (aI oM) (aB oM) .none kV36 dc36 pm36 an36 cd36 ct36),sl36⟩)
  (c36:PySem.W.codeIn K cd36 "_law_mixed"=true)
  (k36:PySem.W.keepIn K (.ref f36)=true)
  (a37:PySem.W.nsIn K mainGlobals "_law_draws"=some (some (.ref f37)))
  (l37:K.lookup f37=some ⟨oc37,od37,.func (PySem.W.fnOf "_law_draws" "_law_draws" (aV oN) (aI oN) (aB oN) .none kV37 dc37 pm37 an37 cd37 ct37),sl37⟩)
  (c37:PySem.W.codeIn K cd37 "_law_draws"=true)
  (k37:PySem.W.keepIn K (.ref f37)=true)
  (a38:PySem.W.nsIn K mainGlobals "_law_shifted"=some (some (.ref f38)))
  (l38:K.lookup f38=some ⟨oc38,od38,.func (PySem.W.fnOf "_law_shifted" "_law_shifted" (aV jN) (aI jN) (aB jN) .none kV38 dc38 pm38 an38 cd38 ct38),sl38⟩)
  (c38:PySem.W.codeIn K cd38 "_law_shifted"=true)
  (k38:PySem.W.keepIn K (.ref f38)=true)
  (a39:PySem.W.nsIn K mainGlobals "_law_poly"=some (some (.ref f39)))
  (l39:K.lookup f39=some ⟨oc39,od39,.func (PySem.W.fnOf "_law_poly" "_law_poly" (aV rP) (aI rP) (aB rP) .none kV39 dc39 pm39 an39 cd39 ct39),sl39⟩)
  (c39:PySem.W.codeIn K cd39 "_law_poly"=true)
  (k39:PySem.W.keepIn K (.ref f39)=true)
  (a40:PySem.W.nsIn K mainGlobals "_law_known_ring"=some (some (.ref f40)))
  (l40:K.lookup f40=some ⟨oc40,od40,.func (PySem.W.fnOf "_law_known_ring" "_law_known_ring" (aV gE) (aI gE) (aB gE) .none kV40 dc40 pm40 an40 cd40 ct40),sl40⟩)
  (c40:PySem.W.codeIn K cd40 "_law_known_ring"=true)
  (k40:PySem.W.keepIn K (.ref f40)=true)
  (a41:PySem.W.nsIn K mainGlobals "_law_ring"=some (some (.ref f41)))
  (l41:K.lookup f41=some ⟨oc41,od41,.func (PySem.W.fnOf "_law_ring" "_law_ring" (aV tY) (aI tY) (aB tY) .none kV41 dc41 pm41 an41 cd41 ct41),sl41⟩)
  (c41:PySem.W.codeIn K cd41 "_law_ring"=true)
  (k41:PySem.W.keepIn K (.ref f41)=true)
  (a42:PySem.W.nsIn K mainGlobals "_law_number"=some (some (.ref f42)))
  (l42:K.lookup f42=some ⟨oc42,od42,.func (PySem.W.fnOf "_law_number" "_law_number" (aV lW) (aI lW) (aB lW) .none kV42 dc42 pm42 an42 cd42 ct42),sl42⟩)
  (c42:PySem.W.codeIn K cd42 "_law_number"=true)
  (k42:PySem.W.keepIn K (.ref f42)=true)
  (a43:PySem.W.nsIn K mainGlobals "_law_times"=some (some (.ref f43)))
  (l43:K.lookup f43=some ⟨oc43,od43,.func (PySem.W.fnOf "_law_times" "_law_times" (aV oO) (aI oO) (aB oO) .none kV43 dc43 pm43 an43 cd43 ct43),sl43⟩)
  (c43:PySem.W.codeIn K cd43 "_law_times"=true)
  (k43:PySem.W.keepIn K (.ref f43)=true)
  (a44:PySem.W.nsIn K mainGlobals "_law_det"=some (some (.ref f44)))
  (l44:K.lookup f44=some ⟨oc44,od44,.func (PySem.W.fnOf "_law_det" "_law_det" (aV xP) (aI xP) (aB xP) .none kV44 dc44 pm44 an44 cd44 ct44),sl44⟩)
  (c44:PySem.W.codeIn K cd44 "_law_det"=true)
  (k44:PySem.W.keepIn K (.ref f44)=true)
  (a45:PySem.W.nsIn K mainGlobals "_law_table"=some (some (.ref f45)))
  (l45:K.lookup f45=some ⟨oc45,od45,.func (PySem.W.fnOf "_law_table" "_law_table" (aV mX) (aI mX) (aB mX) .none kV45 dc45 pm45 an45 cd45 ct45),sl45⟩)
  (c45:PySem.W.codeIn K cd45 "_law_table"=true)
  (k45:PySem.W.keepIn K (.ref f45)=true)
  (a46:PySem.W.nsIn K mainGlobals "_law_value"=some (some (.ref f46)))
  (l46:K.lookup f46=some ⟨oc46,od46,.func (PySem.W.fnOf "_law_value" "_law_value" (aV oP) (aI oP) (aB oP) .none kV46 dc46 pm46 an46 cd46 ct46),sl46⟩)
  (c46:PySem.W.codeIn K cd46 "_law_value"=true)
  (k46:PySem.W.keepIn K (.ref f46)=true)
  (a47:PySem.W.nsIn K mainGlobals "_law_whole"=some (some (.ref f47)))
  (l47:K.lookup f47=some ⟨oc47,od47,.func (PySem.W.fnOf "_law_whole" "_law_whole" (aV oQ) (aI oQ) (aB oQ) .none kV47 dc47 pm47 an47 cd47 ct47),sl47⟩)
  (c47:PySem.W.codeIn K cd47 "_law_whole"=true)
  (k47:PySem.W.keepIn K (.ref f47)=true)
  (a48:PySem.W.nsIn K mainGlobals "_law_row"=some (some (.ref f48)))
  (l48:K.lookup f48=some ⟨oc48,od48,.func (PySem.W.fnOf "_law_row" "_law_row" (aV xQ) (aI xQ) (aB xQ) .none kV48 dc48 pm48 an48 cd48 ct48),sl48⟩)
  (c48:PySem.W.codeIn K cd48 "_law_row"=true)
  (k48:PySem.W.keepIn K (.ref f48)=true)
  (a49:PySem.W.nsIn K mainGlobals "_law_is_table"=some (some (.ref f49)))
  (l49:K.lookup f49=some ⟨oc49,od49,.func (PySem.W.fnOf "_law_is_table" "_law_is_table" (aV hG) (aI hG) (aB hG) .none kV49 dc49 pm49 an49 cd49 ct49),sl49⟩)
  (c49:PySem.W.codeIn K cd49 "_law_is_table"=true)
  (k49:PySem.W.keepIn K (.ref f49)=true)
  (a50:PySem.W.nsIn K mainGlobals "_law_nearer"=some (some (.ref f50)))
  (l50:K.lookup f50=some ⟨oc50,od50,.func (PySem.W.fnOf "_law_nearer" "_law_nearer" (aV kC) (aI kC) (aB kC) .none kV50 dc50 pm50 an50 cd50 ct50),sl50⟩)
  (c50:PySem.W.codeIn K cd50 "_law_nearer"=true)
  (k50:PySem.W.keepIn K (.ref f50)=true)
  (a51:PySem.W.nsIn K mainGlobals "_law_due"=some (some (.ref f51)))
  (l51:K.lookup f51=some ⟨oc51,od51,.func (PySem.W.fnOf "_law_due" "_law_due" (aV xR) (aI xR) (aB xR) .none kV51 dc51 pm51 an51 cd51 ct51),sl51⟩)
  (c51:PySem.W.codeIn K cd51 "_law_due"=true)
  (k51:PySem.W.keepIn K (.ref f51)=true)
  (a52:PySem.W.nsIn K mainGlobals "law"=some (some (.ref f52)))
  (l52:K.lookup f52=some ⟨oc52,od52,.func (PySem.W.fnOf "law" "law" (aV tZ) (aI tZ) (aB tZ) .none kV52 dc52 pm52 an52 cd52 ct52),sl52⟩)
  (c52:PySem.W.codeIn K cd52 "law"=true)
  (k52:PySem.W.keepIn K (.ref f52)=true)
  (gF:PySem.W.nsIn K mainGlobals "FallsApart"=some (some (.ref cY)))
  (iO:PySem.W.nsIn K mainGlobals "NotWhole"=some (some (.ref eN)))
  (iQ:PySem.W.nsIn K mainGlobals "TooGreat"=some (some (.ref kW)))
  (iP:PySem.W.nsIn K mainGlobals "RingError"=some (some (.ref fB)))
  (aF5:PySem.W.nsIn K mainGlobals "Ring"=some (some (.ref kY)))
  (vS:PySem.W.findIn K (.ref cY) "__init__"=some (some (.ref fA)))
  (a00:PySem.W.findIn K (.ref eN) "__init__"=some (some (.ref gU)))
  (aV3:PySem.W.findIn K (.ref kY) "__init__"=some (some (.ref xY)))
  (sF:K.lookup fA=some ⟨.type "function",aI7,.func (PySem.W.fnOf "__init__" "FallsApart.__init__" (aV kE) (aI kE) (aB kE) .none aJ0 aJ1 aJ2 aI8 vR aJ3),aI9⟩)
  (wN:K.lookup gU=some ⟨.type "function",b30,.func (PySem.W.fnOf "__init__" "NotWhole.__init__" (aV nV) (aI nV) (aB nV) .none b33 b34 b35 b31 zZ b36),b32⟩)
  (bA5:K.lookup xY=some ⟨cD9,cD2,.func (PySem.W.fnOf "__init__" "Ring.__init__" (aV u6) (aI u6) (aB u6) .none cD5 cD6 cD7 cD3 bF6 cD8),cD4⟩)
  (pY:PySem.W.codeIn K vR "FallsApart.__init__"=true)
  (pZ:PySem.W.keepIn K (.ref fA)=true)
  (uE:PySem.W.codeIn K zZ "NotWhole.__init__"=true)
  (uF:PySem.W.keepIn K (.ref gU)=true)
  (aV4:PySem.W.codeIn K bF6 "Ring.__init__"=true)
  (aV5:PySem.W.keepIn K (.ref xY)=true)
  (iV:vG K cY fA [.type "ValueError",.type "Exception",.type "BaseException",.type "object"] "ValueError.__new__"=true)
  (kT:vG K eN gU [.type "ValueError",.type "Exception",.type "BaseException",.type "object"] "ValueError.__new__"=true)
  (kX:PySem.W.excIn K kW [.type "ValueError",.type "Exception",.type "BaseException",.type "object"] "ValueError.__new__"=true)
  (lY:PySem.W.excIn K fB [.type "ValueError",.type "Exception",.type "BaseException",.type "object"] "ValueError.__new__"=true)
  (lC:PySem.W.clsIn K cY=some mZ)
  (oS:PySem.W.clsIn K eN=some sE)
  (uG:PySem.W.clsIn K kW=some aF4)
  (gR:(mZ).mro.contains (.ref fB)=true)
  (i9:(aF4).mro.contains (.ref fB)=true)
  (iA:(sE).mro.contains (.ref fB)=true)
  (qA:nK (mZ).mro=true)
  (qB:(mZ).hasDict=true)
  (qC:PySem.W.findIn K (.ref cY) "__setattr__"=some (some (.builtin "object.__setattr__")))
  (qD:PySem.W.findIn K (.ref cY) "left"=some none)
  (qE:PySem.W.findIn K (.ref cY) "right"=some none)
  (uH:nK (sE).mro=true)
  (uI:(sE).hasDict=true)
  (uJ:PySem.W.findIn K (.ref eN) "__setattr__"=some (some (.builtin "object.__setattr__")))
  (uK:PySem.W.findIn K (.ref eN) "prime"=some none)
  (uL:PySem.W.findIn K (.ref eN) "number"=some none)
  (mk_Ring:PySem.W.makesIn K kY=true)
  (fn_Ring:PySem.W.isFn K (.ref xY)=true)
  (kc_Ring:PySem.W.keepIn K (.ref kY)=true)
  (pg_Ring:PySem.W.plainGet K kY Str.empty=true)
  (aV6:PySem.W.hasDictIn K kY=true)
  (po_Ring:PySem.W.plainOver K kY=true)
  (aV7:PySem.W.findIn K (.ref kY) "__setattr__"=some (some (.builtin "object.__setattr__")))
  (aV8:PySem.W.findIn K (.ref kY) "poly"=some none)
  (zH:PySem.W.findIn K (.ref kY) "degree"=some none)
  (wO:PySem.W.findIn K (.ref kY) "measure"=some none)
  (bD:PySem.W.nsIn K mainGlobals "len"=some none)
  (aF1:PySem.W.nsIn K mainGlobals "max"=some none)
  (kQ:PySem.W.nsIn K mainGlobals "list"=some none)
  (dZ:PySem.W.nsIn K mainGlobals "reversed"=some none)
  (aT:PySem.W.nsIn K mainGlobals "range"=some none)
  (iL:PySem.W.nsIn K mainGlobals "enumerate"=some none)
  (aX:PySem.W.nsIn K mainGlobals "tuple"=some none)
  (qW:PySem.W.nsIn K mainGlobals "sum"=some none)
  (mS:PySem.W.nsIn K mainGlobals "all"=some none)
  (mT:PySem.W.nsIn K mainGlobals "abs"=some none)
  (aF3:PySem.W.nsIn K mainGlobals "min"=some none)
  (nZ:PySem.W.nsIn K mainGlobals "sorted"=some none)
  (vQ:PySem.W.nsIn K mainGlobals "int"=some none)
  (cG:PySem.W.nsIn K mainGlobals "isinstance"=some none)
  (wL:PySem.W.nsIn K mainGlobals "bool"=some none)
  (eA:PySem.W.nsIn K mainGlobals "GREATEST_PLACE"=some (some (.int 499 kR)))
  (d5:PySem.W.nsIn K mainGlobals "GREATEST_MEASURE"=some (some (.int 39999 jI)))
  (fL:PySem.W.nsIn K mainGlobals "SMALL_PRIMES"=some (some (.ref gQ)))
  (mF:K.lookup gQ=some ⟨.type "tuple",a61,.seq zG n_SMALL_PRIMES,a62⟩)
  (mG:zG.size≤sizeLine)
  (mH:Vals (T_SMALL_PRIMES.map V.int) zG.toList) :
  ∃fd:FuncData,(∀(s:Shared) (v:Value),BindsTo s fd ⟨[v],[]⟩ [("_law_script",v)])∧ ∀base:Heap,K.In base→base.Ns mainGlobals mg→kH l.prog w K mg base CX0 13 fa fd ["_law_script"] (spP K aK6):=by
 have e:=hfa.symm.trans (PySem.W.mg_of X G a52)
 cases e
 have bD:=PySem.W.mg_none_of X G bD
 have aF1:=PySem.W.mg_none_of X G aF1
 have kQ:=PySem.W.mg_none_of X G kQ
 have dZ:=PySem.W.mg_none_of X G dZ
 have aT:=PySem.W.mg_none_of X G aT
 have iL:=PySem.W.mg_none_of X G iL
 have aX:=PySem.W.mg_none_of X G aX
 have qW:=PySem.W.mg_none_of X G qW
 have mS:=PySem.W.mg_none_of X G mS
 have mT:=PySem.W.mg_none_of X G mT
 have aF3:=PySem.W.mg_none_of X G aF3
 have nZ:=PySem.W.mg_none_of X G nZ
 have vQ:=PySem.W.mg_none_of X G vQ
 have cG:=PySem.W.mg_none_of X G cG
 have wL:=PySem.W.mg_none_of X G wL
 have eA:=PySem.W.mg_of X G eA
 have d5:=PySem.W.mg_of X G d5
 have fL:=PySem.W.mg_of X G fL
 have nW:KT K gQ (T_SMALL_PRIMES.map V.int):=kt_of mF mG mH
 have gF:=PySem.W.mg_of X G gF
 have iO:=PySem.W.mg_of X G iO
 have iQ:=PySem.W.mg_of X G iQ
 have iP:=PySem.W.mg_of X G iP
 have aF5:=PySem.W.mg_of X G aF5
 have sB:aY5 K cY fA _ "left" "right":=bC7 (st:=kE) (x0:="self") (x1:="left") (x2:="right") sF pY pZ rfl aI1 rfl rfl rfl (by decide) (by decide) (by decide) (fun _ _ _ _ _ _ us hl=>match us,hl with| [_,_,_],_=>rfl) lC qA qB qC qD qE
 have wJ:aY5 K eN gU _ "prime" "number":=bC7 (st:=nV) (x0:="self") (x1:="prime") (x2:="number") wN uE uF rfl b23 rfl rfl rfl (by decide) (by decide) (by decide) (fun _ _ _ _ _ _ us hl=>match us,hl with| [_,_,_],_=>rfl) oS uH uI uJ uK uL
 have kU: ∀n∈(["FallsApart","TooGreat","NotWhole"]:List Str),∀C,mg n=some (.ref C)→yI K fB C [.type "ValueError",.type "Exception",.type "BaseException",.type "object"] "ValueError.__new__":=by
  intro n hn C hm
  simp only[List.mem_cons,List.not_mem_nil,or_false]at hn
  rcases hn with rfl|rfl|rfl
  ·(have e:=hm.symm.trans gF;cases e;exact yK (.inr ⟨_,iV⟩) lC gR)
  ·(have e:=hm.symm.trans iQ;cases e;exact yK (.inl kX) uG i9)
  ·(have e:=hm.symm.trans iO;cases e;exact yK (.inr ⟨_,kT⟩) oS iA)
 have U1:=bI (st:=oJ) l1 c1 k1
 have U2:=bI (st:=iK) l2 c2 k2
 have U3:=bI (st:=dR) l3 c3 k3
 have U4:=bI (st:=gT) l4 c4 k4
 have U5:=bI (st:=oK) l5 c5 k5
 have U6:=bI (st:=fX) l6 c6 k6
 have U7:=bI (st:=fY) l7 c7 k7
 have U8:=bI (st:=fZ) l8 c8 k8
 have U9:=bI (st:=lQ) l9 c9 k9
 have U10:=bI (st:=iT) l10 c10 k10
 have U11:=bI (st:=cO) l11 c11 k11
 have U12:=bI (st:=cK) l12 c12 k12
 have U13:=bI (st:=lU) l13 c13 k13
 have U14:=bI (st:=dB) l14 c14 k14
 have U15:=bI (st:=jM) l15 c15 k15
 have U16:=bI (st:=gA) l16 c16 k16
 have U17:=bI (st:=cS) l17 c17 k17
 have U18:=bI (st:=bZ) l18 c18 k18
 have U19:=bI (st:=gB) l19 c19 k19
 have U20:=bI (st:=gC) l20 c20 k20
 have U21:=bI (st:=eE) l21 c21 k21
 have U22:=bI (st:=eU) l22 c22 k22
 have U23:=bI (st:=eH) l23 c23 k23
 have U24:=bI (st:=gZ) l24 c24 k24
 have U25:=bI (st:=eI) l25 c25 k25
 have U26:=bI (st:=gD) l26 c26 k26
 have U27:=bI (st:=eZ) l27 c27 k27
 have U28:=bI (st:=cD) l28 c28 k28
 have U29:=bI (st:=cA) l29 c29 k29
 have U30:=bI (st:=eF) l30 c30 k30
 have U31:=bI (st:=eV) l31 c31 k31
 have U32:=bI (st:=dN) l32 c32 k32
 have U33:=bI (st:=cT) l33 c33 k33
 have U34:=bI (st:=dO) l34 c34 k34
 have U35:=bI (st:=tX) l35 c35 k35
 have U36:=bI (st:=oM) l36 c36 k36
 have U37:=bI (st:=oN) l37 c37 k37
 have U38:=bI (st:=jN) l38 c38 k38
 have U39:=bI (st:=rP) l39 c39 k39
 have U40:=bI (st:=gE) l40 c40 k40
 have U41:=bI (st:=tY) l41 c41 k41
 have U42:=bI (st:=lW) l42 c42 k42
 have U43:=bI (st:=oO) l43 c43 k43
 have U44:=bI (st:=xP) l44 c44 k44
 have U45:=bI (st:=mX) l45 c45 k45
 have U46:=bI (st:=oP) l46 c46 k46
 have U47:=bI (st:=oQ) l47 c47 k47
 have U48:=bI (st:=xQ) l48 c48 k48
 have U49:=bI (st:=hG) l49 c49 k49
 have U50:=bI (st:=kC) l50 c50 k50
 have U51:=bI (st:=xR) l51 c51 k51
 have U52:=bI (st:=tZ) l52 c52 k52
 have UR:=bI (st:=u6) bA5 aV4 aV5
 refine⟨PySem.W.fnOf "law" "law" (aV tZ) (aI tZ) (aB tZ) .none kV52 dc52 pm52 an52 cd52 ct52,fun s v=> .of_eq rfl,fun base _ _=> ?_⟩
 have rW:Fn l.prog w K mg base "cut" ["row"] 1 lH:=Fn.mkA U1 (PySem.W.mg_of X G a1) (U1.binds (ps:=["row"]) fun _ _ _ _ _ _ us hl=>match us,hl with| [_],_=>rfl) aE0 bJ2 (fun cdv A outer s H E hr=>bL6 bD hr) bV2
 have wK:Fn l.prog w K mg base "padded" ["row","size"] 1 lN:=Fn.mkA U2 (PySem.W.mg_of X G a2) (U2.binds (ps:=["row","size"]) fun _ _ _ _ _ _ us hl=>match us,hl with| [_,_],_=>rfl) b20 aT3 (fun cdv A outer s H E hr=>aU6 bD hr) b03
 have bV:Fn l.prog w K mg base "poly_parted" ["f","g"] 2 bN:=Fn.mkA U3 (PySem.W.mg_of X G a3) (U3.binds (ps:=["f","g"]) fun _ _ _ _ _ _ us hl=>match us,hl with| [_,_],_=>rfl) cP xF (fun cdv A outer s H E hr=>xV bD aF1 kQ dZ aT iL aX rW hr) yM
 have jP:Fn l.prog w K mg base "poly_at" ["f","z"] 1 gY:=Fn.mkA U4 (PySem.W.mg_of X G a4) (U4.binds (ps:=["f","z"]) fun _ _ _ _ _ _ us hl=>match us,hl with| [_,_],_=>rfl) mY aG8 (fun cdv A outer s H E hr=>aI2 dZ hr) aT2
 have jO:Fn l.prog w K mg base "without" ["table","i"] 1 jW:=Fn.mkA U6 (PySem.W.mg_of X G a6) (U6.binds (ps:=["table","i"]) fun _ _ _ _ _ _ us hl=>match us,hl with| [_,_],_=>rfl) aU5 aG4 (fun cdv A outer s H E hr=>aI3 aX hr) aS4
 have bM4:Fn l.prog w K mg base "det" ["table"] 1 (dJ 0):=Fn.void U5 (PySem.W.mg_of X G a5) (U5.binds (ps:=["table"]) fun _ _ _ _ _ _ us hl=>match us,hl with| [_],_=>rfl) b72
 have bM5:Fn l.prog w K mg base "det" ["table"] 2 (dJ 1):=Fn.mk' U5 (PySem.W.mg_of X G a5) (U5.binds (ps:=["table"]) fun _ _ _ _ _ _ us hl=>match us,hl with| [_],_=>rfl) kD (uP _) (fun cdv A outer s H E hr=>uX bD aT (by decide) bM4 jO hr) (xC 0 (by decide))
 have bM6:Fn l.prog w K mg base "det" ["table"] 3 (dJ 2):=Fn.mk' U5 (PySem.W.mg_of X G a5) (U5.binds (ps:=["table"]) fun _ _ _ _ _ _ us hl=>match us,hl with| [_],_=>rfl) kD (uP _) (fun cdv A outer s H E hr=>uX bD aT (by decide) bM5 jO hr) (xC 1 (by decide))
 have bM7:Fn l.prog w K mg base "det" ["table"] 4 (dJ 3):=Fn.mk' U5 (PySem.W.mg_of X G a5) (U5.binds (ps:=["table"]) fun _ _ _ _ _ _ us hl=>match us,hl with| [_],_=>rfl) kD (uP _) (fun cdv A outer s H E hr=>uX bD aT (by decide) bM6 jO hr) (xC 2 (by decide))
 have bM8:Fn l.prog w K mg base "det" ["table"] 5 (dJ 4):=Fn.mk' U5 (PySem.W.mg_of X G a5) (U5.binds (ps:=["table"]) fun _ _ _ _ _ _ us hl=>match us,hl with| [_],_=>rfl) kD (uP _) (fun cdv A outer s H E hr=>uX bD aT (by decide) bM7 jO hr) (xC 3 (by decide))
 have oR:=bM8
 have uA:Fn l.prog w K mg base "t_times" ["ring","x"] 1 kB:=Fn.mkA U7 (PySem.W.mg_of X G a7) (U7.binds (ps:=["ring","x"]) fun _ _ _ _ _ _ us hl=>match us,hl with| [_,_],_=>rfl) rQ aH3 (fun cdv A outer s H E hr=>aI4 aX aT hr) aT6
 have eW:Fn l.prog w K mg base "table_of" ["ring","x"] 2 eC:=Fn.mkA U8 (PySem.W.mg_of X G a8) (U8.binds (ps:=["ring","x"]) fun _ _ _ _ _ _ us hl=>match us,hl with| [_,_],_=>rfl) pP aC9 (fun cdv A outer s H E hr=>aE4 aT aX uA hr) aH4
 have j8:Fn l.prog w K mg base "norm" ["ring","x"] 6 gO:=Fn.mkA U9 (PySem.W.mg_of X G a9) (U9.binds (ps:=["ring","x"]) fun _ _ _ _ _ _ us hl=>match us,hl with| [_,_],_=>rfl) bL4 b89 (fun cdv A outer s H E hr=>b97 oR eW hr) bK3
 have v4:Fn l.prog w K mg base "trace" ["ring","x"] 3 kP:=Fn.mkA U10 (PySem.W.mg_of X G a10) (U10.binds (ps:=["ring","x"]) fun _ _ _ _ _ _ us hl=>match us,hl with| [_,_],_=>rfl) aE1 b15 (fun cdv A outer s H E hr=>b24 qW aT eW hr) b93
 have kS:Fn l.prog w K mg base "is_ring_poly" ["row"] 1 fV:=Fn.mkA U11 (PySem.W.mg_of X G a11) (U11.binds (ps:=["row"]) fun _ _ _ _ _ _ us hl=>match us,hl with| [_],_=>rfl) xS w6 (fun cdv A outer s H E hr=>wH bD mS mT eA hr) xD
 have cE:Fn l.prog w K mg base "need_ring_poly" ["row"] 2 bU:=Fn.mkA U12 (PySem.W.mg_of X G a12) (U12.binds (ps:=["row"]) fun _ _ _ _ _ _ us hl=>match us,hl with| [_],_=>rfl) vC t6 (fun cdv A outer s H E hr=>u7 kS hr) v6
 have aF2:Fn l.prog w K mg base "root" ["m"] 1 qS:=Fn.mkA U13 (PySem.W.mg_of X G a13) (U13.binds (ps:=["m"]) fun _ _ _ _ _ _ us hl=>match us,hl with| [_],_=>rfl) qU b81 (fun cdv A outer s H E hr=>b98 hr) bJ5
 have fE:Fn l.prog w K mg base "small_primes" [] 1 dM:=Fn.mkA U14 (PySem.W.mg_of X G a14) (U14.binds (ps:=[]) fun _ _ _ _ _ _ us hl=>match us,hl with| [],_=>rfl) xT w8 (fun cdv A outer s H E hr=>wI kQ fL nW hr) xH
 have iU:Fn l.prog w K mg base "dividers" ["m"] 1 gJ:=Fn.mkA U16 (PySem.W.mg_of X G a16) (U16.binds (ps:=["m"]) fun _ _ _ _ _ _ us hl=>match us,hl with| [_],_=>rfl) pQ aC2 (fun cdv A outer s H E hr=>aE5 aT mT hr) aH1
 have kF:Fn l.prog w K mg base "line_and_rest" ["poly"] 3 fJ:=Fn.mkA U17 (PySem.W.mg_of X G a17) (U17.binds (ps:=["poly"]) fun _ _ _ _ _ _ us hl=>match us,hl with| [_],_=>rfl) jG v8 (fun cdv A outer s H E hr=>vD iU jP bV hr) wA
 have rX:Fn l.prog w K mg base "two_with" ["total","times"] 2 j6:=Fn.mkA U19 (PySem.W.mg_of X G a19) (U19.binds (ps:=["total","times"]) fun _ _ _ _ _ _ us hl=>match us,hl with| [_,_],_=>rfl) pR aC3 (fun cdv A outer s H E hr=>aE6 aF2 hr) aH2
 have iM:Fn l.prog w K mg base "two_by_two_apart" ["poly"] 3 dU:=Fn.mkA U18 (PySem.W.mg_of X G a18) (U18.binds (ps:=["poly"]) fun _ _ _ _ _ _ us hl=>match us,hl with| [_],_=>rfl) dW rL (fun cdv A outer s H E hr=>rT iU rX hr) sO
 have zF:Fn l.prog w K mg base "apart" ["poly"] 4 nQ:=Fn.mkA U15 (PySem.W.mg_of X G a15) (U15.binds (ps:=["poly"]) fun _ _ _ _ _ _ us hl=>match us,hl with| [_],_=>rfl) wG b02 (fun cdv A outer s H E hr=>b25 bD cE kF iM hr) b82
 have pU:Fn l.prog w K mg base "root_sums" ["poly","many"] 1 iH:=Fn.mkA U21 (PySem.W.mg_of X G a21) (U21.binds (ps:=["poly","many"]) fun _ _ _ _ _ _ us hl=>match us,hl with| [_,_],_=>rfl) gP a07 (fun cdv A outer s H E hr=>a58 bD aT qW aF3 hr) aA8
 have uD:Fn l.prog w K mg base "measure" ["poly"] 6 jY:=Fn.mkA U20 (PySem.W.mg_of X G a20) (U20.binds (ps:=["poly"]) fun _ _ _ _ _ _ us hl=>match us,hl with| [_],_=>rfl) rR aG5 (fun cdv A outer s H E hr=>aI5 bD aX aT cE pU oR hr) aS5
 have dP:Fn l.prog w K mg base "mod_poly" ["row","p"] 2 cX:=Fn.mkA U22 (PySem.W.mg_of X G a22) (U22.binds (ps:=["row","p"]) fun _ _ _ _ _ _ us hl=>match us,hl with| [_,_],_=>rfl) aH9 aB5 (fun cdv A outer s H E hr=>aE7 aX rW hr) aG7
 have nX:Fn l.prog w K mg base "inverse_of" ["c","p"] 1 hX:=Fn.mkA U25 (PySem.W.mg_of X G a25) (U25.binds (ps:=["c","p"]) fun _ _ _ _ _ _ us hl=>match us,hl with| [_,_],_=>rfl) jB yN (fun cdv A outer s H E hr=>zD aT hr) a08
 have rY:Fn l.prog w K mg base "scaled" ["f","k","p"] 3 jL:=Fn.mkA U24 (PySem.W.mg_of X G a24) (U24.binds (ps:=["f","k","p"]) fun _ _ _ _ _ _ us hl=>match us,hl with| [_,_,_],_=>rfl) b21 aS9 (fun cdv A outer s H E hr=>aU7 aX dP hr) aZ1
 have nY:Fn l.prog w K mg base "mod_parted" ["a","b","p"] 4 hZ:=Fn.mkA U23 (PySem.W.mg_of X G a23) (U23.binds (ps:=["a","b","p"]) fun _ _ _ _ _ _ us hl=>match us,hl with| [_,_,_],_=>rfl) i5 yO (fun cdv A outer s H E hr=>zC dP nX bV rY hr) a09
 have pV:Fn l.prog w K mg base "lines_out" ["f","p"] 5 iI:=Fn.mkA U27 (PySem.W.mg_of X G a27) (U27.binds (ps:=["f","p"]) fun _ _ _ _ _ _ us hl=>match us,hl with| [_,_],_=>rfl) fK a53 (fun cdv A outer s H E hr=>a59 aT jP nY hr) aB7
 have iN:Fn l.prog w K mg base "two_by_two_split" ["f","p"] 1 fM:=Fn.mkA U29 (PySem.W.mg_of X G a29) (U29.binds (ps:=["f","p"]) fun _ _ _ _ _ _ us hl=>match us,hl with| [_,_],_=>rfl) cU rO (fun cdv A outer s H E hr=>rV aT hr) sQ
 have jH:Fn l.prog w K mg base "rootless_parts" ["f","p"] 2 eQ:=Fn.mkA U28 (PySem.W.mg_of X G a28) (U28.binds (ps:=["f","p"]) fun _ _ _ _ _ _ us hl=>match us,hl with| [_,_],_=>rfl) mQ tE (fun cdv A outer s H E hr=>u8 bD nZ iN hr) v7
 have sA:Fn l.prog w K mg base "split_by" ["poly","p"] 6 j4:=Fn.mkA U26 (PySem.W.mg_of X G a26) (U26.binds (ps:=["poly","p"]) fun _ _ _ _ _ _ us hl=>match us,hl with| [_,_],_=>rfl) pS aB8 (fun cdv A outer s H E hr=>aE8 fE pV dP jH hr) aG9
 have rZ:Fn l.prog w K mg base "parts_at" ["poly","p"] 7 j5:=Fn.mkA U31 (PySem.W.mg_of X G a31) (U31.binds (ps:=["poly","p"]) fun _ _ _ _ _ _ us hl=>match us,hl with| [_,_],_=>rfl) aI0 aC0 (fun cdv A outer s H E hr=>aE9 sA bV hr) aH0
 have pW:Fn l.prog w K mg base "papers_of" ["poly","size"] 8 iJ:=Fn.mkA U30 (PySem.W.mg_of X G a30) (U30.binds (ps:=["poly","size"]) fun _ _ _ _ _ _ us hl=>match us,hl with| [_,_],_=>rfl) aE2 a55 (fun cdv A outer s H E hr=>a60 fE rZ hr) aC1
 have o5:Fn l.prog w K mg base "outside_of" ["poly","rows"] 3 i4:=Fn.mkA U32 (PySem.W.mg_of X G a32) (U32.binds (ps:=["poly","rows"]) fun _ _ _ _ _ _ us hl=>match us,hl with| [_,_],_=>rfl) fP yT (fun cdv A outer s H E hr=>zE mS bV hr) a56
 have jJ:FnX l.prog w K mg base "need_together" ["poly"] 5 eR:=FnX.mk' U33 (PySem.W.mg_of X G a33) (U33.binds (ps:=["poly"]) fun _ _ _ _ _ _ us hl=>match us,hl with| [_],_=>rfl) nT tN (fun cdv A outer s H E hr=>u9 gF iV sB zF hr) v9
 have mE:FnX l.prog w K mg base "need_whole" ["poly","size"] 9 gN:=FnX.mk' U34 (PySem.W.mg_of X G a34) (U34.binds (ps:=["poly","size"]) fun _ _ _ _ _ _ us hl=>match us,hl with| [_,_],_=>rfl) jC xK (fun cdv A outer s H E hr=>xW aX bD iO kT wJ o5 pW wK hr) yV
 have pX:Fn l.prog w K mg base "_law_cell" ["_law_script","_law_k"] 1 jU:=Fn.mkA U35 (PySem.W.mg_of X G a35) (U35.binds (ps:=["_law_script","_law_k"]) fun _ _ _ _ _ _ us hl=>match us,hl with| [_,_],_=>rfl) cC8 bU7 (fun cdv A outer s H E hr=>bZ7 bD hr) cA2
 have uY:Fn l.prog w K mg base "_law_mixed" ["_law_cell_here","_law_k","_law_prime"] 1 lF:=Fn.mkA U36 (PySem.W.mg_of X G a36) (U36.binds (ps:=["_law_cell_here","_law_k","_law_prime"]) fun _ _ _ _ _ _ us hl=>match us,hl with| [_,_,_],_=>rfl) aE3 bI8 (fun cdv A outer s H E hr=>bL7 hr) bU1
 have iC:Fn l.prog w K mg base "_law_draws" ["_law_cell_here","_law_widths","_law_prime"] 2 fT:=Fn.mkA U37 (PySem.W.mg_of X G a37) (U37.binds (ps:=["_law_cell_here","_law_widths","_law_prime"]) fun _ _ _ _ _ _ us hl=>match us,hl with| [_,_,_],_=>rfl) qV bI9 (fun cdv A outer s H E hr=>bL8 aT bD uY hr) bU2
 have uZ:Fn l.prog w K mg base "_law_shifted" ["_law_poly_here","_law_s"] 1 kN:=Fn.mkA U38 (PySem.W.mg_of X G a38) (U38.binds (ps:=["_law_poly_here","_law_s"]) fun _ _ _ _ _ _ us hl=>match us,hl with| [_,_],_=>rfl) rS b05 (fun cdv A outer s H E hr=>b26 kQ aT bD aX hr) b84
 have bA3:Fn l.prog w K mg base "_law_poly" ["_law_cell_here","_law_prime"] 3 xM:=Fn.mkA U39 (PySem.W.mg_of X G a39) (U39.binds (ps:=["_law_cell_here","_law_prime"]) fun _ _ _ _ _ _ us hl=>match us,hl with| [_,_],_=>rfl) uU bY1 (fun cdv A outer s H E hr=>bZ8 aX iC uZ hr) cC1
 have sC:Fn l.prog w K mg base "_law_known_ring" ["_law_cell_here"] 2 j7:=Fn.mkA U40 (PySem.W.mg_of X G a40) (U40.binds (ps:=["_law_cell_here"]) fun _ _ _ _ _ _ us hl=>match us,hl with| [_],_=>rfl) pT aD2 (fun cdv A outer s H E hr=>aF0 uY hr) aH6
 have okR:OkC K kY ["poly","degree","measure"]:=⟨⟨pg_Ring,aV6,po_Ring,aV7⟩,fun f hf=>by
  simp only[List.mem_cons,List.not_mem_nil,or_false]at hf
  rcases hf with rfl|rfl|rfl
  ·exact aV8
  ·exact zH
  ·exact wO⟩
 have fR:=bU0 UR bF5 okR (by decide) (by decide) (by decide) bJ7 (by decide) (fun cdv A outer s H E hr=>bM3 bD mT d5 iQ kX cE uD jJ mE hr) bX1
 have bR:=UR.binds (ps:=["self","poly"]) fun _ _ _ _ _ _ us hl=>match us,hl with| [_,_],_=>rfl
 have a79:MkX l.prog w K mg base "Ring" 10 ["poly","degree","measure"] qT:=⟨kY,xY,_,["self","poly"],Mk.mk mk_Ring aV3 fn_Ring kc_Ring,okR,fR,bR,aF5⟩
 have bA4:Fn l.prog w K mg base "_law_ring" ["_law_script","_law_k","_law_prime"] 12 xN:=Fn.mkA U41 (PySem.W.mg_of X G a41) (U41.binds (ps:=["_law_script","_law_k","_law_prime"]) fun _ _ _ _ _ _ us hl=>match us,hl with| [_,_,_],_=>rfl) uW bY0 (fun cdv A outer s H E hr=>bZ9 aT iP lY kU a79 bA3 pX sC hr) cB9
 have uB:Fn l.prog w K mg base "_law_number" ["_law_cell_here","_law_many","_law_prime"] 3 kO:=Fn.mkA U42 (PySem.W.mg_of X G a42) (U42.binds (ps:=["_law_cell_here","_law_many","_law_prime"]) fun _ _ _ _ _ _ us hl=>match us,hl with| [_,_,_],_=>rfl) eK b86 (fun cdv A outer s H E hr=>b99 aT aX iC hr) bK2
 have v3:Fn l.prog w K mg base "_law_times" ["_law_poly_here","_law_x","_law_y"] 1 nS:=Fn.mkA U43 (PySem.W.mg_of X G a43) (U43.binds (ps:=["_law_poly_here","_law_x","_law_y"]) fun _ _ _ _ _ _ us hl=>match us,hl with| [_,_,_],_=>rfl) lX bK0 (fun cdv A outer s H E hr=>bL9 bD aT aX hr) bX7
 have cE0:Fn l.prog w K mg base "_law_det" ["_law_rows"] 1 (iZ 0):=Fn.void U44 (PySem.W.mg_of X G a44) (U44.binds (ps:=["_law_rows"]) fun _ _ _ _ _ _ us hl=>match us,hl with| [_],_=>rfl) bY7
 have cE1:Fn l.prog w K mg base "_law_det" ["_law_rows"] 2 (iZ 1):=Fn.mk' U44 (PySem.W.mg_of X G a44) (U44.binds (ps:=["_law_rows"]) fun _ _ _ _ _ _ us hl=>match us,hl with| [_],_=>rfl) u4 (a77 _) (fun cdv A outer s H E hr=>a78 bD aT (by decide) cE0 hr) (aU1 0 (by decide))
 have cE2:Fn l.prog w K mg base "_law_det" ["_law_rows"] 3 (iZ 2):=Fn.mk' U44 (PySem.W.mg_of X G a44) (U44.binds (ps:=["_law_rows"]) fun _ _ _ _ _ _ us hl=>match us,hl with| [_],_=>rfl) u4 (a77 _) (fun cdv A outer s H E hr=>a78 bD aT (by decide) cE1 hr) (aU1 1 (by decide))
 have cE3:Fn l.prog w K mg base "_law_det" ["_law_rows"] 4 (iZ 3):=Fn.mk' U44 (PySem.W.mg_of X G a44) (U44.binds (ps:=["_law_rows"]) fun _ _ _ _ _ _ us hl=>match us,hl with| [_],_=>rfl) u4 (a77 _) (fun cdv A outer s H E hr=>a78 bD aT (by decide) cE2 hr) (aU1 2 (by decide))
 have cE4:Fn l.prog w K mg base "_law_det" ["_law_rows"] 5 (iZ 4):=Fn.mk' U44 (PySem.W.mg_of X G a44) (U44.binds (ps:=["_law_rows"]) fun _ _ _ _ _ _ us hl=>match us,hl with| [_],_=>rfl) u4 (a77 _) (fun cdv A outer s H E hr=>a78 bD aT (by decide) cE3 hr) (aU1 3 (by decide))
 have b28:=cE4
 have aV1:Fn l.prog w K mg base "_law_table" ["_law_poly_here","_law_x"] 2 tU:=Fn.mkA U45 (PySem.W.mg_of X G a45) (U45.binds (ps:=["_law_poly_here","_law_x"]) fun _ _ _ _ _ _ us hl=>match us,hl with| [_,_],_=>rfl) nU bK7 (fun cdv A outer s H E hr=>bM0 bD aX aT vQ v3 hr) bY6
 have aV2:Fn l.prog w K mg base "_law_value" ["_law_poly_here","_law_r"] 1 tV:=Fn.mkA U46 (PySem.W.mg_of X G a46) (U46.binds (ps:=["_law_poly_here","_law_r"]) fun _ _ _ _ _ _ us hl=>match us,hl with| [_,_],_=>rfl) xU bL0 (fun cdv A outer s H E hr=>bM1 dZ hr) bZ1
 have sD:Fn l.prog w K mg base "_law_whole" ["_law_found"] 1 jV:=Fn.mkA U47 (PySem.W.mg_of X G a47) (U47.binds (ps:=["_law_found"]) fun _ _ _ _ _ _ us hl=>match us,hl with| [_],_=>rfl) bZ6 bJ0 (fun cdv A outer s H E hr=>bM2 cG vQ wL hr) bU5
 have c00:Fn l.prog w K mg base "_law_row" ["_law_found","_law_many"] 2 aD5:=Fn.mkA U48 (PySem.W.mg_of X G a48) (U48.binds (ps:=["_law_found","_law_many"]) fun _ _ _ _ _ _ us hl=>match us,hl with| [_,_],_=>rfl) sc_row cC2 (fun cdv A outer s H E hr=>cC9 cG aX bD mS sD hr) rd_row
 have wM:Fn l.prog w K mg base "_law_is_table" ["_law_found","_law_many"] 3 lP:=Fn.mkA U49 (PySem.W.mg_of X G a49) (U49.binds (ps:=["_law_found","_law_many"]) fun _ _ _ _ _ _ us hl=>match us,hl with| [_,_],_=>rfl) b22 aU2 (fun cdv A outer s H E hr=>aU8 cG aX bD mS c00 hr) b16
 have xX:Fn l.prog w K mg base "_law_nearer" ["_law_x"] 1 nB:=Fn.mkA U50 (PySem.W.mg_of X G a50) (U50.binds (ps:=["_law_x"]) fun _ _ _ _ _ _ us hl=>match us,hl with| [_],_=>rfl) bL5 b94 (fun cdv A outer s H E hr=>bA0 aX mT hr) bL1
 have b29:Fn l.prog w K mg base "_law_due" ["_law_ring_here","_law_x"] 7 wF:=Fn.mkA U51 (PySem.W.mg_of X G a51) (U51.binds (ps:=["_law_ring_here","_law_x"]) fun _ _ _ _ _ _ us hl=>match us,hl with| [_,_],_=>rfl) b96 cC6 (fun cdv A outer s H E hr=>cD0 bD aX qW aT aV1 eW wM sD j8 b28 v4 hr) rd_due
 exact aQ4 U52 u5 cA4 (fun cdv A outer s H E hr=>⟨aU4,cD1 aX bA4 xX uB pX b29 v3 j8 iC aV2 hr,rd_law⟩)
end M
open PySem PySem.W PyProof.Rows
namespace PySem.W.Fast
def tw18166539175210592838:=()
def tw8244500281087102273:=()
def tw9521133635836980876:=()
def tw16989672339244447350:=()
def tw2218368795020233886:=()
def tw13081856988265193660:=()
def tw13293933743522305157:=()
def tw8727436126186461177:=()
def tw83671720545005129:=()
def tw1251970430322563113:=()
def tw3040165119207167877:=()
def tw3933902934387644686:=()
def tw7149994547433993980:=()
def tw11590010766441762053:=()
def tw1443393772802485996:=()
def tw5646144244065650333:=()
def tw5451558849770434147:=()
def tw4366551765104990608:=()
def tw16223369990839582654:=()
def tw18002228359199946017:=()
def tw5414513282251273906:=()
def tw12515164829291432295:=()
def tw11975133708699662423:=()
def tw11497034462571858218:=()
def tw18417282819891175840:=()
def tw7046498039234631135:=()
def tw17681841819746209213:=()
def tw5267211512573281121:=()
def tw9099434452977135013:=()
def tw13950584442262487003:=()
def tw8304673808676179702:=()
def tw12043069233097762442:=()
def tw6243449871636611586:=()
def tw5159641163659235338:=()
def tw5434288846397232295:=()
def tw5314029627124260451:=()
def tw6771837996948934556:=()
def tw14351322920923494586:=()
def tw12375787450007897229:=()
def tw17035758717731981482:=()
def tw10250922131143103256:=()
def tw3046101237566068451:=()
def tw8133463157234943522:=()
def tw14662096583256811391:=()
def tw2632521640319465872:=()
def tw10594542109206640366:=()
def tw2745252212058395615:=()
def tw11227194262382054089:=()
def tw2502789457397093147:=()
def tw108892791394887486:=()
def tw11447268057161993964:=()
def tw6605462914681455151:=()
def tw12934604681915288581:=()
def tw14247922556419009107:=()
def tw13052954533642296408:=()
def tw4822419894217123364:=()
def tw14387714196334480463:=()
def tw1446406217794882098:=()
def tw710541414783654226:=()
def tw3181744605441649123:=()
def tw1477018799291130001:=()
def tw9558395358423711022:=()
def tw4063914957741215256:=()
def tw16885563638874451326:=()
def tw11889377842882992569:=()
def tw13665194475830483377:=()
def tw14102632868755619580:=()
def tw6209596366020835273:=()
def tw17053206503087627932:=()
def tw6362089376138156005:=()
def tw10227283082392568720:=()
def tw12476688422065310177:=()
def tw13561756055582515136:=()
def tw3059237865969467517:=()
def tw10642722329797455738:=()
def tw6663727264597865240:=()
def tw9286475000495078437:=()
def tw7538940673382071355:=()
def tw15563834267187294132:=()
def tw16080570914282054788:=()
def tw12413160565255787629:=()
def tw8054593904187051:=()
def tw13914303697836126971:=()
def tw17557224734951544088:=()
def tw10052868376330765999:=()
def tw429978192232843795:=()
def tw10744774015078768510:=()
def tw6020199145252663598:=()
def tw11691163041464205397:=()
def tw16714982945915879982:=()
def tw7857067817579263259:=()
def tw16174137464555424940:=()
def tw9497312959382896719:=()
def tw715090060720535005:=()
def tw5560003929003066837:=()
def tw9946762644978247323:=()
def tw4165471499032191986:=()
def tw6357850664530630798:=()
def tw14211288539676274316:=()
def tw4230574049398294294:=()
def tw5586591668843194994:=()
def tw5166634764548231832:=()
def tw16250382895454952239:=()
def tw17138795081162661987:=()
def tw1320450796177436502:=()
def tw13396402465128393759:=()
def tw3670304405126158241:=()
def tw14491489844457642097:=()
def tw7583416803756003869:=()
def tw11135791443395845784:=()
def tw15881359874416612479:=()
def tw13958434649313217407:=()
def tw1194145738592895063:=()
def tw6269665375312472810:=()
def tw10678328789027868179:=()
def tw4522922589995645125:=()
def tw10540214879069876986:=()
def tw17063933660433284540:=()
def tw695692189393909399:=()
def tw17093620514860105537:=()
def tw2743488271707755955:=()
def tw12288773295559744116:=()
def tw8355879309574424969:=()
def tw4019851361986678481:=()
def tw10145682958572543436:=()
def tw2386903443798537066:=()
def tw8884872211693354301:=()
def tw16304272913758200250:=()
def tw8450985176841704103:=()
def tw919115086763288952:=()
def tw1424581125158921310:=()
def tw7103670690208089388:=()
def tw15438405294858323762:=()
def tw13575414592521462029:=()
def tw4737608600739849242:=()
def tw6577111090377487677:=()
def tw17509848890507722993:=()
def tw14049159509629317716:=()
def tw11179771366898674711:=()
def tw17859609654911871995:=()
def tw11931141396654767777:=()
def tw6251964536805613376:=()
def tw8980683702568999692:=()
def tw11407825678020862380:=()
def tw5822336222529894860:=()
def tw7764956929209014942:=()
def tw6119735304447909196:=()
def tw14165430079666360702:=()
def tw18187818427317256188:=()
def tw17853416388670162672:=()
def tw5790600663489336240:=()
def tw2352245912048804795:=()
end PySem.W.Fast
set_option maxRecDepth 100000 in
set_option maxHeartbeats 0 in
theorem PySem.Challenge.cw_ringhouse_k21_norms_holds : PySem.Challenge.rw_ringhouse_k21_norms.Holds := by
 w_on;o_law;k_head;(case hw=>w_witness2)
 k_fill
 refine M.walkM (l:=PySem.Challenge.rw_ringhouse_k21_norms) (k:=13) (x:="_law_script") rfl rfl ⟨rfl,by decide,by decide⟩ (fun w h Y=>PySem.W.kIn_of Y) ?F
 case F=>
  intro w mg fa h KX G hmg
  refine' M.all_mk KX G hmg ?a1 ?l1 ?c1 ?k1 ?a2 ?l2 ?c2 ?k2 ?a3 ?l3 ?c3 ?k3 ?a4 ?l4 ?c4 ?k4 ?a5 ?l5 ?c5 ?k5 ?a6 ?l6 ?c6 ?k6 ?a7 ?l7 ?c7 ?k7 ?a8 ?l8 ?c8 ?k8 ?a9 ?l9 ?c9 ?k9 ?a10 ?l10 ?c10 ?k10 ?a11 ?l11 ?c11 ?k11 ?a12 ?l12 ?c12 ?k12 ?a13 ?l13 ?c13 ?k13 ?a14 ?l14 ?c14 ?k14 ?a15 ?l15 ?c15 ?k15 ?a16 ?l16 ?c16 ?k16 ?a17 ?l17 ?c17 ?k17 ?a18 ?l18 ?c18 ?k18 ?a19 ?l19 ?c19 ?k19 ?a20 ?l20 ?c20 ?k20 ?a21 ?l21 ?c21 ?k21 ?a22 ?l22 ?c22 ?k22 ?a23 ?l23 ?c23 ?k23 ?a24 ?l24 ?c24 ?k24 ?a25 ?l25 ?c25 ?k25 ?a26 ?l26 ?c26 ?k26 ?a27 ?l27 ?c27 ?k27 ?a28 ?l28 ?c28 ?k28 ?a29 ?l29 ?c29 ?k29 ?a30 ?l30 ?c30 ?k30 ?a31 ?l31 ?c31 ?k31 ?a32 ?l32 ?c32 ?k32 ?a33 ?l33 ?c33 ?k33 ?a34 ?l34 ?c34 ?k34 ?a35 ?l35 ?c35 ?k35 ?a36 ?l36 ?c36 ?k36 ?a37 ?l37 ?c37 ?k37 ?a38 ?l38 ?c38 ?k38 ?a39 ?l39 ?c39 ?k39 ?a40 ?l40 ?c40 ?k40 ?a41 ?l41 ?c41 ?k41 ?a42 ?l42 ?c42 ?k42 ?a43 ?l43 ?c43 ?k43 ?a44 ?l44 ?c44 ?k44 ?a45 ?l45 ?c45 ?k45 ?a46 ?l46 ?c46 ?k46 ?a47 ?l47 ?c47 ?k47 ?a48 ?l48 ?c48 ?k48 ?a49 ?l49 ?c49 ?k49 ?a50 ?l50 ?c50 ?k50 ?a51 ?l51 ?c51 ?k51 ?a52 ?l52 ?c52 ?k52 ?gF ?iO ?iQ ?iP ?aF5 ?vS ?a00 ?aV3 ?sF ?wN ?bA5 ?pY ?pZ ?uE ?uF ?aV4 ?aV5 ?iV ?kT ?kX ?lY ?lC ?oS ?uG ?gR ?i9 ?iA ?qA ?qB ?qC ?qD ?qE ?uH ?uI ?uJ ?uK ?uL ?mk_Ring ?fn_Ring ?kc_Ring ?pg_Ring ?aV6 ?po_Ring ?aV7 ?aV8 ?zH ?wO ?bD ?aF1 ?kQ ?dZ ?aT ?iL ?aX ?qW ?mS ?mT ?aF3 ?nZ ?vQ ?cG ?wL ?eA ?d5 ?fL ?mF ?mG ?mH
  (case a1=>k_is);(case l1=>k_is);(case c1=>k_is);(case k1=>k_is);(case a2=>k_is);(case l2=>k_is);(case c2=>k_is);(case k2=>k_is);(case a3=>k_is);(case l3=>k_is);(case c3=>k_is);(case k3=>k_is);(case a4=>k_is);(case l4=>k_is);(case c4=>k_is);(case k4=>k_is);(case a5=>k_is);(case l5=>k_is);(case c5=>k_is);(case k5=>k_is);(case a6=>k_is);(case l6=>k_is);(case c6=>k_is);(case k6=>k_is);(case a7=>k_is);(case l7=>k_is);(case c7=>k_is);(case k7=>k_is);(case a8=>k_is);(case l8=>k_is);(case c8=>k_is);(case k8=>k_is);(case a9=>k_is);(case l9=>k_is);(case c9=>k_is);(case k9=>k_is);(case a10=>k_is);(case l10=>k_is);(case c10=>k_is);(case k10=>k_is);(case a11=>k_is);(case l11=>k_is);(case c11=>k_is);(case k11=>k_is);(case a12=>k_is);(case l12=>k_is);(case c12=>k_is);(case k12=>k_is);(case a13=>k_is);(case l13=>k_is);(case c13=>k_is);(case k13=>k_is);(case a14=>k_is);(case l14=>k_is);(case c14=>k_is);(case k14=>k_is);(case a15=>k_is);(case l15=>k_is);(case c15=>k_is);(case k15=>k_is);(case a16=>k_is);(case l16=>k_is);(case c16=>k_is);(case k16=>k_is);(case a17=>k_is);(case l17=>k_is);(case c17=>k_is);(case k17=>k_is);(case a18=>k_is);(case l18=>k_is);(case c18=>k_is);(case k18=>k_is);(case a19=>k_is);(case l19=>k_is);(case c19=>k_is);(case k19=>k_is);(case a20=>k_is);(case l20=>k_is);(case c20=>k_is);(case k20=>k_is);(case a21=>k_is);(case l21=>k_is);(case c21=>k_is);(case k21=>k_is);(case a22=>k_is);(case l22=>k_is);(case c22=>k_is);(case k22=>k_is);(case a23=>k_is);(case l23=>k_is);(case c23=>k_is);(case k23=>k_is);(case a24=>k_is);(case l24=>k_is);(case c24=>k_is);(case k24=>k_is);(case a25=>k_is);(case l25=>k_is);(case c25=>k_is);(case k25=>k_is);(case a26=>k_is);(case l26=>k_is);(case c26=>k_is);(case k26=>k_is);(case a27=>k_is);(case l27=>k_is);(case c27=>k_is);(case k27=>k_is);(case a28=>k_is);(case l28=>k_is);(case c28=>k_is);(case k28=>k_is);(case a29=>k_is);(case l29=>k_is);(case c29=>k_is);(case k29=>k_is);(case a30=>k_is);(case l30=>k_is);(case c30=>k_is);(case k30=>k_is);(case a31=>k_is);(case l31=>k_is);(case c31=>k_is);(case k31=>k_is);(case a32=>k_is);(case l32=>k_is);(case c32=>k_is);(case k32=>k_is);(case a33=>k_is);(case l33=>k_is);(case c33=>k_is);(case k33=>k_is);(case a34=>k_is);(case l34=>k_is);(case c34=>k_is);(case k34=>k_is);(case a35=>k_is);(case l35=>k_is);(case c35=>k_is);(case k35=>k_is);(case a36=>k_is);(case l36=>k_is);(case c36=>k_is);(case k36=>k_is);(case a37=>k_is);(case l37=>k_is);(case c37=>k_is);(case k37=>k_is);(case a38=>k_is);(case l38=>k_is);(case c38=>k_is);(case k38=>k_is);(case a39=>k_is);(case l39=>k_is);(case c39=>k_is);(case k39=>k_is);(case a40=>k_is);(case l40=>k_is);(case c40=>k_is);(case k40=>k_is);(case a41=>k_is);(case l41=>k_is);(case c41=>k_is);(case k41=>k_is);(case a42=>k_is);(case l42=>k_is);(case c42=>k_is);(case k42=>k_is);(case a43=>k_is);(case l43=>k_is);(case c43=>k_is);(case k43=>k_is);(case a44=>k_is);(case l44=>k_is);(case c44=>k_is);(case k44=>k_is);(case a45=>k_is);(case l45=>k_is);(case c45=>k_is);(case k45=>k_is);(case a46=>k_is);(case l46=>k_is);(case c46=>k_is);(case k46=>k_is);(case a47=>k_is);(case l47=>k_is);(case c47=>k_is);(case k47=>k_is);(case a48=>k_is);(case l48=>k_is);(case c48=>k_is);(case k48=>k_is);(case a49=>k_is);(case l49=>k_is);(case c49=>k_is);(case k49=>k_is);(case a50=>k_is);(case l50=>k_is);(case c50=>k_is);(case k50=>k_is);(case a51=>k_is);(case l51=>k_is);(case c51=>k_is);(case k51=>k_is);(case a52=>k_is);(case l52=>k_is);(case c52=>k_is);(case k52=>k_is);(case gF=>k_is);(case iO=>k_is);(case iQ=>k_is);(case iP=>k_is);(case aF5=>k_is);(case vS=>k_is);(case a00=>k_is);(case aV3=>k_is);(case sF=>k_is);(case wN=>k_is);(case bA5=>k_is);(case pY=>k_is);(case pZ=>k_is);(case uE=>k_is);(case uF=>k_is);(case aV4=>k_is);(case aV5=>k_is);(case iV=>first|kernel_rfl|rfl);(case kT=>first|kernel_rfl|rfl);(case kX=>k_exc);(case lY=>k_exc);(case lC=>k_is);(case oS=>k_is);(case uG=>k_is);(case gR=>first|kernel_rfl|rfl|decide);(case i9=>first|kernel_rfl|rfl|decide);(case iA=>first|kernel_rfl|rfl|decide);(case qA=>first|kernel_rfl|rfl|decide);(case qB=>first|kernel_rfl|rfl|decide);(case qC=>k_is);(case qD=>k_is);(case qE=>k_is);(case uH=>first|kernel_rfl|rfl|decide);(case uI=>first|kernel_rfl|rfl|decide);(case uJ=>k_is);(case uK=>k_is);(case uL=>k_is);(case mk_Ring=>k_is);(case fn_Ring=>k_is);(case kc_Ring=>k_is);(case pg_Ring=>k_is);(case aV6=>k_is);(case po_Ring=>k_is);(case aV7=>k_is);(case aV8=>k_is);(case zH=>k_is);(case wO=>k_is);(case bD=>k_is);(case aF1=>k_is);(case kQ=>k_is);(case dZ=>k_is);(case aT=>k_is);(case iL=>k_is);(case aX=>k_is);(case qW=>k_is);(case mS=>k_is);(case mT=>k_is);(case aF3=>k_is);(case nZ=>k_is);(case vQ=>k_is);(case cG=>k_is);(case wL=>k_is);(case eA=>k_is);(case d5=>k_is);(case fL=>k_is);(case mF=>k_is);(case mG=>first|decide| (trace_state;decide +kernel));(case mH=>first| (show L2.Vals (List.map _ _) (List.toList _);simp only[M.T_SMALL_PRIMES,List.map];repeat (first|exact .nil|refine .cons (.int _ _) ?_))| (repeat constructor)|trace_state)
