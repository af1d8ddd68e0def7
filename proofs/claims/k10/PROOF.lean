import PyProof.Rows.All
import Wide.All
import OpenK.AllK
import Wide.FinOn
import Lean
import PyProof.EqAt
import PyProof.EqKinds
import PyProof.TupleCall
import PySem.Challenge.RW_ringhouse_k10_whole_split
set_option Elab.async false
set_option linter.all false
set_option maxRecDepth 100000
namespace L2
open PySem PySem.Spec PyProof.Rows
abbrev Key := Sum Int Str
def keyIs : Key → Value → Bool
  | .inl k, v => Value.isInt k v
  | .inr x, v => Value.isStrOf x v
def keyH (w : World) : Key → Int
  | .inl k => hashInt k
  | .inr x => hashStr w x
theorem keyIs_shape : ∀ {k : Key} {v : Value}, keyIs k v = true → (∃ i t, k = Sum.inl i ∧ v = Value.int i t) ∨ (∃ x t, k = Sum.inr x ∧ v = Value.str x t)
  | .inl i, v, h => by
    obtain ⟨t, e⟩ := Value.isInt_shape (k := i) (v := v) h
    exact .inl ⟨i, t, rfl, e⟩
  | .inr x, v, h => by
    obtain ⟨t, e⟩ := Value.isStrOf_shape (x := x) (v := v) h
    exact .inr ⟨x, t, rfl, e⟩
theorem key_ll (a b : Int) : decide ((Sum.inl a : Key) = Sum.inl b) = (a == b) := by
  by_cases e : a = b
  · subst e; simp
  · have h : ¬ (Sum.inl a : Key) = Sum.inl b := fun q => e (Sum.inl.inj q)
    rw [decide_eq_false h]
    exact (beq_eq_false_iff_ne.mpr e).symm
theorem key_rr (a b : Str) : decide ((Sum.inr a : Key) = Sum.inr b) = decide (a = b) := by
  by_cases e : a = b
  · subst e; simp
  · have h : ¬ (Sum.inr a : Key) = Sum.inr b := fun q => e (Sum.inr.inj q)
    rw [decide_eq_false h, decide_eq_false e]
theorem key_lr (a : Int) (b : Str) : decide ((Sum.inl a : Key) = Sum.inr b) = false := decide_eq_false (fun q => nomatch q)
theorem key_rl (a : Str) (b : Int) : decide ((Sum.inr a : Key) = Sum.inl b) = false := decide_eq_false (fun q => nomatch q)
def mixKind (prog : Program) (w : World) : PySem.KeyKind prog w Key where
  is := keyIs
  hash := keyH w
  inj := fun v a b ha hb => by
    rcases keyIs_shape ha with ⟨i, t, rfl, rfl⟩ | ⟨x, t, rfl, rfl⟩
    · rcases keyIs_shape hb with ⟨j, u, rfl, e⟩ | ⟨y, u, rfl, e⟩
      · injection e with e1 _; rw [e1]
      · exact nomatch e
    · rcases keyIs_shape hb with ⟨j, u, rfl, e⟩ | ⟨y, u, rfl, e⟩
      · exact nomatch e
      · injection e with e1 _; rw [e1]
  byValue := fun k v h => by
    rcases keyIs_shape h with ⟨i, t, rfl, rfl⟩ | ⟨x, t, rfl, rfl⟩ <;> rfl
  pyHash := fun hv h => by
    rcases keyIs_shape hv with ⟨i, t, rfl, rfl⟩ | ⟨x, t, rfl, rfl⟩
    · exact wpAny_pyHash_int h
    · exact wpAny_pyHash_str h
  eqBool := fun hu hv h => by
    rcases keyIs_shape hu with ⟨i, t, rfl, rfl⟩ | ⟨x, t, rfl, rfl⟩
    · rcases keyIs_shape hv with ⟨j, u, rfl, rfl⟩ | ⟨y, u, rfl, rfl⟩
      · rw [key_ll] at h; exact wpAny_eqBool_int h
      · rw [key_lr] at h; exact SeqAt.EqAt.int_str i t y u _ _ _ _ h
    · rcases keyIs_shape hv with ⟨j, u, rfl, rfl⟩ | ⟨y, u, rfl, rfl⟩
      · rw [key_rl] at h; exact SeqAt.EqAt.str_int x t j u _ _ _ _ h
      · rw [key_rr] at h; exact wpAny_eqBool_str h
  «strs» := fun k x t v h => by
    rcases keyIs_shape h with ⟨i, u, rfl, e⟩ | ⟨y, u, rfl, e⟩
    · exact nomatch e
    · injection e with e1 _
      subst e1
      cases v <;> rfl
end L2
namespace L2
open PySem PySem.Spec PyProof.Rows
inductive V where
  | non | bl (b : Bool) | int (i : Int) | str (x : Str) | byt (b : Array UInt8) | flt (b : UInt64) | ref (a : Addr) | ty (n : String)
  deriving DecidableEq
def RelV : V → Value → Prop
  | .non, u => u = Value.none
  | .bl b, u => u = Value.bool b
  | .int i, u => ∃ t, u = Value.int i t
  | .str x, u => ∃ t, u = Value.str x t
  | .byt b, u => ∃ t, u = Value.bytes b t
  | .flt b, u => ∃ t, u = Value.float b t
  | .ref a, u => u = Value.ref a
  | .ty n, u => u = Value.type n
abbrev Vals : List V → List Value → Prop := Paired RelV
theorem Vals.length {xs : List V} {us : List Value} (r : Vals xs us) : xs.length = us.length := Paired.length r
theorem Vals.get : ∀ {xs : List V} {us : List Value} {i : Nat} {x : V}, Vals xs us → xs[i]? = some x → ∃ u, us[i]? = some u ∧ RelV x u
  | _, _, _, _, .nil, e => by simp at e
  | _, _, 0, _, .cons r _, e => by simp at e; subst e; exact ⟨_, rfl, r⟩
  | _, _, i + 1, x, .cons _ t, e => by
    obtain ⟨u, h1, h2⟩ := Vals.get (i := i) (x := x) t (by simpa using e)
    exact ⟨u, by simpa using h1, h2⟩
theorem Vals.set {x : V} {u : Value} (r : RelV x u) : ∀ {xs : List V} {us : List Value} (i : Nat), Vals xs us → Vals (xs.set i x) (us.set i u)
  | _, _, _, .nil => .nil
  | _, _, 0, .cons _ t => .cons r t
  | _, _, i + 1, .cons q t => .cons q (Vals.set r i t)
theorem Vals.append : ∀ {xs ys : List V} {us ws : List Value}, Vals xs us → Vals ys ws → Vals (xs ++ ys) (us ++ ws)
  | _, _, _, _, .nil, s => s
  | _, _, _, _, .cons r t, s => .cons r (Vals.append t s)
theorem Vals.take : ∀ {xs : List V} {us : List Value} (n : Nat), Vals xs us → Vals (xs.take n) (us.take n)
  | _, _, 0, _ => .nil
  | _, _, _ + 1, .nil => .nil
  | _, _, n + 1, .cons r t => .cons r (Vals.take n t)
theorem Vals.drop : ∀ {xs : List V} {us : List Value} (n : Nat), Vals xs us → Vals (xs.drop n) (us.drop n)
  | _, _, 0, r => r
  | _, _, _ + 1, .nil => .nil
  | _, _, n + 1, .cons _ t => Vals.drop n t
theorem Vals.none_of : ∀ {xs : List V} {us : List Value} {i : Nat}, Vals xs us → xs[i]? = none → us[i]? = none := fun {xs us i} r e => by
  have h1 := r.length
  have h2 : xs.length ≤ i := List.getElem?_eq_none_iff.mp e
  exact List.getElem?_eq_none_iff.mpr (by omega)
def RelO : Option V → Option Value → Prop
  | some v, some u => RelV v u
  | none, none => True
  | _, _ => False
def KV {κ : Type} : List (κ × V) → List (κ × Value) → Prop := Paired fun (p : κ × V) (q : κ × Value) => p.1 = q.1 ∧ RelV p.2 q.2
def kV : Key → V
  | .inl i => .int i
  | .inr x => .str x
inductive HO where
  /-- a list -/
  | lst (xs : List V)
  /-- a tuple (never changes) -/
  | tup (xs : List V)
  /-- a dict whose keys are ints and texts; one whose keys are tuples of ints and texts (the empty one is both) -/
  | dK (kvs : List (Key × V)) | dT (kvs : List (List Key × V))
  /-- a set of ints: its members, its size -/
  | set (S : Int → Bool) (n : Nat)
  /-- an instance of the class at C, its dict at dx, its attributes -/
  | ins (C dx : Addr) (fs : List (Str × V))
  /-- the dict of the instance at x -/
  | own (x : Addr)
  /-- the dict of an exception -/
  | xd (fs : List (Str × V))
  /-- a bound method, f of x -/
  | met (f x : Addr)
  /-- a range object lo, lo + 1, .. below hi -/
  | rng (lo hi : Int)
  /-- a thing that is known to the object (the script; a dict while a loop walks it): read, never written while it is so -/
  | frz (o : Obj) (u : HO)
  /-- a code object's table -/
  | tbl (ps : Array Value)
  /-- any other thing, by what is true of its one object (a def of one's own: SetO a S n := HO.ext fun h => ..) -/
  | ext (φ : Heap → Prop)
abbrev Hp := Addr → Option HO
def upd (H : Hp) (a : Addr) (o : HO) : Hp := fun b => if b = a then some o else H b
theorem upd_same {H : Hp} {a : Addr} {o : HO} : upd H a o a = some o := by unfold upd; rw [if_pos rfl]
theorem upd_ne {H : Hp} {a b : Addr} {o : HO} (h : b ≠ a) : upd H a o b = H b := by unfold upd; rw [if_neg h]
theorem ne_of_none {H : Hp} {a b : Addr} {o : HO} (h : H a = some o) (h' : H b = none) : a ≠ b := by
  intro e; subst e; rw [h] at h'; cases h'
section
variable (P : Program) (w : World)
def ObjOk (H : Hp) (h : Heap) (a : Addr) : HO → Prop
  | .lst xs => xs.length ≤ sizeLine ∧ ∃ (its : List Value) (n : Nat), Vals xs its ∧ h.get? a = some { cls := .type "list", data := .seq its.toArray n }
  | .tup xs => xs.length ≤ sizeLine ∧ ∃ its : List Value, Vals xs its ∧ IsTup h a its.toArray
  | .dK kvs => kvs.length ≤ sizeLine ∧ (a == sysModules) = false ∧ ∃ vs, KV kvs vs ∧ h.DictOf (mixKind P w) a vs
  | .dT kvs => kvs.length ≤ sizeLine ∧ (a == sysModules) = false ∧ ∃ xs : List (List Key × Addr × Value),
      Paired (fun (p : List Key × V) (q : List Key × Addr × Value) => p.1 = q.1 ∧ H q.2.1 = some (.tup (p.1.map kV)) ∧ RelV p.2 q.2.2) kvs xs ∧
      ∃ o es ep, h.get? a = some o ∧ o.ExactDict ∧ o.data = .dict es ep ∧ es.toList = xs.map (entryOfKey (tupleKind (mixKind P w))) ∧ (xs.map (·.1)).Nodup
  | .set S n => h.SetOf (intKind P w) a S n
  | .ins C dx fs => H dx = some (.own a) ∧ fs.length ≤ 1000 ∧ dx ≠ a ∧ h.get? a = some (PySem.W.instObj C dx) ∧
      ∃ mA, h.Ns1 dx mA ∧ (∀ f, RelO (fs.lookup f) (mA f)) ∧ PySem.Within mA (fs.map (·.1))
  | .own _ => ∃ o, h.get? a = some o
  | .xd fs => ∃ mA, h.Ns1 a mA ∧ ∀ f, RelO (fs.lookup f) (mA f)
  | .rng lo hi => ∃ t u v, h.get? a = some { cls := .type "range", data := .fields #[.int lo t, .int hi u, .int 1 v] }
  | .frz o u => h.get? a = some o ∧ ObjOk H h a u
  | .tbl ps => h.get? a = some { cls := .none, data := .fields ps }
  | .met f x => h.get? a = some (PySem.W.methodObj (.ref f) (.ref x))
  | .ext φ => φ h ∧ (∃ o, h.get? a = some o) ∧ ∀ h1 h2 : Heap, φ h1 → (∀ o, h1.get? a = some o → h2.get? a = some o) → φ h2
def HOk (H : Hp) (h : Heap) : Prop := ∀ a o, H a = some o → ObjOk P w H h a o
end
section
variable {P : Program} {w : World} {H H' : Hp} {h h' : Heap} {a : Addr} {o : HO}
theorem ObjOk.lt (x : ObjOk P w H h a o) : a < h.objs.size := by
  cases o with
  | lst xs => obtain ⟨_, _, _, _, e⟩ := x; exact Heap.lt_size e
  | tup xs => obtain ⟨_, _, _, p⟩ := x; exact p.lt
  | dK kvs => obtain ⟨_, _, _, _, o, _, _, e, _⟩ := x; exact Heap.lt_size e
  | dT kvs => obtain ⟨_, _, _, _, o, _, _, e, _⟩ := x; exact Heap.lt_size e
  | set S n => obtain ⟨o, _, _, _, e, _⟩ := x; exact Heap.lt_size e
  | ins C dx fs => obtain ⟨_, _, _, e, _⟩ := x; exact Heap.lt_size e
  | own y => obtain ⟨_, e⟩ := x; exact Heap.lt_size e
  | xd fs => obtain ⟨_, ⟨_, _, _, e, _⟩, _⟩ := x; exact Heap.lt_size e
  | rng lo hi => obtain ⟨_, _, _, e⟩ := x; exact Heap.lt_size e
  | frz ob u => obtain ⟨e, _⟩ := x; exact Heap.lt_size e
  | tbl ps => exact Heap.lt_size (show h.get? a = some _ from x)
  | met f y => exact Heap.lt_size (show h.get? a = some _ from x)
  | ext φ => obtain ⟨_, ⟨_, e⟩, _⟩ := x; exact Heap.lt_size e
theorem Paired.mapP {α β : Type} {F G : α → β → Prop} : ∀ {l₁ : List α} {l₂ : List β}, Paired F l₁ l₂ → (∀ a b, F a b → G a b) → Paired G l₁ l₂
  | _, _, .nil, _ => .nil
  | _, _, .cons r t, f => .cons (f _ _ r) (Paired.mapP t f)
theorem ObjOk.stay (x : ObjOk P w H h a o) (k : ∀ b u, (b = a ∨ H b = some (.own a)) → h.get? b = some u → h'.get? b = some u)
    (ho : ∀ b, H b = some (.own a) → H' b = some (.own a)) (ht : ∀ b xs, H b = some (.tup xs) → H' b = some (.tup xs)) : ObjOk P w H' h' a o := by
  induction o with
  | lst xs => obtain ⟨z, its, n, r, e⟩ := x; exact ⟨z, its, n, r, k _ _ (.inl rfl) e⟩
  | tup xs => obtain ⟨z, its, r, ob, e, c⟩ := x; exact ⟨z, its, r, ob, k _ _ (.inl rfl) e, c⟩
  | dK kvs => obtain ⟨z, y, vs, r, ob, es, ep, e, c⟩ := x; exact ⟨z, y, vs, r, ob, es, ep, k _ _ (.inl rfl) e, c⟩
  | dT kvs =>
    obtain ⟨z, y, xs, r, ob, es, ep, e, c⟩ := x
    exact ⟨z, y, xs, Paired.mapP r fun p q z => ⟨z.1, ht _ _ z.2.1, z.2.2⟩, ob, es, ep, k _ _ (.inl rfl) e, c⟩
  | set S n => obtain ⟨ob, es, ep, t, e, c⟩ := x; exact ⟨ob, es, ep, t, k _ _ (.inl rfl) e, c⟩
  | ins C dx fs =>
    obtain ⟨d, z, ne, e, mA, ⟨od, es, ep, e2, c⟩, r⟩ := x
    exact ⟨ho _ d, z, ne, k _ _ (.inl rfl) e, mA, ⟨od, es, ep, k _ _ (.inr d) e2, c⟩, r⟩
  | own y => obtain ⟨ob, e⟩ := x; exact ⟨ob, k _ _ (.inl rfl) e⟩
  | xd fs => obtain ⟨mA, ⟨od, es, ep, e, c⟩, r⟩ := x; exact ⟨mA, ⟨od, es, ep, k _ _ (.inl rfl) e, c⟩, r⟩
  | rng lo hi => obtain ⟨t, u, v, e⟩ := x; exact ⟨t, u, v, k _ _ (.inl rfl) e⟩
  | frz ob u ih => obtain ⟨e, q⟩ := x; exact ⟨k _ _ (.inl rfl) e, ih q⟩
  | tbl ps =>
    have e : h.get? a = some { cls := .none, data := .fields ps } := x
    show h'.get? a = some { cls := .none, data := .fields ps }
    exact k a _ (.inl rfl) e
  | met f y =>
    have e : h.get? a = some (PySem.W.methodObj (.ref f) (.ref y)) := x
    show h'.get? a = some (PySem.W.methodObj (.ref f) (.ref y))
    exact k a _ (.inl rfl) e
  | ext φ => obtain ⟨p, ⟨o, e⟩, st⟩ := x; exact ⟨st _ _ p fun o q => k _ _ (.inl rfl) q, ⟨o, k _ _ (.inl rfl) e⟩, st⟩
theorem HOk.lt (x : HOk P w H h) (e : H a = some o) : a < h.objs.size := (x a o e).lt
theorem HOk.fresh (x : HOk P w H h) (e : h.objs.size ≤ a) : H a = none := by
  cases q : H a with
  | none => rfl
  | some u => exact absurd (Nat.lt_of_lt_of_le (x.lt q) e) (Nat.lt_irrefl _)
theorem HOk.kept (x : HOk P w H h) (k : ∀ b u, h.get? b = some u → h'.get? b = some u) : HOk P w H h' := fun a o e =>
  (x a o e).stay (fun b u _ q => k b u q) (fun _ q => q) fun _ _ q => q
theorem HOk.laid (x : HOk P w H h) (k : ∀ b u, h.get? b = some u → h'.get? b = some u) (hp : h.objs.size ≤ a) (new : ObjOk P w (upd H a o) h' a o) : HOk P w (upd H a o) h' := fun b u e => by
  have hn := x.fresh hp
  by_cases hb : b = a
  · subst hb; rw [upd_same] at e; cases e; exact new
  · rw [upd_ne hb] at e
    exact (x b u e).stay (fun c v _ q => k c v q) (fun c q => by rw [upd_ne (ne_of_none q hn)]; exact q) fun c xs q => by rw [upd_ne (ne_of_none q hn)]; exact q
end
def Rd (H : Hp) (a : Addr) (u : HO) : Prop := H a = some u ∨ ∃ o, H a = some (.frz o u)
theorem Rd.of {H : Hp} {a : Addr} {u : HO} (h : H a = some u) : Rd H a u := .inl h
theorem Rd.ok {P : Program} {w : World} {H : Hp} {h : Heap} {a : Addr} {u : HO} (r : Rd H a u) (x : HOk P w H h) : ObjOk P w H h a u := by
  rcases r with r | ⟨o, r⟩
  · exact x a u r
  · obtain ⟨_, q⟩ := x a _ r
    exact q
def Mut : Option HO → Prop
  | some (.lst _) => True
  | some (.dK _) => True
  | some (.dT _) => True
  | some (.set _ _) => True
  | some (.ins _ _ _) => True
  | some (.ext _) => True
  | _ => False
section
variable {P : Program} {w : World} {H : Hp} {h h' : Heap} {x e : Addr} {o' : HO}
theorem HOk.write (ok : HOk P w H h) (mu : Mut (H x)) (he : e = x ∨ H e = some (.own x)) (k : ∀ b u, b ≠ e → h.get? b = some u → h'.get? b = some u) (heo : ∃ u, h'.get? e = some u)
    (new : ObjOk P w (upd H x o') h' x o') : HOk P w (upd H x o') h' := fun b u q => by
  have nown : ∀ c y, H c = some (.own y) → c ≠ x := fun c y r z => by subst z; rw [r] at mu; exact mu
  have ntup : ∀ c xs, H c = some (.tup xs) → c ≠ x := fun c xs r z => by subst z; rw [r] at mu; exact mu
  by_cases hb : b = x
  · subst hb; rw [upd_same] at q; cases q; exact new
  · rw [upd_ne hb] at q
    by_cases hbe : b = e
    · have q' : H b = some (.own x) := by
        rcases he with z | z
        · exact absurd (hbe.trans z) hb
        · rw [hbe]; exact z
      rw [q] at q'; cases q'
      obtain ⟨v, hv⟩ := heo
      exact ⟨v, by rw [hbe]; exact hv⟩
    · refine (ok b u q).stay (fun c v hc r => k c v ?_ r) (fun c r => by rw [upd_ne (nown c b r)]; exact r) fun c xs r => by rw [upd_ne (ntup c xs r)]; exact r
      rcases hc with rfl | hc
      · exact hbe
      · rintro rfl
        rcases he with z | z
        · exact nown c b hc z
        · rw [hc] at z; cases z; exact hb rfl
end
structure Un (fs ex : List Addr) (H H' : Hp) (h h' : Heap) : Prop where
  keep : ∀ b o, h.get? b = some o → H b = none → b ∉ fs → b ∉ ex → h'.get? b = some o
  slot : ∀ b o, h.get? b = some o → H b = none → b ∈ fs → b ∉ ex → ∃ sl, h'.get? b = some { o with slots := sl }
  free : ∀ b o, h.get? b = some o → H b = none → b ∉ ex → H' b = none
  there : ∀ b o, h.get? b = some o → b ∉ ex → ∃ o', h'.get? b = some o'
  tups : ∀ b xs, H b = some (.tup xs) → H' b = some (.tup xs)
  frzs : ∀ b o u, H b = some (.frz o u) → H' b = some (.frz o u)
  tbls : ∀ b ps, H b = some (.tbl ps) → ∃ more, H' b = some (.tbl (ps ++ more))
section
variable {fs fs' ex ex' : List Addr} {H H1 H2 : Hp} {h h1 h2 h' : Heap} {a x e : Addr} {o : HO}
theorem Un.any (u : Un fs ex H H1 h h1) {b : Addr} {ob : Obj} (q : h.get? b = some ob) (n : H b = none) (hx : b ∉ ex) : ∃ sl, h1.get? b = some { ob with slots := sl } := by
  by_cases hb : b ∈ fs
  · exact u.slot b ob q n hb hx
  · exact ⟨ob.slots, u.keep b ob q n hb hx⟩
theorem Un.trans (a : Un fs ex H H1 h h1) (b : Un fs ex H1 H2 h1 h2) : Un fs ex H H2 h h2 where
  keep := fun c ob q n hc hx => b.keep c ob (a.keep c ob q n hc hx) (a.free c ob q n hx) hc hx
  slot := fun c ob q n hc hx => by
    obtain ⟨sl, e1⟩ := a.slot c ob q n hc hx
    obtain ⟨sl', e2⟩ := b.slot c _ e1 (a.free c ob q n hx) hc hx
    exact ⟨sl', e2⟩
  free := fun c ob q n hx => by
    obtain ⟨o', e1⟩ := a.there c ob q hx
    exact b.free c o' e1 (a.free c ob q n hx) hx
  there := fun c ob q hx => by
    obtain ⟨o', e1⟩ := a.there c ob q hx
    exact b.there c o' e1 hx
  tups := fun c xs q => b.tups c xs (a.tups c xs q)
  frzs := fun c ob xs q => b.frzs c ob xs (a.frzs c ob xs q)
  tbls := fun c ps q => by
    obtain ⟨m1, e1⟩ := a.tbls c ps q
    obtain ⟨m2, e2⟩ := b.tbls c _ e1
    exact ⟨m1 ++ m2, by rw [e2, Array.append_assoc]⟩
theorem Un.kept (k : ∀ b u, h.get? b = some u → h'.get? b = some u) : Un fs ex H H h h' :=
  ⟨fun b ob q _ _ _ => k b ob q, fun b ob q _ _ _ => ⟨ob.slots, k b ob q⟩, fun _ _ _ n _ => n, fun b ob q _ => ⟨ob, k b ob q⟩, fun _ _ q => q, fun _ _ _ q => q, fun _ ps q => ⟨#[], by rw [q]; simp⟩⟩
theorem Un.refl : Un fs ex H H h h := Un.kept fun _ _ q => q
theorem Un.laid (k : ∀ b u, h.get? b = some u → h'.get? b = some u) (hp : h.objs.size ≤ a) (hn : H a = none) : Un fs ex H (upd H a o) h h' where
  keep := fun b u q _ _ _ => k b u q
  slot := fun b u q _ _ _ => ⟨u.slots, k b u q⟩
  free := fun b u q n _ => by rw [upd_ne (Nat.ne_of_lt (Nat.lt_of_lt_of_le (Heap.lt_size q) hp))]; exact n
  there := fun b u q _ => ⟨u, k b u q⟩
  tups := fun b xs q => by rw [upd_ne (ne_of_none q hn)]; exact q
  frzs := fun b u xs q => by rw [upd_ne (ne_of_none q hn)]; exact q
  tbls := fun b ps q => ⟨#[], by rw [upd_ne (ne_of_none q hn), q]; simp⟩
theorem Un.write (mu : Mut (H x)) (he : e = x ∨ H e = some (.own x)) (k : ∀ b u, b ≠ e → h.get? b = some u → h'.get? b = some u) (heo : ∃ u, h'.get? e = some u) : Un fs ex H (upd H x o) h h' := by
  have hx : ∀ b, H b = none → b ≠ x := fun b n z => by subst z; rw [n] at mu; exact mu
  have hb : ∀ b, H b = none → b ≠ e := fun b n z => by
    subst z
    rcases he with r | r
    · exact hx b n r
    · rw [n] at r; cases r
  have hm : ∀ b u, H b = some u → ¬ Mut (some u) → b ≠ x := fun b u q nm z => by subst z; rw [q] at mu; exact nm mu
  refine ⟨fun b u q n _ _ => k b u (hb b n) q, fun b u q n _ _ => ⟨u.slots, k b u (hb b n) q⟩, fun b u q n _ => by rw [upd_ne (hx b n)]; exact n, fun b u q _ => ?_,
    fun b xs q => by rw [upd_ne (hm b _ q fun z => z)]; exact q, fun b u xs q => by rw [upd_ne (hm b _ q fun z => z)]; exact q, fun b ps q => ⟨#[], by rw [upd_ne (hm b _ q fun z => z), q]; simp⟩⟩
  by_cases hbe : b = e
  · subst hbe; exact heo
  · exact ⟨u, k b u hbe q⟩
theorem Un.mono (u : Un fs ex H H1 h h1) (hs : ∀ b ∈ fs, b ∈ fs') (hx : ∀ b ∈ ex, b ∈ ex') : Un fs' ex' H H1 h h1 :=
  ⟨fun b ob q n hb he => u.keep b ob q n (fun z => hb (hs b z)) fun z => he (hx b z), fun _ _ q n _ he => u.any q n fun z => he (hx _ z), fun b ob q n he => u.free b ob q n fun z => he (hx b z), fun b ob q he => u.there b ob q fun z => he (hx b z), u.tups, u.frzs, u.tbls⟩
end
def trk (h : Heap) (H : Hp) : List Addr := (List.range h.objs.size).filter fun a => (H a).isSome
def hidT (h : Heap) (H : Hp) : Heap := PySem.W.hideAll h (trk h H)
theorem hidT_size (h : Heap) (H : Hp) : (hidT h H).objs.size = h.objs.size := PySem.W.hideAll_size _ _
theorem hidT_get {h : Heap} {H : Hp} {b : Addr} {o : Obj} (e : h.get? b = some o) (n : H b = none) : (hidT h H).get? b = some o :=
  PySem.W.hideAll_get _ e fun hm => by
    have q : (H b).isSome = true := (List.mem_filter.mp hm).2
    rw [n] at q; simp at q
theorem of_hidT {h : Heap} {H : Hp} {b : Addr} {o : Obj} (e : (hidT h H).get? b = some o) : h.get? b = some o ∧ H b = none := by
  have e' : h.get? b = some o := PySem.W.of_hideAll (trk h H) e
  refine ⟨e', ?_⟩
  cases q : H b with
  | none => rfl
  | some x =>
    have hm : b ∈ trk h H := List.mem_filter.mpr ⟨List.mem_range.mpr (Heap.lt_size e'), by simp [q]⟩
    have z : (hidT h H).get? b = none := PySem.W.hideAll_none (trk h H) hm
    rw [z] at e; cases e
def allNews (g h : Heap) (L : Addr) : List (Addr × Obj) := (List.range h.objs.size).filterMap fun a => if a = L ∨ (g.get? a).isSome = true then none else (h.get? a).map fun o => (a, o)
def rest (g h : Heap) (L d : Addr) : List (Addr × Obj) := (allNews g h L).filter fun p => decide (p.1 ≠ d)
end L2
namespace L2
open PySem PySem.Spec PyProof.Rows
structure Mod (K : PySem.W.Frag) (mg : Str → Option Value) (base : Heap) : Prop where
  kin : K.In base
  glob : base.Ns mainGlobals mg
  blt : ∃ mb, base.Ns builtinsNs mb ∧ ∀ x : Str, x ≠ "__name__" → mb x = bootBuiltins x
  nolimit : base.NoLimit
structure Cx where
  prog : Program
  w : World
  K : PySem.W.Frag
  mg : Str → Option Value
  base : Heap
  A : Around
  N : List Str
  s₀ : Shared
  H₀ : Hp
  env : Env
  outer : List Env
  stack : List Env
  ex : List Addr
  fn : Str → Bool
  calm : Bool
  pn : List (Addr × Obj)
  xe : Value → Shared → Prop
def frs (l : List Env) : List Addr := l.filterMap (·.frame)
abbrev Cx.fs (X : Cx) : List Addr := frs X.outer
def Vis (sc : Scope) (x : Str) : Prop := sc.names.lookup x = some .local ∨ sc.names.lookup x = some .cell ∨ sc.names.lookup x = some .free
def Loc (sc : Scope) (x : Str) : Prop := sc.names.lookup x = some .local ∨ sc.names.lookup x = some .cell
def Look (env : Env) (h : Heap) (m : Str → Option Value) (x : Str) (u : Value) : Prop :=
  (env.kindOf x = some .local ∧ m x = some u) ∨ ((env.kindOf x = some .cell ∨ env.kindOf x = some .free) ∧ ∃ c, env.cells.lookup x = some c ∧ h.IsCell c (some u))
structure Cx.Ok (X : Cx) : Prop where
  mod : Mod X.K X.mg X.base
  kind : X.env.scope.kind = .function
  glob : X.env.globals = mainGlobals
  blt : X.env.builtins = builtinsNs
  above : X.s₀.heap.objs.size ≤ X.env.locals
  inj : ∀ x y c, X.env.cells.lookup x = some c → X.env.cells.lookup y = some c → x = y
  has : ∀ x, (X.env.kindOf x = some .cell ∨ X.env.kindOf x = some .free) → ∃ c, X.env.cells.lookup x = some c
  cab : ∀ x c, X.fn x = true → X.env.cells.lookup x = some c → X.s₀.heap.objs.size ≤ c
  hd : X.calm = true → X.A.handled = none
  frames : X.A.frames = some X.stack
  stk : X.stack = X.outer ∨ (X.stack = X.env :: X.outer ∧ X.env.frame = some X.env.locals)
  exf : ∀ b ∈ X.ex, b ≠ X.env.locals ∧ ∀ x c, X.env.cells.lookup x = some c → c ≠ b
  bs : ∀ b o, X.base.get? b = some o → X.s₀.heap.get? b = some o ∧ X.H₀ b = none
  bsz : X.base.objs.size ≤ X.s₀.heap.objs.size
  noex : ∀ b o, X.base.get? b = some o → b ∉ X.ex
  exfs : ∀ b ∈ X.ex, b ∉ X.fs
  funs : X.s₀.heap.FunFrames X.base X.outer
  frf : ∀ b ∈ X.fs, X.H₀ b = none
structure Inv (X : Cx) (pins : List (Addr × Obj)) (σ : List (Option V)) (H : Hp) (s : Shared) : Prop where
  ok : X.Ok
  os : s.os = X.s₀.os
  bare : AllBare s.gens
  base : Un X.fs X.ex X.H₀ H X.s₀.heap s.heap
  loc : ∃ m, s.heap.Ns X.env.locals m ∧ ∀ (i : Nat) (x : Str) (v : V), X.N[i]? = some x → σ[i]? = some (some v) → Vis X.env.scope x → ∃ u, RelV v u ∧ Look X.env s.heap m x u
  cell : ∀ x c, X.env.cells.lookup x = some c → ∃ v, s.heap.IsCell c v
  free : H X.env.locals = none
  freeC : ∀ x c, X.env.cells.lookup x = some c → H c = none
  pin : ∀ p ∈ X.pn ++ pins, s.heap.get? p.1 = some p.2 ∧ H p.1 = none ∧ p.1 ≠ X.env.locals ∧ p.1 ∉ X.fs ∧ ∀ v, p.2.data ≠ .cell v
  hok : HOk X.prog X.w H s.heap
  len : σ.length = X.N.length
section
variable {X : Cx} {pins : List (Addr × Obj)} {σ : List (Option V)} {H H' : Hp} {s : Shared} {h' : Heap}
theorem Cx.Ok.nofr (ok : X.Ok) {b : Addr} {o : Obj} (e : X.base.get? b = some o) : b ∉ X.fs := fun hb => by
  have := (ok.funs.mem hb).1
  rw [e] at this; cases this
theorem Inv.bs (I : Inv X pins σ H s) : ∀ b o, X.base.get? b = some o → s.heap.get? b = some o ∧ H b = none := fun b o e =>
  ⟨I.base.keep b o (I.ok.bs b o e).1 (I.ok.bs b o e).2 (I.ok.nofr e) (I.ok.noex b o e), I.base.free b o (I.ok.bs b o e).1 (I.ok.bs b o e).2 (I.ok.noex b o e)⟩
theorem Inv.bk (I : Inv X pins σ H s) : ∀ b o, X.base.get? b = some o → s.heap.get? b = some o := fun b o e => (I.bs b o e).1
theorem Inv.mod (I : Inv X pins σ H s) : Mod X.K X.mg X.base := I.ok.mod
theorem Inv.kIn (I : Inv X pins σ H s) : X.K.In s.heap := I.ok.mod.kin.keeps I.bk
theorem Inv.nolimit (I : Inv X pins σ H s) : s.heap.NoLimit := I.ok.mod.nolimit.keeps I.bk
theorem Inv.fr (I : Inv X pins σ H s) : ∃ m, Fr X.base X.env.locals s.heap m :=
  let ⟨m, hn, _⟩ := I.loc
  ⟨m, hn, I.bk, Nat.le_trans I.ok.bsz I.ok.above⟩
theorem Inv.lt (I : Inv X pins σ H s) : X.env.locals < s.heap.objs.size := let ⟨_, hn, _⟩ := I.loc; hn.lt
theorem Inv.sz (I : Inv X pins σ H s) : X.s₀.heap.objs.size ≤ s.heap.objs.size := Nat.le_trans I.ok.above (Nat.le_of_lt I.lt)
theorem Inv.nofs (I : Inv X pins σ H s) {a : Addr} (h : s.heap.objs.size ≤ a) : a ∉ X.fs := fun hb => by
  obtain ⟨_, o, ho, _⟩ := I.ok.funs.mem hb
  exact absurd (Nat.lt_of_lt_of_le (Heap.lt_size ho) (Nat.le_trans I.sz h)) (Nat.lt_irrefl _)
theorem Inv.cne (I : Inv X pins σ H s) : ∀ x c, X.env.cells.lookup x = some c → c ≠ X.env.locals := fun x c e z => by
  obtain ⟨v, o, ho, hd⟩ := I.cell x c e
  obtain ⟨m, ⟨o', es, ep, ho', hd', _⟩, _⟩ := I.loc
  rw [z, ho'] at ho; cases ho; rw [hd'] at hd; cases hd
theorem Inv.funs (I : Inv X pins σ H s) : s.heap.FunFrames X.base X.outer := by
  have all : ∀ (l : List Env), (∀ b ∈ frs l, b ∈ X.fs) → X.s₀.heap.FunFrames X.base l → s.heap.FunFrames X.base l := by
    intro l
    induction l with
    | nil => intro _ _; trivial
    | cons env r ih =>
      intro hs hl
      obtain ⟨hk, ⟨L, o, hf, hn, ho, hd⟩, hr⟩ := hl
      have hL : L ∈ X.fs := hs L (by unfold frs; rw [List.filterMap_cons, hf]; exact List.mem_cons_self)
      obtain ⟨sl, e⟩ := I.base.slot L o ho (I.ok.frf L hL) hL fun z => I.ok.exfs L z hL
      exact ⟨hk, ⟨L, _, hf, hn, e, hd⟩, ih (fun b hb => hs b (by unfold frs; rw [List.filterMap_cons, hf]; exact List.mem_cons_of_mem _ hb)) hr⟩
  exact all X.outer (fun _ hb => hb) I.ok.funs
theorem Inv.stack (I : Inv X pins σ H s) : s.heap.FunFrames X.base X.stack := by
  rcases I.ok.stk with e | ⟨e, hf⟩
  · rw [e]; exact I.funs
  · rw [e]
    obtain ⟨m, hn, _⟩ := I.loc
    refine .cons (by rw [I.ok.kind]; decide) hf hn ?_ I.funs
    exact Heap.get?_none_of_le (Nat.le_trans I.ok.bsz I.ok.above)
theorem Inv.stkSub (I : Inv X pins σ H s) : ∀ b ∈ frs X.stack, b ∈ X.env.locals :: X.fs := fun b hb => by
  rcases I.ok.stk with e | ⟨e, hf⟩
  · rw [e] at hb; exact List.mem_cons_of_mem _ hb
  · rw [e] at hb
    unfold frs at hb
    rw [List.filterMap_cons, hf] at hb
    exact hb
theorem Inv.stkFree (I : Inv X pins σ H s) : ∀ b ∈ frs X.stack, H b = none := fun b hb => by
  rcases List.mem_cons.mp (I.stkSub b hb) with e | hb
  · rw [e]; exact I.free
  · obtain ⟨_, o, ho, _⟩ := I.ok.funs.mem hb
    exact I.base.free b o ho (I.ok.frf b hb) fun z => I.ok.exfs b z hb
theorem Inv.step {g' : Array GenState} {t' : Nat} {d' : Drawn} {ch : List Addr} (I : Inv X pins σ H s)
    (hch : ∀ b ∈ ch, (b ∈ X.ex ∨ X.s₀.heap.objs.size ≤ b) ∧ b ≠ X.env.locals ∧ (∀ x c, X.env.cells.lookup x = some c → c ≠ b) ∧ ∀ p ∈ X.pn ++ pins, p.1 ≠ b)
    (keep : ∀ b o, b ≠ X.env.locals → b ∉ X.fs → b ∉ ch → s.heap.get? b = some o → H b = none → h'.get? b = some o)
    (slot : ∀ b o, b ≠ X.env.locals → b ∈ X.fs → b ∉ ch → s.heap.get? b = some o → H b = none → ∃ sl, h'.get? b = some { o with slots := sl }) (free : ∀ b o, b ∉ ch → s.heap.get? b = some o → H b = none → H' b = none)
    (there : ∀ b o, b ∉ ch → s.heap.get? b = some o → ∃ o', h'.get? b = some o')
    (tups : ∀ b xs, H b = some (.tup xs) → H' b = some (.tup xs)) (frzs : ∀ b o u, H b = some (.frz o u) → H' b = some (.frz o u)) (tbls : ∀ b ps, H b = some (.tbl ps) → ∃ more, H' b = some (.tbl (ps ++ more)))
    (ns : ∀ m, s.heap.Ns X.env.locals m → h'.Ns X.env.locals m) (hok : HOk X.prog X.w H' h') (hg : AllBare g') :
    Inv X pins σ H' { s with heap := h', gens := g', drawn := d', toks := t' } := by
  have neL : ∀ b o, X.s₀.heap.get? b = some o → b ≠ X.env.locals := fun b o e => Nat.ne_of_lt (Nat.lt_of_lt_of_le (Heap.lt_size e) I.ok.above)
  have neC : ∀ b o, X.s₀.heap.get? b = some o → b ∉ X.ex → b ∉ ch := fun b o e hx hb => by
    rcases (hch b hb).1 with z | z
    · exact hx z
    · exact absurd (Nat.lt_of_lt_of_le (Heap.lt_size e) z) (Nat.lt_irrefl _)
  have cellK : ∀ x c, X.env.cells.lookup x = some c → ∀ v, s.heap.IsCell c v → h'.IsCell c v := fun x c e v ⟨o, ho, hd⟩ => by
    have nch : c ∉ ch := fun z => (hch c z).2.2.1 x c e rfl
    by_cases hc : c ∈ X.fs
    · obtain ⟨sl, q⟩ := slot c o (I.cne x c e) hc nch ho (I.freeC x c e)
      exact ⟨_, q, hd⟩
    · exact ⟨o, keep c o (I.cne x c e) hc nch ho (I.freeC x c e), hd⟩
  refine ⟨I.ok, I.os, hg, ⟨fun b o e n hb hx => ?_, fun b o e n hb hx => ?_, fun b o e n hx => ?_, fun b o e hx => ?_, fun b xs e => tups b xs (I.base.tups b xs e), fun b o xs e => frzs b o xs (I.base.frzs b o xs e), fun b ps e => ?_⟩, ?_, fun x c e => ?_, ?_, fun x c e => ?_, fun p hp => ?_, hok, I.len⟩
  · exact keep b o (neL b o e) hb (neC b o e hx) (I.base.keep b o e n hb hx) (I.base.free b o e n hx)
  · obtain ⟨sl, e1⟩ := I.base.slot b o e n hb hx
    obtain ⟨sl', e2⟩ := slot b _ (neL b o e) hb (neC b o e hx) e1 (I.base.free b o e n hx)
    exact ⟨sl', e2⟩
  · obtain ⟨o', e1⟩ := I.base.there b o e hx
    exact free b o' (neC b o e hx) e1 (I.base.free b o e n hx)
  · obtain ⟨o', e1⟩ := I.base.there b o e hx
    exact there b o' (neC b o e hx) e1
  · obtain ⟨m1, e1⟩ := I.base.tbls b ps e
    obtain ⟨m2, e2⟩ := tbls b _ e1
    exact ⟨m1 ++ m2, by rw [e2, Array.append_assoc]⟩
  · obtain ⟨m, hn, hl⟩ := I.loc
    refine ⟨m, ns m hn, fun i x v e1 e2 e3 => ?_⟩
    obtain ⟨u, r, l⟩ := hl i x v e1 e2 e3
    refine ⟨u, r, ?_⟩
    rcases l with l | ⟨k, c, e, z⟩
    · exact .inl l
    · exact .inr ⟨k, c, e, cellK x c e _ z⟩
  · obtain ⟨v, z⟩ := I.cell x c e
    exact ⟨v, cellK x c e v z⟩
  · obtain ⟨m, ⟨o, _, _, ho, _⟩, _⟩ := I.loc
    exact free _ o (fun z => (hch _ z).2.1 rfl) ho I.free
  · obtain ⟨v, o, ho, hd⟩ := I.cell x c e
    exact free c o (fun z => (hch c z).2.2.1 x c e rfl) ho (I.freeC x c e)
  · obtain ⟨e, n, ne, nf, d⟩ := I.pin p hp
    have nch : p.1 ∉ ch := fun z => (hch p.1 z).2.2.2 p hp rfl
    exact ⟨keep p.1 p.2 ne nf nch e n, free p.1 p.2 nch e n, ne, nf, d⟩
theorem Inv.un {t' : Nat} (I : Inv X pins σ H s) (u : Un X.fs [] H H' s.heap h') (hok : HOk X.prog X.w H' h') : Inv X pins σ H' { s with heap := h', toks := t' } := by
  obtain ⟨m, ⟨o, es, ep, ho, r⟩, _⟩ := id I.loc
  obtain ⟨sl, hL⟩ := u.any ho I.free (by simp)
  exact I.step (g' := s.gens) (d' := s.drawn) (ch := []) (fun _ z => nomatch z) (fun b o _ hb _ e n => u.keep b o e n hb (by simp)) (fun b o _ hb _ e n => u.slot b o e n hb (by simp)) (fun b o _ e n => u.free b o e n (by simp)) (fun b o _ e => u.there b o e (by simp)) u.tups u.frzs u.tbls (fun m' hm => by
    obtain ⟨o', es', ep', ho', r'⟩ := hm
    rw [ho] at ho'; cases ho'
    exact ⟨_, es', ep', hL, r'⟩) hok I.bare
theorem Inv.call {g' : Array GenState} {t' : Nat} {d' : Drawn} {ch : List Addr} (I : Inv X pins σ H s) (u : Un (frs X.stack) ch H H' s.heap h') (hok : HOk X.prog X.w H' h') (hg : AllBare g')
    (hch : ∀ b ∈ ch, (b ∈ X.ex ∨ X.s₀.heap.objs.size ≤ b) ∧ b ≠ X.env.locals ∧ (∀ x c, X.env.cells.lookup x = some c → c ≠ b) ∧ ∀ p ∈ X.pn ++ pins, p.1 ≠ b) :
    Inv X pins σ H' { s with heap := h', gens := g', drawn := d', toks := t' } := by
  obtain ⟨m, ⟨o, es, ep, ho, r⟩, _⟩ := id I.loc
  obtain ⟨sl, hL⟩ := u.any ho I.free fun z => (hch _ z).2.1 rfl
  exact I.step (ch := ch) hch (fun b o hL hb hc e n => u.keep b o e n (fun z => (List.mem_cons.mp (I.stkSub b z)).elim hL hb) hc) (fun b o _ _ hc e n => u.any e n hc) (fun b o hc e n => u.free b o e n hc) (fun b o hc e => u.there b o e hc) u.tups u.frzs u.tbls (fun m' hm => by
    obtain ⟨o', es', ep', ho', r'⟩ := hm
    rw [ho] at ho'; cases ho'
    exact ⟨_, es', ep', hL, r'⟩) hok hg
theorem Inv.turned {t' : Nat} {it : Addr} (I : Inv X pins σ H s) (k : ∀ b o, b ≠ it → s.heap.get? b = some o → h'.get? b = some o) (hn : H it = none) (hL : it ≠ X.env.locals)
    (h1 : it ∈ X.ex ∨ X.s₀.heap.objs.size ≤ it) (h2 : ∀ x c, X.env.cells.lookup x = some c → c ≠ it) (h3 : ∀ p ∈ X.pn ++ pins, p.1 ≠ it) : Inv X pins σ H { s with heap := h', toks := t' } := by
  have nit : ∀ b u, H b = some u → b ≠ it := fun b u e z => by rw [z, hn] at e; cases e
  refine I.step (g' := s.gens) (d' := s.drawn) (ch := [it]) (fun b hb => ?_) (fun b o _ _ hc e _ => k b o (fun z => hc (by simp [z])) e) (fun b o _ _ hc e _ => ⟨o.slots, k b o (fun z => hc (by simp [z])) e⟩) (fun _ _ _ _ n => n)
    (fun b o hc e => ⟨o, k b o (fun z => hc (by simp [z])) e⟩) (fun _ _ e => e) (fun _ _ _ e => e) (fun b ps e => ⟨#[], by rw [e]; simp⟩) (fun m hm => ?_) (fun b u e => ?_) I.bare
  · have e : b = it := by simpa using hb
    subst e
    exact ⟨h1, hL, h2, h3⟩
  · obtain ⟨o, es, ep, ho, r⟩ := hm
    exact ⟨o, es, ep, k _ o (Ne.symm hL) ho, r⟩
  · refine (I.hok b u e).stay (fun c v hc q => k c v ?_ q) (fun _ q => q) fun _ _ q => q
    rcases hc with z | z
    · rw [z]; exact nit b u e
    · exact nit c _ z
theorem Inv.tok (I : Inv X pins σ H s) (t : Nat) : Inv X pins σ H { s with toks := t } := I.un (h' := s.heap) (t' := t) Un.refl I.hok
theorem Inv.kept {t' : Nat} (I : Inv X pins σ H s) (k : ∀ b u, s.heap.get? b = some u → h'.get? b = some u) : Inv X pins σ H { s with heap := h', toks := t' } := I.un (Un.kept k) (I.hok.kept k)
theorem Inv.laid {a : Addr} {o : HO} {t' : Nat} (I : Inv X pins σ H s) (k : ∀ b u, s.heap.get? b = some u → h'.get? b = some u) (hp : s.heap.objs.size ≤ a) (new : ObjOk X.prog X.w (upd H a o) h' a o) :
    Inv X pins σ (upd H a o) { s with heap := h', toks := t' } := I.un (Un.laid k hp (I.hok.fresh hp)) (I.hok.laid k hp new)
theorem Inv.write {x e : Addr} {o : HO} {t' : Nat} (I : Inv X pins σ H s) (mu : Mut (H x)) (he : e = x ∨ H e = some (.own x)) (k : ∀ b u, b ≠ e → s.heap.get? b = some u → h'.get? b = some u) (heo : ∃ u, h'.get? e = some u)
    (new : ObjOk X.prog X.w (upd H x o) h' x o) : Inv X pins σ (upd H x o) { s with heap := h', toks := t' } := I.un (Un.write mu he k heo) (I.hok.write mu he k heo new)
theorem Inv.pins_of {pins' : List (Addr × Obj)} (I : Inv X pins σ H s) (h : ∀ p ∈ pins', s.heap.get? p.1 = some p.2 ∧ H p.1 = none ∧ p.1 ≠ X.env.locals ∧ p.1 ∉ X.fs ∧ ∀ v, p.2.data ≠ .cell v) : Inv X pins' σ H s :=
  ⟨I.ok, I.os, I.bare, I.base, I.loc, I.cell, I.free, I.freeC, fun p hp => (List.mem_append.mp hp).elim (fun z => I.pin p (List.mem_append_left _ z)) (h p), I.hok, I.len⟩
theorem nodup_ix {N : List Str} (hN : N.Nodup) {i j : Nat} {x : Str} (a : N[i]? = some x) (b : N[j]? = some x) : i = j := by
  obtain ⟨h1, e1⟩ := List.getElem?_eq_some_iff.mp a
  obtain ⟨h2, e2⟩ := List.getElem?_eq_some_iff.mp b
  exact (List.getElem_inj hN).mp (e1.trans e2.symm)
theorem store_ok2 {M : Model} {A : Around} {E : Value → Shared → Prop} {i : Nat} {x : Str} {v : V} {u : Value} {Q : Unit → Shared → Prop} (I : Inv X pins σ H s) (hN : X.N.Nodup) (hi : X.N[i]? = some x) (hx : Loc X.env.scope x) (r : RelV v u)
    (h : ∀ s', Inv X pins (σ.set i (some v)) H s' → (∃ a, Heap.SameBut a s.heap s'.heap ∧ (a = X.env.locals ∨ X.env.cells.lookup x = some a)) → Q () s') (hf : X.fn x = true ∨ X.env.scope.names.lookup x = some .local := by first | exact .inl rfl | exact .inr rfl | assumption) : wpAny M A (storeName X.env x u) Q E s := by
  obtain ⟨m, hn, hl⟩ := id I.loc
  have hcls : (X.env.scope.kind == .class || (X.env.scope.kind == .module && X.env.locals != X.env.globals)) = false := by rw [I.ok.kind]; rfl
  have hiσ : i < σ.length := by rw [I.len]; exact (List.getElem?_eq_some_iff.mp hi).1
  have cne := I.cne
  have tracked : ∀ {a : Addr} {h' : Heap}, (∃ o, s.heap.get? a = some o ∧ H a = none) → Heap.SameBut a s.heap h' → HOk X.prog X.w H h' := fun {a h'} ha hs b ob e => by
    obtain ⟨_, _, hfree⟩ := ha
    refine (I.hok b ob e).stay (fun c w' hc q => (hs.2 c ?_).trans q) (fun _ q => q) fun _ _ q => q
    rintro rfl
    rcases hc with rfl | hc
    · rw [hfree] at e; cases e
    · rw [hfree] at hc; cases hc
  rcases hx with hk | hk
  · refine wpAny_storeName_local hk hn (fun h' hn' hs => ?_) hcls
    obtain ⟨oL, _, _, hoL, _⟩ := id hn
    refine h _ ⟨I.ok, I.os, I.bare, ⟨fun b o e n hb hx => ?_, fun b o e n hb hx => ?_, I.base.free, fun b o e hx => ?_, I.base.tups, I.base.frzs, I.base.tbls⟩, ⟨_, hn', fun j y v' e1 e2 e3 => ?_⟩, fun y c e => ?_, I.free, I.freeC, fun p hp => ?_, tracked ⟨oL, hoL, I.free⟩ hs, by simpa using I.len⟩ ⟨_, hs, .inl rfl⟩
    · exact (hs.2 b (Nat.ne_of_lt (Nat.lt_of_lt_of_le (Heap.lt_size e) I.ok.above))).trans (I.base.keep b o e n hb hx)
    · obtain ⟨sl, e1⟩ := I.base.slot b o e n hb hx
      exact ⟨sl, (hs.2 b (Nat.ne_of_lt (Nat.lt_of_lt_of_le (Heap.lt_size e) I.ok.above))).trans e1⟩
    · obtain ⟨o', e1⟩ := I.base.there b o e hx
      exact ⟨o', (hs.2 b (Nat.ne_of_lt (Nat.lt_of_lt_of_le (Heap.lt_size e) I.ok.above))).trans e1⟩
    · by_cases hj : j = i
      · subst hj
        rw [hi] at e1; cases e1
        rw [List.getElem?_set_self hiσ] at e2
        cases e2
        exact ⟨u, r, .inl ⟨hk, by simp⟩⟩
      · rw [List.getElem?_set_ne (Ne.symm hj)] at e2
        obtain ⟨u', r', q⟩ := hl j y v' e1 e2 e3
        refine ⟨u', r', ?_⟩
        rcases q with ⟨k, e⟩ | ⟨k, c, e, z⟩
        · refine .inl ⟨k, ?_⟩
          have : y ≠ x := fun e => hj (nodup_ix hN e1 (e ▸ hi))
          simp [this, e]
        · exact .inr ⟨k, c, e, z.sameBut hs (cne y c e)⟩
    · obtain ⟨w', z⟩ := I.cell y c e
      exact ⟨w', z.sameBut hs (cne y c e)⟩
    · obtain ⟨e, n, ne, nf, d⟩ := I.pin p hp
      exact ⟨(hs.2 p.1 ne).trans e, n, ne, nf, d⟩
  · have hfn : X.fn x = true := by
      rcases hf with z | z
      · exact z
      · rw [z] at hk; cases hk
    obtain ⟨c, hc⟩ := I.ok.has x (.inl hk)
    obtain ⟨w', z⟩ := I.cell x c hc
    refine wpAny_storeName_cell I.ok.kind hk hc z (fun h' hc' hs => ?_)
    obtain ⟨oc, hoc, hocd⟩ := id z
    refine h { s with heap := h' } ⟨I.ok, I.os, I.bare, ⟨fun b o e n hb hx => ?_, fun b o e n hb hx => ?_, I.base.free, fun b o e hx => ?_, I.base.tups, I.base.frzs, I.base.tbls⟩, ⟨m, hn.sameBut hs (Ne.symm (cne x c hc)), fun j y v' e1 e2 e3 => ?_⟩, fun y c' e => ?_, I.free, I.freeC, fun p hp => ?_, tracked ⟨oc, hoc, I.freeC x c hc⟩ hs, by simpa using I.len⟩ ⟨c, hs, .inr hc⟩
    · exact (hs.2 b (Nat.ne_of_lt (Nat.lt_of_lt_of_le (Heap.lt_size e) (I.ok.cab x c hfn hc)))).trans (I.base.keep b o e n hb hx)
    · obtain ⟨sl, e1⟩ := I.base.slot b o e n hb hx
      exact ⟨sl, (hs.2 b (Nat.ne_of_lt (Nat.lt_of_lt_of_le (Heap.lt_size e) (I.ok.cab x c hfn hc)))).trans e1⟩
    · obtain ⟨o', e1⟩ := I.base.there b o e hx
      exact ⟨o', (hs.2 b (Nat.ne_of_lt (Nat.lt_of_lt_of_le (Heap.lt_size e) (I.ok.cab x c hfn hc)))).trans e1⟩
    · by_cases hj : j = i
      · subst hj
        rw [hi] at e1; cases e1
        rw [List.getElem?_set_self hiσ] at e2
        cases e2
        exact ⟨u, r, .inr ⟨.inl hk, c, hc, hc'⟩⟩
      · rw [List.getElem?_set_ne (Ne.symm hj)] at e2
        obtain ⟨u', r', q⟩ := hl j y v' e1 e2 e3
        refine ⟨u', r', ?_⟩
        rcases q with q | ⟨k, c', e, z'⟩
        · exact .inl q
        · refine .inr ⟨k, c', e, z'.sameBut hs ?_⟩
          rintro rfl
          exact hj (nodup_ix hN e1 (I.ok.inj _ _ _ e hc ▸ hi))
    · by_cases hcc : c' = c
      · subst hcc; exact ⟨_, hc'⟩
      · obtain ⟨w2, z2⟩ := I.cell y c' e
        exact ⟨w2, z2.sameBut hs hcc⟩
    · obtain ⟨e, n, ne, nf, d⟩ := I.pin p hp
      refine ⟨(hs.2 p.1 ?_).trans e, n, ne, nf, d⟩
      intro q
      rw [q, hoc] at e
      have q' : oc = p.2 := Option.some.inj e
      exact d w' (by rw [← q']; exact hocd)
theorem store_ok {M : Model} {A : Around} {E : Value → Shared → Prop} {i : Nat} {x : Str} {v : V} {u : Value} {Q : Unit → Shared → Prop} (I : Inv X pins σ H s) (hN : X.N.Nodup) (hi : X.N[i]? = some x) (hx : Loc X.env.scope x) (r : RelV v u)
    (h : ∀ s', Inv X pins (σ.set i (some v)) H s' → Q () s') (hf : X.fn x = true ∨ X.env.scope.names.lookup x = some .local := by first | exact .inl rfl | exact .inr rfl | assumption) : wpAny M A (storeName X.env x u) Q E s :=
  store_ok2 I hN hi hx r (fun s' I' _ => h s' I') hf
end
abbrev XK := Value → Option Addr → Hp → Prop
abbrev St := List (Option V)
abbrev VK := V → Hp → Prop
abbrev TE := St → Hp → VK → Prop
abbrev TT := St → Hp → (Bool → Hp → Prop) → Prop
abbrev TA := St → Hp → (List V → Hp → Prop) → Prop
structure Ends where
  nx : St → Hp → Prop
  rt : VK
  bk : St → Hp → Prop := fun _ _ => False
  ct : St → Hp → Prop := fun _ _ => False
abbrev TS := Ends → St → Hp → Prop
def EP (X : Cx) (pins : List (Addr × Obj)) (σ : St) (Q : VK) (u : Value) (s' : Shared) : Prop := ∃ v H', Inv X pins σ H' s' ∧ RelV v u ∧ Q v H'
def TP (X : Cx) (pins : List (Addr × Obj)) (σ : St) (Q : Bool → Hp → Prop) (b : Bool) (s' : Shared) : Prop := ∃ H', Inv X pins σ H' s' ∧ Q b H'
def AP (X : Cx) (pins : List (Addr × Obj)) (σ : St) (Q : List V → Hp → Prop) (us : List Value) (s' : Shared) : Prop := ∃ vs H', Inv X pins σ H' s' ∧ Vals vs us ∧ Q vs H'
def SP (X : Cx) (pins : List (Addr × Obj)) (D : Ends) (f : Flow) (s' : Shared) : Prop :=
  match f with
  | .next => ∃ σ' H', Inv X pins σ' H' s' ∧ D.nx σ' H'
  | .brk => ∃ σ' H', Inv X pins σ' H' s' ∧ D.bk σ' H'
  | .cont => ∃ σ' H', Inv X pins σ' H' s' ∧ D.ct σ' H'
  | .ret u => ∃ v σ' H', Inv X pins σ' H' s' ∧ RelV v u ∧ D.rt v H'
def PE (X : Cx) (e : Expr) (t : TE) : Prop :=
  ∀ (pins : List (Addr × Obj)) (s : Shared) (σ : St) (H : Hp) (Q : VK), Inv X pins σ H s → t σ H Q → wpAny (model X.prog X.w) X.A (eval e X.env) (EP X pins σ Q) X.xe s
def PT (X : Cx) (e : Expr) (t : TT) : Prop :=
  ∀ (pins : List (Addr × Obj)) (s : Shared) (σ : St) (H : Hp) (Q : Bool → Hp → Prop), Inv X pins σ H s → t σ H Q → wpAny (model X.prog X.w) X.A (isTrue e X.env (eval e X.env)) (TP X pins σ Q) X.xe s
def PW (X : Cx) (e : Expr) (t : TT) : Prop :=
  ∀ (whole : Sem Value) (pins : List (Addr × Obj)) (s : Shared) (σ : St) (H : Hp) (Q : Bool → Hp → Prop), Inv X pins σ H s → t σ H Q → wpAny (model X.prog X.w) X.A (isTrue e X.env whole) (TP X pins σ Q) X.xe s
theorem PW.pt {X : Cx} {e : Expr} {t : TT} (h : PW X e t) : PT X e t := h _
def PA (X : Cx) (es : List Expr) (t : TA) : Prop :=
  ∀ (pos : Pos) (pins : List (Addr × Obj)) (s : Shared) (σ : St) (H : Hp) (Q : List V → Hp → Prop), Inv X pins σ H s → t σ H Q → wpAny (model X.prog X.w) X.A (spliced (backTo pos (starEach es X.env))) (AP X pins σ Q) X.xe s
def PS (X : Cx) (st : Stmt) (t : TS) : Prop :=
  ∀ (pins : List (Addr × Obj)) (s : Shared) (σ : St) (H : Hp) (D : Ends), Inv X pins σ H s → t D σ H → wpAny (model X.prog X.w) X.A (exec st X.env) (SP X pins D) X.xe s
def PSs (X : Cx) (st : List Stmt) (t : TS) : Prop :=
  ∀ (pins : List (Addr × Obj)) (s : Shared) (σ : St) (H : Hp) (D : Ends), Inv X pins σ H s → t D σ H → wpAny (model X.prog X.w) X.A (execs st X.env) (SP X pins D) X.xe s
theorem thn {α : Type} {t : Sem α} {Q Q' : α → Shared → Prop} {M : Model} {A : Around} {E : Value → Shared → Prop} {s : Shared} (h : wpAny M A t Q E s) (hQ : ∀ a s, Q a s → Q' a s) : wpAny M A t Q' E s := wpAny_mono h hQ fun _ _ x => x
end L2
namespace L2
open PySem PySem.Spec PyProof.Rows
section
variable {X : Cx}
def tVar (i : Nat) : TE := fun σ H Q => ∃ v, σ[i]? = some (some v) ∧ Q v H
def tC (v : V) : TE := fun _ H Q => Q v H
theorem pe_var {i : Nat} {x : Str} {pos : Pos} (hN : X.N[i]? = some x) (hv : Vis X.env.scope x) (hd : (x == ("__debug__" : Str)) = false := by decide) (hcd : (x == ("__classdict__" : Str)) = false := by decide) : PE X (.Name x pos) (tVar i) := by
  intro pins s σ H Q I h
  obtain ⟨v, e, h⟩ := h
  obtain ⟨m, hn, hl⟩ := I.loc
  obtain ⟨u, r, l⟩ := hl i x v hN e hv
  have fin : EP X pins σ Q u s := ⟨v, H, I, r, h⟩
  rcases l with ⟨hk, hm⟩ | ⟨hk, c, hc, hcell⟩
  · exact wpAny_Name (wpAny_loadName_local I.ok.kind hk hn hm fin) hd
  · rcases hk with hk | hk
    · exact wpAny_Name (wpAny_loadName_cell I.ok.kind hk hc hcell fin) hd
    · exact wpAny_Name (wpAny_loadName_free I.ok.kind hk hc hcell fin hcd) hd
theorem pe_int {i j pos} : PE X (.Constant (.int i) j pos) (tC (.int i)) := fun _ _ _ H _ I h => wpAny_Constant_int ⟨.int i, H, I.tok _, ⟨_, rfl⟩, h⟩
theorem pe_bl {b j pos} : PE X (.Constant (.bool b) j pos) (tC (.bl b)) := fun _ _ _ H _ I h => Constant_bool ⟨.bl b, H, I, rfl, h⟩
def Gl (X : Cx) (x : Str) : Prop := X.env.kindOf x = some .globalImplicit
theorem ld_glob {E : Value → Shared → Prop} {pins : List (Addr × Obj)} {s : Shared} {σ : St} {H : Hp} {x : Str} {u : Value} {pos : Pos} {Q : Value → Shared → Prop} (I : Inv X pins σ H s) (hg : Gl X x) (hm : X.mg x = some u) (h : Q u s)
    (hd : (x == ("__debug__" : Str)) = false := by decide) : wpAny (model X.prog X.w) X.A (eval (.Name x pos) X.env) Q E s :=
  Calls.Name_function_global I.ok.kind hg (Calls.loadGlobal_global (by rw [I.ok.glob]; exact I.mod.glob.keeps I.bk) hm h) hd
theorem ld_blt {E : Value → Shared → Prop} {pins : List (Addr × Obj)} {s : Shared} {σ : St} {H : Hp} {x : Str} {u : Value} {pos : Pos} {Q : Value → Shared → Prop} (I : Inv X pins σ H s) (hg : Gl X x) (hm : X.mg x = none) (hv : bootBuiltins x = some u) (h : Q u s)
    (hn : x ≠ "__name__" := by decide) (hd : (x == ("__debug__" : Str)) = false := by decide) : wpAny (model X.prog X.w) X.A (eval (.Name x pos) X.env) Q E s := by
  obtain ⟨mb, h1, h2⟩ := I.mod.blt
  exact Calls.Name_function_global I.ok.kind hg (Calls.loadGlobal_builtin (by rw [I.ok.glob]; exact I.mod.glob.keeps I.bk) hm (by rw [I.ok.blt]; exact h1.keeps I.bk) ((h2 x hn).trans hv) h) hd
theorem pe_glob {x : Str} {v : V} {u : Value} {pos : Pos} (hg : Gl X x) (hm : X.mg x = some u) (r : RelV v u) (hd : (x == ("__debug__" : Str)) = false := by decide) : PE X (.Name x pos) (tC v) :=
  fun _ _ _ H _ I h => ld_glob I hg hm ⟨v, H, I, r, h⟩ hd
theorem pe_bltn {x : Str} {v : V} {u : Value} {pos : Pos} (hg : Gl X x) (hm : X.mg x = none) (hv : bootBuiltins x = some u) (r : RelV v u) (hn : x ≠ "__name__" := by decide) (hd : (x == ("__debug__" : Str)) = false := by decide) : PE X (.Name x pos) (tC v) :=
  fun _ _ _ H _ I h => ld_blt I hg hm hv ⟨v, H, I, r, h⟩ hn hd
variable {a b : Expr} {ta tb : TE} {pos : Pos}
def tB (t : TE) : TT := fun σ H Q => t σ H fun x H1 => ∃ c, x = .bl c ∧ Q c H1
theorem pt_val {e : Expr} {t : TE} (h : PE X e t) (he : ∀ whole, isTrue e X.env whole = (do let v ← whole; standAt e.pos; holding [v] (truthy v)) := by intro _; rfl) : PT X e (tB t) := by
  intro pins s σ H Q I hw
  refine isTrue_plain (thn (h pins s σ H _ I hw) fun v s1 ⟨x, H1, I1, r1, q1⟩ => ?_) (he _)
  obtain ⟨d, rfl, q⟩ := q1
  cases r1
  exact wpAny_truthy_bool ⟨H1, I1, q⟩
variable {tA tB' : TT} {rest : List Expr}
def tAnd (t u : TT) : TT := fun σ H Q => t σ H fun c H1 => if c = true then u σ H1 Q else Q false H1
def tOr (t u : TT) : TT := fun σ H Q => t σ H fun c H1 => if c = true then Q true H1 else u σ H1 Q
def tNot (t : TT) : TT := fun σ H Q => t σ H fun c H1 => Q (!c) H1
theorem pw_and1 (ha : PT X a tA) : PW X (.BoolOp .And [a] pos) tA := by
  intro wh pins s σ H Q I h
  refine isTrue_and (thn (ha pins s σ H Q I h) fun c s1 e => ?_)
  cases c with
  | true => exact isTrue_and_nil e
  | false => exact e
theorem pw_or1 (ha : PT X a tA) : PW X (.BoolOp .Or [a] pos) tA := by
  intro wh pins s σ H Q I h
  refine isTrue_or (thn (ha pins s σ H Q I h) fun c s1 e => ?_)
  cases c with
  | false => exact isTrue_or_nil e
  | true => exact e
theorem pw_and (ha : PT X a tA) (hb : PW X (.BoolOp .And (b :: rest) pos) tB') : PW X (.BoolOp .And (a :: b :: rest) pos) (tAnd tA tB') := by
  intro wh pins s σ H Q I h
  refine isTrue_and (thn (ha pins s σ H _ I h) fun c s1 ⟨H1, I1, q1⟩ => ?_)
  cases c with
  | true => exact hb wh pins s1 σ H1 Q I1 q1
  | false => exact ⟨H1, I1, q1⟩
theorem pw_or (ha : PT X a tA) (hb : PW X (.BoolOp .Or (b :: rest) pos) tB') : PW X (.BoolOp .Or (a :: b :: rest) pos) (tOr tA tB') := by
  intro wh pins s σ H Q I h
  refine isTrue_or (thn (ha pins s σ H _ I h) fun c s1 ⟨H1, I1, q1⟩ => ?_)
  cases c with
  | true => exact ⟨H1, I1, q1⟩
  | false => exact hb wh pins s1 σ H1 Q I1 q1
theorem pt_not (ha : PT X a tA) : PT X (.UnaryOp .Not a pos) (tNot tA) := by
  intro pins s σ H Q I h
  exact isTrue_not (ha pins s σ H (fun c H1 => Q (!c) H1) I h)
def tAndV (ta tb : TE) : TE := fun σ H Q => ta σ H fun x H1 => ∃ c, x = .bl c ∧ if c = true then tb σ H1 Q else Q (.bl false) H1
def tOrV (ta tb : TE) : TE := fun σ H Q => ta σ H fun x H1 => ∃ c, x = .bl c ∧ if c = true then Q (.bl true) H1 else tb σ H1 Q
def tNotV (ta : TE) : TE := fun σ H Q => ta σ H fun x H1 => ∃ c, x = .bl c ∧ Q (.bl (!c)) H1
theorem pe_one {op} {t : TE} (h : PE X a t) : PE X (.BoolOp op [a] pos) t := fun pins s σ H Q I hw => BoolOp_one (h pins s σ H Q I hw)
theorem pe_and (ha : PE X a ta) (hb : PE X (.BoolOp .And (b :: rest) pos) tb) : PE X (.BoolOp .And (a :: b :: rest) pos) (tAndV ta tb) := by
  intro pins s σ H Q I h
  refine BoolOp_and (thn (ha pins s σ H _ I h) fun v s1 ⟨x, H1, I1, r1, q1⟩ => ?_)
  obtain ⟨c, rfl, q1⟩ := q1
  cases r1
  refine wpAny_truthy_bool ?_
  cases c with
  | true => exact hb pins s1 σ H1 Q I1 q1
  | false => exact ⟨.bl false, H1, I1, rfl, q1⟩
theorem pe_or (ha : PE X a ta) (hb : PE X (.BoolOp .Or (b :: rest) pos) tb) : PE X (.BoolOp .Or (a :: b :: rest) pos) (tOrV ta tb) := by
  intro pins s σ H Q I h
  refine BoolOp_or (thn (ha pins s σ H _ I h) fun v s1 ⟨x, H1, I1, r1, q1⟩ => ?_)
  obtain ⟨c, rfl, q1⟩ := q1
  cases r1
  refine wpAny_truthy_bool ?_
  cases c with
  | false => exact hb pins s1 σ H1 Q I1 q1
  | true => exact ⟨.bl true, H1, I1, rfl, q1⟩
theorem pe_not (ha : PE X a ta) : PE X (.UnaryOp .Not a pos) (tNotV ta) := by
  intro pins s σ H Q I h
  refine UnaryOp_ (thn (ha pins s σ H _ I h) fun v s1 ⟨x, H1, I1, r1, q1⟩ => ?_)
  obtain ⟨c, rfl, q1⟩ := q1
  cases r1
  exact not_of (wpAny_truthy_bool ⟨.bl (!c), H1, I1, rfl, q1⟩)
def tIf (t : TT) (ta tb : TE) : TE := fun σ H Q => t σ H fun c H1 => if c = true then ta σ H1 Q else tb σ H1 Q
theorem pe_ifExp {c : Expr} (hc : PT X c tA) (ha : PE X a ta) (hb : PE X b tb) : PE X (.IfExp c a b pos) (tIf tA ta tb) := by
  intro pins s σ H Q I h
  refine wpAny_IfExp (thn (hc pins s σ H _ I h) fun d s1 ⟨H1, I1, q1⟩ => ?_)
  cases d with
  | true => exact ha pins s1 σ H1 Q I1 q1
  | false => exact hb pins s1 σ H1 Q I1 q1
end
end L2
namespace L2
open PySem PySem.Spec PyProof.Rows
def SqL (K : PySem.W.Frag) (H : Hp) (a : Addr) (xs : List V) : Prop :=
  Rd H a (.lst xs) ∨
    ∃ (o : Obj) (its : Array Value) (n : Nat), K.lookup a = some o ∧ o.cls = .type "list" ∧ o.dict = none ∧ o.data = .seq its n ∧ its.size ≤ sizeLine ∧ Vals xs its.toList
def SqT (K : PySem.W.Frag) (H : Hp) (a : Addr) (xs : List V) : Prop :=
  Rd H a (.tup xs) ∨
    ∃ (o : Obj) (its : Array Value) (n : Nat), K.lookup a = some o ∧ o.cls = .type "tuple" ∧ o.data = .seq its n ∧ its.size ≤ sizeLine ∧ Vals xs its.toList
def absV : Value → Option V
  | .none => some .non
  | .bool b => some (.bl b)
  | .int i _ => some (.int i)
  | .str x _ => some (.str x)
  | .bytes b _ => some (.byt b)
  | .float b _ => some (.flt b)
  | .ref a => some (.ref a)
  | .type n => some (.ty n)
  | _ => none
theorem RelV.abs {x : V} {u : Value} (r : RelV x u) : absV u = some x := by
  cases x with
  | non => cases r; rfl
  | bl _ => cases r; rfl
  | int _ => obtain ⟨t, rfl⟩ := r; rfl
  | str _ => obtain ⟨t, rfl⟩ := r; rfl
  | byt _ => obtain ⟨t, rfl⟩ := r; rfl
  | flt _ => obtain ⟨t, rfl⟩ := r; rfl
  | ref _ => cases r; rfl
  | ty _ => cases r; rfl
theorem RelV.inj {x y : V} {u : Value} (r : RelV x u) (q : RelV y u) : x = y := Option.some.inj (r.abs.symm.trans q.abs)
theorem Vals.inj : ∀ {xs ys : List V} {us : List Value}, Vals xs us → Vals ys us → xs = ys
  | _, _, _, .nil, .nil => rfl
  | _, _, _, .cons r t, .cons r' t' => by rw [r.inj r', Vals.inj t t']
section
variable {X : Cx} {pins : List (Addr × Obj)} {σ : St} {H : Hp} {s : Shared} {a : Addr} {xs ys : List V}
theorem SqL.of {K : PySem.W.Frag} (h : H a = some (.lst xs)) : SqL K H a xs := .inl (.inl h)
theorem SqT.of {K : PySem.W.Frag} (h : H a = some (.tup xs)) : SqT K H a xs := .inl (.inl h)
theorem Inv.list (I : Inv X pins σ H s) (h : SqL X.K H a xs) : ∃ its : List Value, Vals xs its ∧ PlainL s.heap a its.toArray ∧ xs.length ≤ sizeLine := by
  rcases h with h | ⟨o, its, n, hk, hc, hd, hs, hz, r⟩
  · obtain ⟨z, its, n, r, e⟩ := h.ok I.hok
    exact ⟨its, r, ⟨_, n, e, rfl, rfl, rfl⟩, z⟩
  · refine ⟨its.toList, r, ⟨o, n, I.kIn a o hk, hc, hd, by simpa using hs⟩, ?_⟩
    have e := r.length
    simp only [Array.length_toList] at e
    omega
theorem Inv.tuple (I : Inv X pins σ H s) (h : SqT X.K H a xs) : ∃ its : List Value, Vals xs its ∧ IsTup s.heap a its.toArray ∧ xs.length ≤ sizeLine := by
  rcases h with h | ⟨o, its, n, hk, hc, hs, hz, r⟩
  · obtain ⟨z, its, r, p⟩ := h.ok I.hok
    exact ⟨its, r, p, z⟩
  · refine ⟨its.toList, r, ⟨o, I.kIn a o hk, hc, n, by simpa using hs⟩, ?_⟩
    have e := r.length
    simp only [Array.length_toList] at e
    omega
theorem Inv.list_inj (I : Inv X pins σ H s) (h : SqL X.K H a xs) (h' : SqL X.K H a ys) : xs = ys := by
  obtain ⟨its, r, ⟨o, n, e, _, _, d⟩, _⟩ := I.list h
  obtain ⟨its', r', ⟨o', n', e', _, _, d'⟩, _⟩ := I.list h'
  rw [e] at e'; cases e'
  rw [d] at d'
  injection d' with d1 _
  have : its = its' := by simpa using congrArg Array.toList d1
  subst this
  exact r.inj r'
theorem Inv.tuple_inj (I : Inv X pins σ H s) (h : SqT X.K H a xs) (h' : SqT X.K H a ys) : xs = ys := by
  obtain ⟨its, r, ⟨o, e, _, n, d⟩, _⟩ := I.tuple h
  obtain ⟨its', r', ⟨o', e', _, n', d'⟩, _⟩ := I.tuple h'
  rw [e] at e'; cases e'
  rw [d] at d'
  injection d' with d1 _
  have : its = its' := by simpa using congrArg Array.toList d1
  subst this
  exact r.inj r'
end
abbrev Cx.wish (X : Cx) (E : Value → Shared → Prop) : Cx := { X with xe := E }
abbrev Cx.nox (X : Cx) : Cx := X.wish fun _ _ => False
theorem Cx.Ok.wish {X : Cx} (ok : X.Ok) (E : Value → Shared → Prop) : (X.wish E).Ok :=
  ⟨ok.mod, ok.kind, ok.glob, ok.blt, ok.above, ok.inj, ok.has, ok.cab, ok.hd, ok.frames, ok.stk, ok.exf, ok.bs, ok.bsz, ok.noex, ok.exfs, ok.funs, ok.frf⟩
theorem Cx.Ok.unwish {X : Cx} {E : Value → Shared → Prop} (ok : (X.wish E).Ok) : X.Ok :=
  ⟨ok.mod, ok.kind, ok.glob, ok.blt, ok.above, ok.inj, ok.has, ok.cab, ok.hd, ok.frames, ok.stk, ok.exf, ok.bs, ok.bsz, ok.noex, ok.exfs, ok.funs, ok.frf⟩
section
variable {X : Cx} {pins : List (Addr × Obj)} {σ : St} {H : Hp} {s : Shared} {E : Value → Shared → Prop}
theorem Inv.wish (I : Inv X pins σ H s) (E : Value → Shared → Prop) : Inv (X.wish E) pins σ H s := ⟨I.ok.wish E, I.os, I.bare, I.base, I.loc, I.cell, I.free, I.freeC, I.pin, I.hok, I.len⟩
theorem Inv.unwish (I : Inv (X.wish E) pins σ H s) : Inv X pins σ H s := ⟨I.ok.unwish, I.os, I.bare, I.base, I.loc, I.cell, I.free, I.freeC, I.pin, I.hok, I.len⟩
theorem SP.unwish {D : Ends} {f : Flow} {s' : Shared} (h : SP (X.wish E) pins D f s') : SP X pins D f s' := by
  cases f with
  | next => obtain ⟨σ', H', I, q⟩ := h; exact ⟨σ', H', I.unwish, q⟩
  | brk => obtain ⟨σ', H', I, q⟩ := h; exact ⟨σ', H', I.unwish, q⟩
  | cont => obtain ⟨σ', H', I, q⟩ := h; exact ⟨σ', H', I.unwish, q⟩
  | ret u => obtain ⟨v, σ', H', I, r, q⟩ := h; exact ⟨v, σ', H', I.unwish, r, q⟩
theorem PE.nox {e : Expr} {t : TE} (h : PE X.nox e t) : PE X e t := fun pins s σ H Q I hw =>
  wpAny_mono (h pins s σ H Q (I.wish _) hw) (fun _ _ ⟨v, H', I', r, q⟩ => ⟨v, H', I'.unwish, r, q⟩) fun _ _ z => False.elim z
theorem PT.nox {e : Expr} {t : TT} (h : PT X.nox e t) : PT X e t := fun pins s σ H Q I hw =>
  wpAny_mono (h pins s σ H Q (I.wish _) hw) (fun _ _ ⟨H', I', q⟩ => ⟨H', I'.unwish, q⟩) fun _ _ z => False.elim z
theorem PSs.nox {st : List Stmt} {t : TS} (h : PSs X.nox st t) : PSs X st t := fun pins s σ H D I hw =>
  wpAny_mono (h pins s σ H D (I.wish _) hw) (fun _ _ q => q.unwish) fun _ _ z => False.elim z
end
section
variable {X : Cx} {st : Stmt} {rest : List Stmt} {t u : TS} {e : Expr} {te : TE} {pos : Pos}
def tNext : TS := fun D σ H => D.nx σ H
def tSeq (t u : TS) : TS := fun D σ H => t { D with nx := u D } σ H
theorem pss_nil : PSs X [] tNext := fun _ _ σ H _ I h => wpAny_execs_nil ⟨σ, H, I, h⟩
theorem pss_cons (h1 : PS X st t) (h2 : PSs X rest u) : PSs X (st :: rest) (tSeq t u) := by
  intro pins s σ H D I h
  refine wpAny_execs_cons (thn (h1 pins s σ H { D with nx := u D } I h) fun f s1 q => ?_)
  cases f with
  | next =>
    obtain ⟨σ', H', I', q⟩ := q
    exact h2 pins s1 σ' H' D I' q
  | ret v => exact q
  | brk => exact q
  | cont => exact q
theorem pss_one (h1 : PS X st t) : PSs X [st] t := by
  intro pins s σ H D I h
  refine wpAny_execs_cons (thn (h1 pins s σ H D I h) fun f s1 q => ?_)
  cases f with
  | next => exact wpAny_execs_nil q
  | ret v => exact q
  | brk => exact q
  | cont => exact q
theorem Inv.quiet {pins : List (Addr × Obj)} {σ : St} {H : Hp} {s : Shared} (I : Inv X pins σ H s) : interactive X.env = false := by simp [interactive, I.ok.kind]
def tDrop (te : TE) : TS := fun D σ H => te σ H fun _ H1 => D.nx σ H1
theorem ps_expr (he : PE X e te) (hs : swapsWith e none pos.line X.env = pure false := by rfl) : PS X (.Expr e pos) (tDrop te) := by
  intro pins s σ H D I h
  exact wpAny_Expr_any (thn (he pins s σ H _ I h) fun v s1 ⟨x, H1, I1, r1, q1⟩ => ⟨σ, H1, I1, q1⟩) I.quiet hs
def tRet (te : TE) : TS := fun D σ H => te σ H D.rt
theorem ps_ret (he : PE X e te) : PS X (.Return (some e) pos) (tRet te) := by
  intro pins s σ H D I h
  exact wpAny_Return_some (thn (he pins s σ H _ I h) fun v s1 ⟨x, H1, I1, r1, q1⟩ => ⟨x, σ, H1, I1, r1, q1⟩)
def tIfS (c : TT) (t u : TS) : TS := fun D σ H => c σ H fun b H1 => if b = true then t D σ H1 else u D σ H1
theorem ps_if {c : Expr} {a b : List Stmt} {tc : TT} (hc : PT X c tc) (ha : PSs X a t) (hb : PSs X b u) : PS X (.If c a b pos) (tIfS tc t u) := by
  intro pins s σ H D I h
  refine wpAny_If (thn (hc pins s σ H _ I h) fun d s1 ⟨H1, I1, q1⟩ => ?_)
  cases d with
  | true => exact ha pins s1 σ H1 D I1 q1
  | false => exact hb pins s1 σ H1 D I1 q1
def tNever : TS := fun _ _ _ => False
theorem ps_never : PS X st tNever := fun _ _ _ _ _ _ h => h.elim
end
abbrev TG := V → St → Hp → (St → Hp → Prop) → Prop
abbrev TGs := List V → St → Hp → (St → Hp → Prop) → Prop
def PG (X : Cx) (target : Expr) (t : TG) : Prop :=
  ∀ (pins : List (Addr × Obj)) (s : Shared) (σ : St) (H : Hp) (v : V) (u : Value) (Q : St → Hp → Prop), Inv X pins σ H s → RelV v u → t v σ H Q →
    wpAny (model X.prog X.w) X.A (assign target X.env u) (fun _ s' => ∃ σ' H', Inv X pins σ' H' s' ∧ Q σ' H') X.xe s
def PGs (X : Cx) (ts : List Expr) (t : TGs) : Prop :=
  ∀ (pins : List (Addr × Obj)) (s : Shared) (σ : St) (H : Hp) (vs : List V) (us : List Value) (Q : St → Hp → Prop), Inv X pins σ H s → Vals vs us → t vs σ H Q →
    wpAny (model X.prog X.w) X.A (assignInOrder ((assignEach ts X.env).map (·.2)) us) (fun _ s' => ∃ σ' H', Inv X pins σ' H' s' ∧ Q σ' H') X.xe s
abbrev TSet := V → V → V → Hp → (Hp → Prop) → Prop
def PSet (X : Cx) (t : TSet) : Prop :=
  ∀ (pins : List (Addr × Obj)) (s : Shared) (σ : St) (H : Hp) (o i v : V) (ov iv u : Value) (Q : Hp → Prop), Inv X pins σ H s → RelV o ov → RelV i iv → RelV v u → t o i v H Q →
    wpAny (model X.prog X.w) X.A (setItem ov iv u) (fun _ s' => ∃ H', Inv X pins σ H' s' ∧ Q H') X.xe s
abbrev TIp := V → V → Hp → VK → Prop
def PIp (X : Cx) (op : Operator) (t : TIp) : Prop :=
  ∀ (pins : List (Addr × Obj)) (s : Shared) (σ : St) (H : Hp) (x y : V) (v u : Value) (Q : VK), Inv X pins σ H s → RelV x v → RelV y u → t x y H Q →
    wpAny (model X.prog X.w) X.A (inplaceOp op v u) (EP X pins σ Q) X.xe s
section
variable {X : Cx} {pos : Pos}
def gName (i : Nat) : TG := fun v σ H Q => Q (σ.set i (some v)) H
theorem pg_name {i : Nat} {x : Str} (hN : X.N.Nodup) (hi : X.N[i]? = some x) (hx : Loc X.env.scope x) (hf : X.fn x = true ∨ X.env.scope.names.lookup x = some .local := by first | exact .inl rfl | exact .inr rfl | assumption) : PG X (.Name x pos) (gName i) := by
  intro pins s σ H v u Q I r h
  exact wpAny_assign_Name (store_ok I hN hi hx r (fun s' I' => ⟨_, H, I', h⟩) hf)
def gNil : TGs := fun vs σ H Q => vs = [] ∧ Q σ H
def gCons (t : TG) (u : TGs) : TGs := fun vs σ H Q => ∃ v r, vs = v :: r ∧ t v σ H fun σ' H' => u r σ' H' Q
theorem pgs_nil : PGs X [] gNil := by
  intro pins s σ H vs us Q I r h
  obtain ⟨e, h⟩ := h
  subst e
  cases r
  exact assignInOrder_nil ⟨σ, H, I, h⟩
theorem pgs_cons {e : Expr} {es : List Expr} {t : TG} {u : TGs} (h1 : PG X e t) (h2 : PGs X es u)
    (hs : (assignEach (e :: es) X.env).map (·.2) = assign e X.env :: (assignEach es X.env).map (·.2) := by rfl) : PGs X (e :: es) (gCons t u) := by
  intro pins s σ H vs us Q I r h
  obtain ⟨v, vr, e1, h⟩ := h
  subst e1
  cases r with
  | cons r rr =>
    rw [hs]
    refine assignInOrder_cons (thn (h1 pins s σ H _ _ _ I r h) fun _ s1 ⟨σ1, H1, I1, q1⟩ => ?_)
    exact h2 pins s1 σ1 H1 _ _ Q I1 rr q1
def gTup (K : PySem.W.Frag) (n : Nat) (t : TGs) : TG := fun v σ H Q => ∃ a xs, v = .ref a ∧ SqT K H a xs ∧ xs.length = n ∧ t xs σ H Q
theorem pg_tup {es : List Expr} {k : Nat} {t : TGs} {n : Nat} (hc : X.calm = true) (h : PGs X es t)
    (hn : (assignEach es X.env).length = n := by rfl) (hst : (assignEach es X.env).findIdx? (·.1) = none := by rfl) : PG X (.Tuple es k pos) (gTup X.K n t) := by
  intro pins s σ H v u Q I r hw
  obtain ⟨a, xs, e1, hq, hl, hw⟩ := hw
  subst e1
  cases r
  obtain ⟨its, rv, ht, hz⟩ := I.tuple hq
  refine assign_Tuple_tuple (I.ok.hd hc) ht (by simp [hn, ← hl, rv.length]) hst fun h' hx => ?_
  have I1 : Inv X pins σ H { s with heap := h' } := I.kept (t' := s.toks) fun b o e => hx b o (Nat.ne_of_lt (Heap.lt_size e)) e
  exact h pins _ σ H xs _ Q I1 (by simpa using rv) hw
def gSub (to ti : TE) (t : TSet) : TG := fun v σ H Q => to σ H fun o H1 => ti σ H1 fun i H2 => t o i v H2 fun H3 => Q σ H3
theorem pg_sub {o i : Expr} {to ti : TE} {t : TSet} (ho : PE X o to) (hi : PE X i ti) (hs : PSet X t)
    (ha : ∀ v, assign (.Subscript o i pos) X.env v = (do
      let ov ← holding [v] (eval o X.env)
      let iv ← holding [v, ov] (eval i X.env)
      standAt pos
      holding [v, ov, iv] (setItem ov iv v)
      release [v, ov, iv] []) := by intro _; rfl) : PG X (.Subscript o i pos) (gSub to ti t) := by
  intro pins s σ H v u Q I r h
  rw [ha]
  refine wpAny_bind (wpAny_holding (thn (ho pins s σ H _ I h) fun ov s1 ⟨x, H1, I1, r1, q1⟩ => ?_))
  refine wpAny_bind (wpAny_holding (thn (hi pins s1 σ H1 _ I1 q1) fun iv s2 ⟨y, H2, I2, r2, q2⟩ => ?_))
  refine wpAny_bind (wpAny_standAt (wpAny_bind (wpAny_holding (thn (hs pins s2 σ H2 x y v ov iv u _ I2 r1 r2 r q2) fun _ s3 ⟨H3, I3, q3⟩ => ?_))))
  exact wpAny_release ⟨σ, H3, I3, q3⟩
def tAsg (te : TE) (g : TG) : TS := fun D σ H => te σ H fun x H1 => g x σ H1 D.nx
theorem ps_asg {tg e : Expr} {te : TE} {g : TG} (he : PE X e te) (hg : PG X tg g) (hs : swapsWithSole [tg] e pos.line X.env = pure false := by rfl) (hw : swappedStores [tg] e X.env = pure none := by rfl)
    (h1 : (assignEach [tg] X.env).map (·.2) = [assign tg X.env] := by rfl) : PS X (.Assign [tg] e pos) (tAsg te g) := by
  intro pins s σ H D I h
  refine wpAny_Assign_stores (thn (he pins s σ H _ I h) fun v s1 ⟨x, H1, I1, r1, q1⟩ => ?_) hs hw
  rw [h1]
  exact thn (hg pins s1 σ H1 x v _ I1 r1 q1) fun _ s2 q => q
theorem ps_set {i : Nat} {x : Str} {e : Expr} {te : TE} {pos' : Pos} (hN : X.N.Nodup) (hi : X.N[i]? = some x) (hx : Loc X.env.scope x) (he : PE X e te) (hs : swapsWith e (some (.Name x pos')) pos.line X.env = pure false := by rfl) (hf : X.fn x = true ∨ X.env.scope.names.lookup x = some .local := by first | exact .inl rfl | exact .inr rfl | assumption) :
    PS X (.Assign [.Name x pos'] e pos) (tAsg te (gName i)) := by
  intro pins s σ H D I h
  refine wpAny_Assign_Name (thn (he pins s σ H _ I h) fun v s1 ⟨y, H1, I1, r1, q1⟩ => ?_) hs
  exact store_ok I1 hN hi hx r1 (fun s2 I2 => ⟨_, H1, I2, q1⟩) hf
def tAug (i : Nat) (te : TE) (ti : TIp) : TS := fun D σ H => ∃ x, σ[i]? = some (some x) ∧ te σ H fun y H1 => ti x y H1 fun z H2 => D.nx (σ.set i (some z)) H2
theorem ps_aug {i : Nat} {x : Str} {e : Expr} {te : TE} {op : Operator} {ti : TIp} {pos' : Pos} (hN : X.N.Nodup) (hi : X.N[i]? = some x) (hx : Loc X.env.scope x) (he : PE X e te) (ho : PIp X op ti) (hf : X.fn x = true ∨ X.env.scope.names.lookup x = some .local := by first | exact .inl rfl | exact .inr rfl | assumption) :
    PS X (.AugAssign (.Name x pos') op e pos) (tAug i te ti) := by
  intro pins s σ H D I h
  obtain ⟨v, e1, h⟩ := h
  obtain ⟨m, hn, hl⟩ := I.loc
  have vis : Vis X.env.scope x := by rcases hx with k | k; exact .inl k; exact .inr (.inl k)
  obtain ⟨u, r, l⟩ := hl i x v hi e1 vis
  refine wpAny_AugAssign_Name ?_
  have go : wpAny (model X.prog X.w) X.A (eval e X.env) (fun w s₂ => wpAny (model X.prog X.w) X.A (inplaceOp op u w) (fun r s₃ => wpAny (model X.prog X.w) X.A (storeName X.env x r) (fun _ => SP X pins D .next) X.xe s₃) X.xe s₂) X.xe s := by
    refine thn (he pins s σ H _ I h) fun w s1 ⟨y, H1, I1, r1, q1⟩ => ?_
    refine thn (ho pins s1 σ H1 v y u w _ I1 r r1 q1) fun z s2 ⟨zv, H2, I2, r2, q2⟩ => ?_
    exact store_ok I2 hN hi hx r2 (fun s3 I3 => ⟨_, H2, I3, q2⟩) hf
  rcases l with ⟨hk, hm⟩ | ⟨hk, c, hc, hcell⟩
  · exact wpAny_loadName_local I.ok.kind hk hn hm go
  · rcases hk with hk | hk
    · exact wpAny_loadName_cell I.ok.kind hk hc hcell go
    · rcases hx with k | k
      · have : X.env.scope.names.lookup x = some .free := hk
        rw [k] at this; cases this
      · have : X.env.scope.names.lookup x = some .free := hk
        rw [k] at this; cases this
def tAugS (to ti te : TE) (tget : V → V → Hp → VK → Prop) (tip : TIp) (tset : TSet) : TS := fun D σ H => to σ H fun o H1 => ti σ H1 fun i H2 => tget o i H2 fun x H3 => te σ H3 fun y H4 => tip x y H4 fun z H5 => tset o i z H5 fun H6 => D.nx σ H6
def PGet (X : Cx) (t : V → V → Hp → VK → Prop) : Prop :=
  ∀ (pins : List (Addr × Obj)) (s : Shared) (σ : St) (H : Hp) (o i : V) (ov iv : Value) (Q : VK), Inv X pins σ H s → RelV o ov → RelV i iv → t o i H Q →
    wpAny (model X.prog X.w) X.A (getItem ov iv) (EP X pins σ Q) X.xe s
theorem ps_augS {o i e : Expr} {to ti te : TE} {tget : V → V → Hp → VK → Prop} {tip : TIp} {tset : TSet} {op : Operator} {tpos : Pos} (ho : PE X o to) (hi : PE X i ti) (hg : PGet X tget) (he : PE X e te) (hp : PIp X op tip) (hs : PSet X tset)
    (ha : ∀ ov iv new, augStore i ov iv new = (do holding [new, ov, iv] (setItem ov iv new); release [new, ov, iv] []; pure .next) := by intros; rfl) : PS X (.AugAssign (.Subscript o i tpos) op e pos) (tAugS to ti te tget tip tset) := by
  intro pins s σ H D I h
  refine wpAny_AugAssign_SubscriptAny (thn (ho pins s σ H _ I h) fun ov s1 ⟨x1, H1, I1, r1, q1⟩ => ?_) ha
  refine thn (hi pins s1 σ H1 _ I1 q1) fun iv s2 ⟨x2, H2, I2, r2, q2⟩ => ?_
  refine thn (hg pins s2 σ H2 x1 x2 ov iv _ I2 r1 r2 q2) fun old s3 ⟨x3, H3, I3, r3, q3⟩ => ?_
  refine thn (he pins s3 σ H3 _ I3 q3) fun v s4 ⟨x4, H4, I4, r4, q4⟩ => ?_
  refine thn (hp pins s4 σ H4 x3 x4 old v _ I4 r3 r4 q4) fun new s5 ⟨x5, H5, I5, r5, q5⟩ => ?_
  exact thn (hs pins s5 σ H5 x1 x2 x5 ov iv new _ I5 r1 r2 r5 q5) fun _ s6 ⟨H6, I6, q6⟩ => ⟨σ, H6, I6, q6⟩
def ipI (f : Int → Int → Int) : TIp := fun x y H Q => ∃ i j, x = .int i ∧ y = .int j ∧ Q (.int (f i j)) H
theorem ip_add : PIp X .Add (ipI fun i j => i + j) := by
  intro pins s σ H x y v u Q I r1 r2 h
  obtain ⟨i, j, e1, e2, q⟩ := h
  subst e1; subst e2
  obtain ⟨t, rfl⟩ := r1
  obtain ⟨t', rfl⟩ := r2
  exact iadd_int ⟨.int _, H, I.tok _, ⟨_, rfl⟩, q⟩
theorem ip_sub : PIp X .Sub (ipI fun i j => i - j) := by
  intro pins s σ H x y v u Q I r1 r2 h
  obtain ⟨i, j, e1, e2, q⟩ := h
  subst e1; subst e2
  obtain ⟨t, rfl⟩ := r1
  obtain ⟨t', rfl⟩ := r2
  exact isub_int ⟨.int _, H, I.tok _, ⟨_, rfl⟩, q⟩
end
section
variable {X : Cx} {pos : Pos}
def tWhile (c : TT) (tb : TS) : TS := fun D σ H => ∃ W : Nat → St → Hp → Prop, (∃ m, W m σ H) ∧ ∀ m σ H, W m σ H →
  c σ H fun b H1 => if b = true then ∃ N : St → Hp → Prop, (∀ σ' H', N σ' H' → ∃ m', m' < m ∧ W m' σ' H') ∧ tb { D with nx := N, ct := N, bk := D.nx } σ H1 else D.nx σ H1
theorem ps_while {c : Expr} {body : List Stmt} {tc : TT} {tb : TS} (hp : PassesOwn (model X.prog X.w) X.A X.env X.xe) (hc : PT X c tc) (hb : PSs X body tb) : PS X (.While c body [] pos) (tWhile tc tb) := by
  intro pins s σ H D I h
  obtain ⟨W, ⟨m0, w0⟩, turn⟩ := h
  refine wpAny_While (codeAny_whileLoop (fun n s' => ∃ σ' H', Inv X pins σ' H' s' ∧ W n σ' H') ?_ m0 ⟨σ, H, I, w0⟩)
  rintro n s1 ⟨σ1, H1, I1, w1⟩
  refine wpAny_passesOwn hp (thn (hc pins s1 σ1 H1 _ I1 (turn n σ1 H1 w1)) fun b s2 ⟨H2, I2, q2⟩ => ?_)
  cases b with
  | true =>
    obtain ⟨N, hN, q2⟩ := q2
    rw [if_pos rfl]
    refine wpAny_passesOwn hp (thn (hb pins s2 σ1 H2 _ I2 q2) fun f s3 q3 => ?_)
    cases f with
    | next =>
      obtain ⟨σ3, H3, I3, n3⟩ := q3
      obtain ⟨m', hm, w3⟩ := hN σ3 H3 n3
      exact ⟨m', hm, σ3, H3, I3, w3⟩
    | cont =>
      obtain ⟨σ3, H3, I3, n3⟩ := q3
      obtain ⟨m', hm, w3⟩ := hN σ3 H3 n3
      exact ⟨m', hm, σ3, H3, I3, w3⟩
    | brk => exact q3
    | ret v => exact q3
  | false =>
    rw [if_neg Bool.false_ne_true]
    exact wpAny_execs_nil ⟨σ1, H2, I2, q2⟩
end
structure It where
  go : Nat → Hp → Prop
  yld : Nat → Hp → V → Hp → Prop
  stop : Nat → Hp → Prop
def FpOk (X : Cx) (pins : List (Addr × Obj)) (H : Hp) (b : Addr) : Prop :=
  H b = none ∧ b ≠ X.env.locals ∧ b ∉ X.fs ∧ (b ∈ X.ex ∨ X.s₀.heap.objs.size ≤ b) ∧ (∀ x c, X.env.cells.lookup x = some c → c ≠ b) ∧ ∀ p ∈ X.pn ++ pins, p.1 ≠ b
theorem Inv.fpOk {X : Cx} {pins : List (Addr × Obj)} {σ : St} {H H' : Hp} {s : Shared} {b : Addr} (I : Inv X pins σ H s) (hb : s.heap.objs.size ≤ b) (hn : H' b = none) : FpOk X pins H' b := by
  refine ⟨hn, Nat.ne_of_gt (Nat.lt_of_lt_of_le I.lt hb), I.nofs hb, .inr (Nat.le_trans I.sz hb), fun x c e z => ?_, fun p hp z => ?_⟩
  · obtain ⟨v, q⟩ := I.cell x c e
    exact absurd (Nat.lt_of_lt_of_le q.lt (by rw [z]; exact hb)) (Nat.lt_irrefl _)
  · exact absurd (Nat.lt_of_lt_of_le (Heap.lt_size (I.pin p hp).1) (by rw [z]; exact hb)) (Nat.lt_irrefl _)
structure Turn (P : Program) (w : World) (K : PySem.W.Frag) (tg : Expr) (J : It) (fp : List Addr) (it : Addr) (tn : Nat → Heap → Prop) : Prop where
  mem : it ∈ fp
  obj : ∀ i h, tn i h → ∀ b ∈ fp, ∃ o, h.get? b = some o ∧ ∀ v, o.data ≠ .cell v
  keep : ∀ i h h', tn i h → (∀ b ∈ fp, ∀ o, h.get? b = some o → h'.get? b = some o) → tn i h'
  item : ∀ (X : Cx), X.prog = P → X.w = w → X.K = K → X.calm = true → ∀ (i : Nat) (pins : List (Addr × Obj)) (s : Shared) (σ : St) (H : Hp) (E : Value → Shared → Prop), Inv X pins σ H s → (∀ b ∈ fp, FpOk X pins H b) → tn i s.heap → J.go i H →
    wpAny (model P w) X.A (pyNext (.ref it)) (fun r s1 => ∃ u, r = some u ∧
      wpAny (model P w) X.A (letOwnedTupleGo tg (.ref it) u) (fun _ s2 => ∃ x H', Inv X pins σ H' s2 ∧ RelV x u ∧ J.yld i H x H' ∧ tn (i + 1) s2.heap ∧ ∀ b ∈ fp, H' b = none) E s1) E s
  done : ∀ (X : Cx), X.prog = P → X.w = w → X.K = K → X.calm = true → ∀ (i : Nat) (pins : List (Addr × Obj)) (s : Shared) (σ : St) (H : Hp) (E : Value → Shared → Prop), Inv X pins σ H s → (∀ b ∈ fp, FpOk X pins H b) → tn i s.heap → J.stop i H →
    wpAny (model P w) X.A (pyNext (.ref it)) (fun r s1 => r = none ∧ Inv X pins σ H s1) E s
  self : ∀ (A : Around) (i : Nat) (s : Shared) (Q : Value → Shared → Prop) (E : Value → Shared → Prop), tn i s.heap → Q (.ref it) s → wpAny (model P w) A (pyIter (.ref it)) Q E s
abbrev TI := St → Hp → (It → Hp → Prop) → Prop
def PIE (X : Cx) (pins : List (Addr × Obj)) (σ : St) (tg : Expr) (R : It → Hp → Prop) (itv : Value) (s2 : Shared) : Prop :=
  ∃ (it : Addr) (fp : List Addr) (tn : Nat → Heap → Prop) (J : It) (H' : Hp), itv = .ref it ∧ Inv X pins σ H' s2 ∧ Turn X.prog X.w X.K tg J fp it tn ∧ tn 0 s2.heap ∧ (∀ b ∈ fp, FpOk X pins H' b) ∧ R J H'
def PI (X : Cx) (tg iter : Expr) (wi : TI) : Prop :=
  ∀ (pins : List (Addr × Obj)) (s : Shared) (σ : St) (H : Hp) (R : It → Hp → Prop), Inv X pins σ H s → wi σ H R →
    wpAny (model X.prog X.w) X.A (eval iter X.env) (fun v s1 => wpAny (model X.prog X.w) X.A (pyIter v) (PIE X pins σ tg R) X.xe s1) X.xe s
theorem go_of {M : Model} {A : Around} {E : Value → Shared → Prop} {s : Shared} {tg : Expr} {it : Addr} {u : Value} {o : Obj} {n : String} {vs : Array Value} {Q : Unit → Shared → Prop} (ho : s.heap.get? it = some o) (hc : o.cls = .type n) (hd : o.data = .fields vs)
    (hn : ["enumerate", "zip", "dict_itemiterator", "dict_reverseitemiterator", "odict_iterator", "itertools.zip_longest", "itertools.pairwise"].contains n = false) (hQ : Q () s) : wpAny M A (letOwnedTupleGo tg (.ref it) u) Q E s := by
  unfold letOwnedTupleGo
  cases tg <;> first
    | exact wpAny_pure hQ
    | (cases u <;> first
        | exact wpAny_pure hQ
        | (refine wpAny_bind (wpAny_load ho ?_)
           rw [hc, hd]
           show wpAny M A (if (["enumerate", "zip", "dict_itemiterator", "dict_reverseitemiterator", "odict_iterator", "itertools.zip_longest", "itertools.pairwise"].contains n && vs[0]? == some (rawInt _)) = true then _ else _) Q E s
           rw [if_neg (by intro h; rw [hn, Bool.false_and] at h; cases h)]
           exact wpAny_pure hQ))
def Itl (K : PySem.W.Frag) (a : Addr) : It :=
  ⟨fun i H => ∃ xs x, SqL K H a xs ∧ xs[i]? = some x, fun i H x H' => H' = H ∧ ∀ xs, SqL K H a xs → xs[i]? = some x, fun i H => ∃ xs, SqL K H a xs ∧ xs.length ≤ i⟩
def Itt (K : PySem.W.Frag) (a : Addr) : It :=
  ⟨fun i H => ∃ xs x, SqT K H a xs ∧ xs[i]? = some x, fun i H x H' => H' = H ∧ ∀ xs, SqT K H a xs → xs[i]? = some x, fun i H => ∃ xs, SqT K H a xs ∧ xs.length ≤ i⟩
def Itr (lo : Int) (n : Nat) : It := ⟨fun i _ => i < n, fun i H x H' => H' = H ∧ x = .int (lo + i), fun i _ => n ≤ i⟩
theorem turn_list {P : Program} {w : World} {K : PySem.W.Frag} {tg : Expr} (a it : Addr) : Turn P w K tg (Itl K a) [it] it (fun i h => h.IsListIter it a i) where
  mem := by simp
  obj := fun i h st b hb => by
    have e : b = it := by simpa using hb
    subst e
    obtain ⟨o, e, c, d⟩ := st
    exact ⟨o, e, fun v z => by rw [d] at z; cases z⟩
  keep := fun i h h' st k => st.at fun o e => k it (by simp) o e
  item := by
    intro X hP hw hK hc i pins s σ H E I hf st hg
    subst hP hw hK
    obtain ⟨xs, x, hq, hx⟩ := hg
    obtain ⟨its, rv, p, hz⟩ := I.list hq
    obtain ⟨u, hu, ru⟩ := rv.get hx
    obtain ⟨f0, f1, f2, f3, f4, f5⟩ := hf it (by simp)
    refine wpAny_pyNext_list_item st p.isList (x := u) (by simpa using hu) fun h' st' sb => ?_
    have I1 : Inv X pins σ H { s with heap := h' } := I.turned (t' := s.toks) (fun b o hb e => (sb.2 b hb).trans e) f0 f1 f3 f4 f5
    obtain ⟨o, e, c, d⟩ := id st'
    exact ⟨u, rfl, go_of (s := { s with heap := h' }) e c d (by decide) ⟨x, H, I1, ru, ⟨rfl, fun ys hy => by rw [I.list_inj hy hq]; exact hx⟩, st', fun b hb => (hf b hb).1⟩⟩
  done := by
    intro X hP hw hK hc i pins s σ H E I hf st hg
    subst hP hw hK
    obtain ⟨xs, hq, hx⟩ := hg
    obtain ⟨its, rv, p, hz⟩ := I.list hq
    obtain ⟨f0, f1, f2, f3, f4, f5⟩ := hf it (by simp)
    have hl := rv.length
    exact wpAny_pyNext_list_end (I.ok.hd hc) st p.isList (by simp; omega) fun h' eb => ⟨rfl, I.turned (t' := s.toks) (fun b o hb e => eb b o hb e) f0 f1 f3 f4 f5⟩
  self := fun _ _ _ _ _ st h => wpAny_pyIter_listiter st h
theorem turn_tuple {P : Program} {w : World} {K : PySem.W.Frag} {tg : Expr} (a it : Addr) : Turn P w K tg (Itt K a) [it] it (fun i h => h.IsTupleIter it a i) where
  mem := by simp
  obj := fun i h st b hb => by
    have e : b = it := by simpa using hb
    subst e
    obtain ⟨o, e, c, d⟩ := st
    exact ⟨o, e, fun v z => by rw [d] at z; cases z⟩
  keep := fun i h h' st k => st.at fun o e => k it (by simp) o e
  item := by
    intro X hP hw hK hc i pins s σ H E I hf st hg
    subst hP hw hK
    obtain ⟨xs, x, hq, hx⟩ := hg
    obtain ⟨its, rv, p, hz⟩ := I.tuple hq
    obtain ⟨u, hu, ru⟩ := rv.get hx
    obtain ⟨f0, f1, f2, f3, f4, f5⟩ := hf it (by simp)
    refine wpAny_pyNext_tuple_item st (show s.heap.IsTuple a its.toArray from p) (x := u) (by simpa using hu) fun h' st' sb => ?_
    have I1 : Inv X pins σ H { s with heap := h' } := I.turned (t' := s.toks) (fun b o hb e => (sb.2 b hb).trans e) f0 f1 f3 f4 f5
    obtain ⟨o, e, c, d⟩ := id st'
    exact ⟨u, rfl, go_of (s := { s with heap := h' }) e c d (by decide) ⟨x, H, I1, ru, ⟨rfl, fun ys hy => by rw [I.tuple_inj hy hq]; exact hx⟩, st', fun b hb => (hf b hb).1⟩⟩
  done := by
    intro X hP hw hK hc i pins s σ H E I hf st hg
    subst hP hw hK
    obtain ⟨xs, hq, hx⟩ := hg
    obtain ⟨its, rv, p, hz⟩ := I.tuple hq
    obtain ⟨f0, f1, f2, f3, f4, f5⟩ := hf it (by simp)
    have hl := rv.length
    exact wpAny_pyNext_tuple_end (I.ok.hd hc) st (show s.heap.IsTuple a its.toArray from p) (by simp; omega) fun h' eb => ⟨rfl, I.turned (t' := s.toks) (fun b o hb e => eb b o hb e) f0 f1 f3 f4 f5⟩
  self := fun _ _ _ _ _ st h => wpAny_pyIter_tupleiter st h
theorem turn_range {P : Program} {w : World} {K : PySem.W.Frag} {tg : Expr} (it : Addr) (lo : Int) (n : Nat) : Turn P w K tg (Itr lo n) [it] it (fun i h => IsRangeIter h it (lo + (i : Nat) * 1) ((n : Int) - (i : Nat)) 1) where
  mem := by simp
  obj := fun i h st b hb => by
    have e : b = it := by simpa using hb
    subst e
    exact ⟨_, st, fun v z => by
      have z' : Data.fields _ = Data.cell v := z
      cases z'⟩
  keep := fun i h h' st k => k it (by simp) _ st
  item := by
    intro X hP hw hK hc i pins s σ H E I hf st hg
    subst hP hw hK
    obtain ⟨f0, f1, f2, f3, f4, f5⟩ := hf it (by simp)
    have W := Walks.range (prog := X.prog) (w := X.w) (I.ok.hd hc) it lo 1 n
    refine W.item i s _ _ hg st fun v h' tk hv st' kk => ?_
    obtain ⟨t, rfl⟩ := hv
    have I1 : Inv X pins σ H { s with heap := h', toks := tk } := I.turned (fun b o hb e => kk b o (by simpa using hb) e) f0 f1 f3 f4 f5
    refine ⟨_, rfl, go_of (s := { s with heap := h', toks := tk }) (n := "range_iterator") st' rfl rfl (by decide) ⟨.int (lo + i), H, I1, ⟨t, ?_⟩, ⟨rfl, rfl⟩, st', fun b hb => (hf b hb).1⟩⟩
    rw [Int.mul_one]
  done := by
    intro X hP hw hK hc i pins s σ H E I hf st hg
    subst hP hw hK
    obtain ⟨f0, f1, f2, f3, f4, f5⟩ := hf it (by simp)
    exact wpAny_pyNext_range_end (I.ok.hd hc) st (by have : n ≤ i := hg; omega) fun h' eb => ⟨rfl, I.turned (t' := s.toks) (fun b o hb e => eb b o hb e) f0 f1 f3 f4 f5⟩
  self := fun _ _ _ _ _ st h => wpAny_pyIter_rangeiter st h
end L2
namespace L2
open PySem PySem.Spec PyProof.Rows
section
variable {X : Cx} {tg : Expr}
theorem range_it {pins : List (Addr × Obj)} {σ : St} {H : Hp} {s : Shared} {R : It → Hp → Prop} {E : Value → Shared → Prop} {lo hi : Int} {t u v : Tok} {tk : Nat} (I : Inv X pins σ H s) (h1 : -(2 ^ 62) ≤ lo) (h2 : lo < 2 ^ 62) (h3 : -(2 ^ 62) ≤ hi) (h4 : hi < 2 ^ 62)
    (q : R (Itr lo (hi - lo).toNat) H) : wpAny (model X.prog X.w) X.A (pyIter (.ref s.heap.objs.size)) (PIE X pins σ tg R) E { s with heap := s.heap.push { cls := .type "range", data := .fields #[.int lo t, .int hi u, .int 1 v] }, toks := tk } := by
  refine wpAny_pyIter_range (IsRange.new ..) (small_one h1 h2 h3 h4) ?_
  have I1 : Inv X pins σ H { s with heap := s.heap.push { cls := .type "range", data := .fields #[.int lo t, .int hi u, .int 1 v] }, toks := tk } := I.kept fun b o e => Heap.get?_push_of_some _ e
  refine ⟨(s.heap.push { cls := .type "range", data := .fields #[.int lo t, .int hi u, .int 1 v] }).objs.size, [(s.heap.push { cls := .type "range", data := .fields #[.int lo t, .int hi u, .int 1 v] }).objs.size], _, _, H, rfl,
    I1.kept (t' := tk) fun b o e => Heap.get?_push_of_some _ e, turn_range _ lo (hi - lo).toNat, ?_, fun b hb => ?_, q⟩
  · have e1 : lo + ((0 : Nat) : Int) * 1 = lo := by simp
    have e2 : (((hi - lo).toNat : Nat) : Int) - ((0 : Nat) : Int) = Builtin.Range.rangeSize lo hi 1 := by rw [rangeSize_one]; split <;> omega
    show IsRangeIter _ _ (lo + ((0 : Nat) : Int) * 1) ((((hi - lo).toNat : Nat) : Int) - ((0 : Nat) : Int)) 1
    rw [e1, e2]
    exact Heap.get?_push_size _ rfl
  · have e : b = (s.heap.push { cls := .type "range", data := .fields #[.int lo t, .int hi u, .int 1 v] }).objs.size := by simpa using hb
    subst e
    exact I1.fpOk (Nat.le_refl _) (I1.hok.fresh (Nat.le_refl _))
def iRng1 (ta : TA) : TI := fun σ H R => ta σ H fun vs H1 => ∃ j : Int, vs = [.int j] ∧ -(2 ^ 62) ≤ j ∧ j < 2 ^ 62 ∧ R (Itr 0 j.toNat) H1
def iRng2 (ta : TA) : TI := fun σ H R => ta σ H fun vs H1 => ∃ i j : Int, vs = [.int i, .int j] ∧ (-(2 ^ 62) ≤ i ∧ i < 2 ^ 62 ∧ -(2 ^ 62) ≤ j ∧ j < 2 ^ 62) ∧ R (Itr i (j - i).toNat) H1
theorem pi_range1 {a : Expr} {ta : TA} {p pos : Pos} (hg : Gl X "range") (hm : X.mg "range" = none) (ha : PA X [a] ta) (hs : starEach [a] X.env = [(false, eval a X.env)] := by rfl) : PI X tg (.Call (.Name "range" p) [a] [] pos) (iRng1 ta) := by
  intro pins s σ H R I h
  refine Call_ (ld_blt I hg hm boot_range (PyProof.Rows.callWith_type1 (thn (ha pos pins s σ H _ I h) fun us s1 ⟨vs, H1, I1, r1, q1⟩ => ?_) hs rfl))
  obtain ⟨j, e, q1, q2, q⟩ := q1
  subst e
  cases r1 with
  | cons r rr =>
    cases rr
    obtain ⟨t, rfl⟩ := r
    exact call_range_1 (range_it I1 (by omega) (by omega) q1 q2 (by simpa using q))
theorem pi_range2 {a b : Expr} {ta : TA} {p pos : Pos} (hg : Gl X "range") (hm : X.mg "range" = none) (ha : PA X [a, b] ta) (hs : starEach [a, b] X.env = [(false, eval a X.env), (false, eval b X.env)] := by rfl) (hs2 : starEach [b] X.env = [(false, eval b X.env)] := by rfl) :
    PI X tg (.Call (.Name "range" p) [a, b] [] pos) (iRng2 ta) := by
  intro pins s σ H R I h
  refine Call_ (ld_blt I hg hm boot_range (PyProof.Rows.callWith_type1 (thn (ha pos pins s σ H _ I h) fun us s1 ⟨vs, H1, I1, r1, q1⟩ => ?_) (by rw [hs, hs2]) (by rw [hs2]; rfl)))
  obtain ⟨i, j, e, ⟨q1, q2, q3, q4⟩, q⟩ := q1
  subst e
  cases r1 with
  | cons r rr =>
    cases rr with
    | cons r' rr =>
      cases rr
      obtain ⟨t, rfl⟩ := r
      obtain ⟨t', rfl⟩ := r'
      exact call_range_2 (range_it I1 q1 q2 q3 q4 q)
def tFor (wi : TI) (g : TG) (tb : TS) : TS := fun D σ H => wi σ H fun J H1 => ∃ W : Nat → Nat → St → Hp → Prop, (∃ m, W 0 m σ H1) ∧ ∀ i m σ H, W i m σ H →
  (J.stop i H ∧ D.nx σ H) ∨ (J.go i H ∧ ∃ N : St → Hp → Prop, (∀ σ' H', N σ' H' → ∃ m', m' < m ∧ W (i + 1) m' σ' H') ∧ ∀ x H', J.yld i H x H' → g x σ H' fun σ2 H2 => tb { D with nx := N, ct := N, bk := D.nx } σ2 H2)
def pinsAt (fp : List Addr) (h : Heap) : List (Addr × Obj) := fp.filterMap fun b => (h.get? b).map fun o => (b, o)
theorem mem_pinsAt {fp : List Addr} {h : Heap} {b : Addr} {o : Obj} (hb : b ∈ fp) (e : h.get? b = some o) : (b, o) ∈ pinsAt fp h := List.mem_filterMap.mpr ⟨b, hb, by rw [e]; rfl⟩
theorem of_pinsAt {fp : List Addr} {h : Heap} {p : Addr × Obj} (hp : p ∈ pinsAt fp h) : p.1 ∈ fp ∧ h.get? p.1 = some p.2 := by
  obtain ⟨b, hb, e⟩ := List.mem_filterMap.mp hp
  cases q : h.get? b with
  | none => rw [q] at e; cases e
  | some o =>
    rw [q] at e
    have e' : (b, o) = p := Option.some.inj e
    subst e'
    exact ⟨hb, q⟩
theorem Inv.pinned {pins : List (Addr × Obj)} {σ : St} {H : Hp} {s : Shared} {fp : List Addr} (I : Inv X pins σ H s) (hf : ∀ b ∈ fp, FpOk X pins H b) (ho : ∀ b ∈ fp, ∃ o, s.heap.get? b = some o ∧ ∀ v, o.data ≠ .cell v) : Inv X (pins ++ pinsAt fp s.heap) σ H s :=
  I.pins_of fun p hp => (List.mem_append.mp hp).elim (fun z => I.pin p (List.mem_append_right _ z)) fun z => by
    obtain ⟨hb, e⟩ := of_pinsAt z
    obtain ⟨f0, f1, f2, _⟩ := hf p.1 hb
    obtain ⟨o, e', d⟩ := ho p.1 hb
    rw [e] at e'; cases e'
    exact ⟨e, f0, f1, f2, d⟩
theorem Inv.unpinned {pins pl : List (Addr × Obj)} {σ : St} {H : Hp} {s : Shared} (I : Inv X (pins ++ pl) σ H s) : Inv X pins σ H s := I.pins_of fun p hp => I.pin p (List.mem_append_right _ (List.mem_append_left _ hp))
theorem ps_for {iter : Expr} {body : List Stmt} {wi : TI} {g : TG} {tb : TS} {pos : Pos} (hp : PassesOwn (model X.prog X.w) X.A X.env X.xe) (hc : X.calm = true) (hi : PI X tg iter wi) (hg : PG X tg g) (hb : PSs X body tb)
    (hs : ∀ x, foldedSetIterable iter X.env x = pure x := by intro _; rfl) : PS X (.For tg iter body [] pos) (tFor wi g tb) := by
  intro pins s σ H D I h
  refine wpAny_For (thn (hi pins s σ H _ I h) fun v s1 h1 => thn h1 fun itv s2 h2 => ?_) hs
  obtain ⟨it, fp, tn, J, H2, e, I2, T, st2, f2, W, ⟨m0, w0⟩, turn⟩ := h2
  subst e
  -- what stays true of the iterator's objects through the loop
  have stat : ∀ {H' : Hp}, (∀ b ∈ fp, H' b = none) → ∀ b ∈ fp, FpOk X pins H' b := fun hn b hb => ⟨hn b hb, (f2 b hb).2⟩
  refine codeAny_forLoop_any (fun n s' => ∃ i σ' H', Inv X pins σ' H' s' ∧ tn i s'.heap ∧ (∀ b ∈ fp, H' b = none) ∧ W i n σ' H') ?_ m0 ⟨0, σ, H2, I2, st2, fun b hb => (f2 b hb).1, w0⟩
  rintro n s3 ⟨i, σ3, H3, I3, st3, fr3, w3⟩
  rcases turn i n σ3 H3 w3 with ⟨stop, qn⟩ | ⟨go, N, hN, step⟩
  · refine wpAny_passesOwn hp (thn (T.done X rfl rfl rfl hc i pins s3 σ3 H3 X.xe I3 (stat fr3) st3 stop) fun r s4 ⟨hr, I4⟩ => ?_)
    subst hr
    exact wpAny_execs_nil ⟨σ3, H3, I4, qn⟩
  · refine wpAny_passesOwn hp (thn (T.item X rfl rfl rfl hc i pins s3 σ3 H3 X.xe I3 (stat fr3) st3 go) fun r s4 ⟨u, hr, h4⟩ => ?_)
    subst hr
    refine wpAny_passesOwn hp (thn h4 fun _ s5 ⟨x, H5, I5, r5, y5, st5, fr5⟩ => ?_)
    have I5' := I5.pinned (stat fr5) (T.obj _ _ st5)
    refine wpAny_passesOwn hp (thn (hg _ s5 σ3 H5 x u _ I5' r5 (step x H5 y5)) fun _ s6 ⟨σ6, H6, I6, q6⟩ => ?_)
    refine wpAny_passesOwn hp (thn (hb _ s6 σ6 H6 _ I6 q6) fun f s7 q7 => ?_)
    have again : ∀ {σ7 : St} {H7 : Hp}, Inv X (pins ++ pinsAt fp s5.heap) σ7 H7 s7 → N σ7 H7 → ∃ m, m < n ∧ ∃ i σ' H', Inv X pins σ' H' s7 ∧ tn i s7.heap ∧ (∀ b ∈ fp, H' b = none) ∧ W i m σ' H' := fun {σ7 H7} I7 n7 => by
      obtain ⟨m', hm, w7⟩ := hN σ7 H7 n7
      refine ⟨m', hm, i + 1, σ7, H7, I7.unpinned, T.keep _ _ _ st5 fun b hb o e => (I7.pin (b, o) (List.mem_append_right _ (List.mem_append_right _ (mem_pinsAt hb e)))).1, fun b hb => ?_, w7⟩
      obtain ⟨o, e, d⟩ := T.obj _ _ st5 b hb
      exact (I7.pin (b, o) (List.mem_append_right _ (List.mem_append_right _ (mem_pinsAt hb e)))).2.1
    cases f with
    | next => obtain ⟨σ7, H7, I7, n7⟩ := q7; exact again I7 n7
    | cont => obtain ⟨σ7, H7, I7, n7⟩ := q7; exact again I7 n7
    | brk => obtain ⟨σ7, H7, I7, q7⟩ := q7; exact ⟨σ7, H7, I7.unpinned, q7⟩
    | ret v => obtain ⟨x7, σ7, H7, I7, r7, q7⟩ := q7; exact ⟨x7, σ7, H7, I7.unpinned, r7, q7⟩
end
end L2
namespace L2
open PySem PySem.Spec PyProof.Rows
abbrev R2 := V → V → Hp → VK → Prop
def OpR (X : Cx) (f : Value → Value → Sem Value) (r : R2) : Prop :=
  ∀ (pins : List (Addr × Obj)) (s : Shared) (σ : St) (H : Hp) (x y : V) (v u : Value) (Q : VK), Inv X pins σ H s → RelV x v → RelV y u → r x y H Q →
    wpAny (model X.prog X.w) X.A (f v u) (EP X pins σ Q) X.xe s
def UnR (X : Cx) (f : Value → Sem Value) (r : V → Hp → VK → Prop) : Prop :=
  ∀ (pins : List (Addr × Obj)) (s : Shared) (σ : St) (H : Hp) (x : V) (v : Value) (Q : VK), Inv X pins σ H s → RelV x v → r x H Q →
    wpAny (model X.prog X.w) X.A (f v) (EP X pins σ Q) X.xe s
def CallR (X : Cx) (f : Value) (r : List V → Hp → VK → Prop) : Prop :=
  ∀ (pins : List (Addr × Obj)) (s : Shared) (σ : St) (H : Hp) (xs : List V) (us : List Value) (Q : VK), Inv X pins σ H s → Vals xs us → r xs H Q →
    wpAny (model X.prog X.w) X.A (call f us) (EP X pins σ Q) X.xe s
def tOp (r : R2) (ta tb : TE) : TE := fun σ H Q => ta σ H fun x H1 => tb σ H1 fun y H2 => r x y H2 Q
def tUn (r : V → Hp → VK → Prop) (ta : TE) : TE := fun σ H Q => ta σ H fun x H1 => r x H1 Q
def rI (C : Int → Int → Prop) (g : Int → Int → V) : R2 := fun x y H Q => ∃ i j, x = .int i ∧ y = .int j ∧ C i j ∧ Q (g i j) H
def rI0 (g : Int → Int → V) : R2 := fun x y H Q => ∃ i j, x = .int i ∧ y = .int j ∧ Q (g i j) H
def rU (g : Int → V) : V → Hp → VK → Prop := fun x H Q => ∃ i, x = .int i ∧ Q (g i) H
section
variable {X : Cx} {a b c : Expr} {ta tb tc : TE} {pos : Pos}
theorem binT (ha : PE X a ta) (hb : PE X b tb) {pins : List (Addr × Obj)} {s : Shared} {σ : St} {H : Hp} {R : V → V → Hp → Prop} (I : Inv X pins σ H s)
    (h : ta σ H fun x H1 => tb σ H1 fun y H2 => R x y H2) {Q : Value → Shared → Prop} {f : Value → Value → Sem Value}
    (hf : ∀ v u s2 x y H2, Inv X pins σ H2 s2 → RelV x v → RelV y u → R x y H2 → wpAny (model X.prog X.w) X.A (f v u) Q X.xe s2) :
    wpAny (model X.prog X.w) X.A (eval a X.env) (fun v s₁ => wpAny (model X.prog X.w) X.A (eval b X.env) (fun u s₂ => wpAny (model X.prog X.w) X.A (f v u) Q X.xe s₂) X.xe s₁) X.xe s := by
  refine thn (ha pins s σ H _ I h) fun v s1 ⟨x, H1, I1, r1, q1⟩ => ?_
  refine thn (hb pins s1 σ H1 _ I1 q1) fun u s2 ⟨y, H2, I2, r2, q2⟩ => ?_
  exact hf v u s2 x y H2 I2 r1 r2 q2
theorem pe_op {op : Operator} {r : R2} (ho : OpR X (binaryOp op) r) (ha : PE X a ta) (hb : PE X b tb) : PE X (.BinOp a op b pos) (tOp r ta tb) := by
  intro pins s σ H Q I h
  exact wpAny_BinOp (binT ha hb I h fun v u s2 x y H2 I2 rx ry q => ho pins s2 σ H2 x y v u Q I2 rx ry q)
theorem pe_un {op : UnaryOp} {r : V → Hp → VK → Prop} (ho : UnR X (unaryOp op) r) (ha : PE X a ta) : PE X (.UnaryOp op a pos) (tUn r ta) := by
  intro pins s σ H Q I h
  exact UnaryOp_ (thn (ha pins s σ H _ I h) fun v s1 ⟨x, H1, I1, r1, q1⟩ => ho pins s1 σ H1 x v Q I1 r1 q1)
theorem opI {f : Value → Value → Sem Value} {C : Int → Int → Prop} {g : Int → Int → Int}
    (rule : ∀ (i j : Int) (t u : Tok) (s : Shared) (Q : Value → Shared → Prop) (E : Value → Shared → Prop), C i j → Q (.int (g i j) s.toks) { s with toks := s.toks + 1 } → wpAny (model X.prog X.w) X.A (f (.int i t) (.int j u)) Q E s) :
    OpR X f (rI C fun i j => .int (g i j)) := by
  intro pins s σ H x y v u Q I rx ry h
  obtain ⟨i, j, rfl, rfl, hc, q⟩ := h
  obtain ⟨t, rfl⟩ := rx
  obtain ⟨t', rfl⟩ := ry
  exact rule i j t t' s _ _ hc ⟨.int (g i j), H, I.tok _, ⟨_, rfl⟩, q⟩
theorem opI0 {f : Value → Value → Sem Value} {g : Int → Int → Int}
    (rule : ∀ (i j : Int) (t u : Tok) (s : Shared) (Q : Value → Shared → Prop) (E : Value → Shared → Prop), Q (.int (g i j) s.toks) { s with toks := s.toks + 1 } → wpAny (model X.prog X.w) X.A (f (.int i t) (.int j u)) Q E s) :
    OpR X f (rI0 fun i j => .int (g i j)) := by
  intro pins s σ H x y v u Q I rx ry h
  obtain ⟨i, j, rfl, rfl, q⟩ := h
  obtain ⟨t, rfl⟩ := rx
  obtain ⟨t', rfl⟩ := ry
  exact rule i j t t' s _ _ ⟨.int (g i j), H, I.tok _, ⟨_, rfl⟩, q⟩
theorem opB0 {f : Value → Value → Sem Value} {g : Int → Int → Bool}
    (rule : ∀ (i j : Int) (t u : Tok) (s : Shared) (Q : Value → Shared → Prop) (E : Value → Shared → Prop), Q (.bool (g i j)) s → wpAny (model X.prog X.w) X.A (f (.int i t) (.int j u)) Q E s) :
    OpR X f (rI0 fun i j => .bl (g i j)) := by
  intro pins s σ H x y v u Q I rx ry h
  obtain ⟨i, j, rfl, rfl, q⟩ := h
  obtain ⟨t, rfl⟩ := rx
  obtain ⟨t', rfl⟩ := ry
  exact rule i j t t' s _ _ ⟨.bl (g i j), H, I, rfl, q⟩
def CPow (i j : Int) : Prop := 0 ≤ j ∧ j ≤ 1000000 ∧ i.natAbs < 2 ^ 64
def CMul (i j : Int) : Prop := (-(2 ^ 64) < i ∧ i < 2 ^ 64) ∨ (-(2 ^ 64) < j ∧ j < 2 ^ 64)
theorem CMul.ok {i j : Int} (h : CMul i j) : IntMulOk i j := by
  rcases h with ⟨h1, h2⟩ | ⟨h1, h2⟩
  · exact .of_left (intBits_le_64 h1 h2)
  · exact .of_right (intBits_le_64 h1 h2)
theorem op_add : OpR X (binaryOp .Add) (rI0 fun i j => .int (i + j)) := opI0 fun _ _ _ _ _ _ _ q => add_int q
theorem op_sub : OpR X (binaryOp .Sub) (rI0 fun i j => .int (i - j)) := opI0 fun _ _ _ _ _ _ _ q => sub_int q
theorem op_modN : OpR X (binaryOp .Mod) (rI (fun _ j => j ≠ 0) fun i j => .int (i.fmod j)) := opI fun _ _ _ _ _ _ _ hc q => mod_int' hc q
theorem op_pow : OpR X (binaryOp .Pow) (rI CPow fun i j => .int (i ^ j.toNat)) := opI fun _ _ _ _ _ _ _ hc q => pow_int_small hc.1 hc.2.1 hc.2.2 q
theorem unI {f : Value → Sem Value} {g : Int → Int}
    (rule : ∀ (i : Int) (t : Tok) (s : Shared) (Q : Value → Shared → Prop) (E : Value → Shared → Prop), Q (.int (g i) s.toks) { s with toks := s.toks + 1 } → wpAny (model X.prog X.w) X.A (f (.int i t)) Q E s) :
    UnR X f (rU fun i => .int (g i)) := by
  intro pins s σ H x v Q I rx h
  obtain ⟨i, rfl, q⟩ := h
  obtain ⟨t, rfl⟩ := rx
  exact rule i t s _ _ ⟨.int (g i), H, I.tok _, ⟨_, rfl⟩, q⟩
theorem un_neg : UnR X (unaryOp .USub) (rU fun i => .int (-i)) := unI fun _ _ _ _ _ q => neg_int q
end
def scal : V → V → Bool
  | .non, .non => true | .non, .int _ => true | .int _, .non => true | .non, .bl _ => true | .bl _, .non => true | .non, .str _ => true | .str _, .non => true
  | .int _, .int _ => true | .bl _, .bl _ => true | .str _, .str _ => true | .byt _, .byt _ => true
  | .int _, .str _ => true | .str _, .int _ => true | .bl _, .str _ => true | .str _, .bl _ => true
  | _, _ => false
def rEq : R2 := fun x y H Q => scal x y = true ∧ Q (.bl (decide (x = y))) H
def rNe : R2 := fun x y H Q => scal x y = true ∧ Q (.bl (!decide (x = y))) H
theorem dec_int {i j : Int} : decide (V.int i = V.int j) = (i == j) := by
  rw [Bool.eq_iff_iff]
  simp
theorem dec_bl {i j : Bool} : decide (V.bl i = V.bl j) = (i == j) := by
  rw [Bool.eq_iff_iff]
  simp
theorem dec_str {i j : Str} : decide (V.str i = V.str j) = (i == j) := by
  rw [Bool.eq_iff_iff]
  simp
theorem dec_byt {i j : Array UInt8} : decide (V.byt i = V.byt j) = (i.toList == j.toList) := by
  rw [Bool.eq_iff_iff]
  cases i
  cases j
  simp
section
variable {X : Cx} {a b c : Expr} {ta tb tc : TE} {pos : Pos}
theorem fin_bl {pins : List (Addr × Obj)} {σ : St} {H : Hp} {s : Shared} {Q : VK} {k k' : Bool} (I : Inv X pins σ H s) (q : Q (.bl k) H) (e : k = k') : EP X pins σ Q (.bool k') s := by
  subst e
  exact ⟨.bl k, H, I, rfl, q⟩
theorem op_eq : OpR X (compareOp .Eq) rEq := by
  intro pins s σ H x y v u Q I rx ry h
  obtain ⟨hs, q⟩ := h
  cases x with
  | non =>
    cases rx
    cases y with
    | non => cases ry; exact PySem.EqNone.eq_none_none (fin_bl I q (by simp))
    | bl j => cases ry; exact PySem.EqNone.eq_none_bool (fin_bl I q (by simp))
    | int j => obtain ⟨t', rfl⟩ := ry; exact PySem.EqNone.eq_none_int (fin_bl I q (by simp))
    | str j => obtain ⟨t', rfl⟩ := ry; exact PySem.EqNone.eq_none_str (fin_bl I q (by simp))
    | _ => exact absurd (show false = true from hs) Bool.false_ne_true
  | bl i =>
    cases rx
    cases y with
    | non => cases ry; exact PySem.EqNone.eq_bool_none (fin_bl I q (by simp))
    | bl j => cases ry; exact eq_bool (fin_bl I q dec_bl)
    | str j => obtain ⟨t', rfl⟩ := ry; exact PySem.EqMixed.eq_bool_str (fin_bl I q (by simp))
    | _ => exact absurd (show false = true from hs) Bool.false_ne_true
  | int i =>
    obtain ⟨t, rfl⟩ := rx
    cases y with
    | non => cases ry; exact PySem.EqNone.eq_int_none (fin_bl I q (by simp))
    | int j => obtain ⟨t', rfl⟩ := ry; exact eq_int (fin_bl I q dec_int)
    | str j => obtain ⟨t', rfl⟩ := ry; exact PySem.EqMixed.eq_int_str (fin_bl I q (by simp))
    | _ => exact absurd (show false = true from hs) Bool.false_ne_true
  | str i =>
    obtain ⟨t, rfl⟩ := rx
    cases y with
    | non => cases ry; exact PySem.EqNone.eq_str_none (fin_bl I q (by simp))
    | bl j => cases ry; exact PySem.EqMixed.eq_str_bool (fin_bl I q (by simp))
    | int j => obtain ⟨t', rfl⟩ := ry; exact PySem.EqMixed.eq_str_int (fin_bl I q (by simp))
    | str j => obtain ⟨t', rfl⟩ := ry; exact eq_str (fin_bl I q dec_str)
    | _ => exact absurd (show false = true from hs) Bool.false_ne_true
  | byt i =>
    obtain ⟨t, rfl⟩ := rx
    cases y with
    | byt j => obtain ⟨t', rfl⟩ := ry; exact PySem.W.eq_bytes (fin_bl I q dec_byt)
    | _ => exact absurd (show false = true from hs) Bool.false_ne_true
  | _ => cases y <;> exact absurd (show false = true from hs) Bool.false_ne_true
theorem op_ne : OpR X (compareOp .NotEq) rNe := by
  intro pins s σ H x y v u Q I rx ry h
  obtain ⟨hs, q⟩ := h
  cases x with
  | non =>
    cases rx
    cases y with
    | non => cases ry; exact PySem.EqNone.ne_none_none (fin_bl I q (by simp))
    | bl j => cases ry; exact PySem.EqNone.ne_none_bool (fin_bl I q (by simp))
    | int j => obtain ⟨t', rfl⟩ := ry; exact PySem.EqNone.ne_none_int (fin_bl I q (by simp))
    | str j => obtain ⟨t', rfl⟩ := ry; exact PySem.EqNone.ne_none_str (fin_bl I q (by simp))
    | _ => exact absurd (show false = true from hs) Bool.false_ne_true
  | bl i =>
    cases rx
    cases y with
    | non => cases ry; exact PySem.EqNone.ne_bool_none (fin_bl I q (by simp))
    | bl j => cases ry; exact ne_bool (fin_bl I q (congrArg not dec_bl))
    | str j => obtain ⟨t', rfl⟩ := ry; exact PySem.EqMixed.ne_bool_str (fin_bl I q (by simp))
    | _ => exact absurd (show false = true from hs) Bool.false_ne_true
  | int i =>
    obtain ⟨t, rfl⟩ := rx
    cases y with
    | non => cases ry; exact PySem.EqNone.ne_int_none (fin_bl I q (by simp))
    | int j => obtain ⟨t', rfl⟩ := ry; exact ne_int (fin_bl I q (congrArg not dec_int))
    | str j => obtain ⟨t', rfl⟩ := ry; exact PySem.EqMixed.ne_int_str (fin_bl I q (by simp))
    | _ => exact absurd (show false = true from hs) Bool.false_ne_true
  | str i =>
    obtain ⟨t, rfl⟩ := rx
    cases y with
    | non => cases ry; exact PySem.EqNone.ne_str_none (fin_bl I q (by simp))
    | bl j => cases ry; exact PySem.EqMixed.ne_str_bool (fin_bl I q (by simp))
    | int j => obtain ⟨t', rfl⟩ := ry; exact PySem.EqMixed.ne_str_int (fin_bl I q (by simp))
    | str j => obtain ⟨t', rfl⟩ := ry; exact ne_str (fin_bl I q (congrArg not dec_str))
    | _ => exact absurd (show false = true from hs) Bool.false_ne_true
  | byt i =>
    obtain ⟨t, rfl⟩ := rx
    cases y with
    | byt j => obtain ⟨t', rfl⟩ := ry; exact PySem.W.ne_bytes (fin_bl I q (congrArg not dec_byt))
    | _ => exact absurd (show false = true from hs) Bool.false_ne_true
  | _ => cases y <;> exact absurd (show false = true from hs) Bool.false_ne_true
theorem op_lt : OpR X (compareOp .Lt) (rI0 fun i j => .bl (decide (i < j))) := opB0 fun _ _ _ _ _ _ _ q => lt_int q
theorem op_le : OpR X (compareOp .LtE) (rI0 fun i j => .bl (decide (i ≤ j))) := opB0 fun _ _ _ _ _ _ _ q => le_int q
theorem op_gt : OpR X (compareOp .Gt) (rI0 fun i j => .bl (decide (j < i))) := opB0 fun _ _ _ _ _ _ _ q => gt_int q
theorem op_ge : OpR X (compareOp .GtE) (rI0 fun i j => .bl (decide (j ≤ i))) := opB0 fun _ _ _ _ _ _ _ q => ge_int q
theorem OpR.or {f : Value → Value → Sem Value} {r r' : R2} (h : OpR X f r) (h' : OpR X f r') : OpR X f (fun x y H Q => r x y H Q ∨ r' x y H Q) := by
  intro pins s σ H x y v u Q I rx ry q
  rcases q with q | q
  · exact h pins s σ H x y v u Q I rx ry q
  · exact h' pins s σ H x y v u Q I rx ry q
theorem nomark (b : Expr) {op : CmpOp} (h : op ≠ .In := by decide) (h2 : op ≠ .NotIn := by decide) : behindInMarks op b = false := by
  have e1 : (op == CmpOp.In) = false := by cases op <;> first | rfl | exact absurd rfl h
  have e2 : (op == CmpOp.NotIn) = false := by cases op <;> first | rfl | exact absurd rfl h2
  cases b <;> simp [behindInMarks, e1, e2]
theorem pe_cmpR {op : CmpOp} {r : R2} (ho : OpR X (compareOp op) r) (ha : PE X a ta) (hb : PE X b tb) (hm : behindInMarks op b = false) : PE X (.Compare a [op] [b] pos) (tOp r ta tb) := by
  intro pins s σ H Q I h
  exact wpAny_Compare1 (binT ha hb I h fun v u s2 x y H2 I2 rx ry q => ho pins s2 σ H2 x y v u Q I2 rx ry q) hm
def tTest (t : TE) : TT := fun σ H Q => t σ H fun x H' => ∃ k, x = .bl k ∧ Q k H'
theorem pt_cmpR {op : CmpOp} {r : R2} (ho : OpR X (compareOp op) r) (ha : PE X a ta) (hb : PE X b tb) (hm : behindInMarks op b = false) : PT X (.Compare a [op] [b] pos) (tTest (tOp r ta tb)) := by
  intro pins s σ H Q I h
  refine wpAny_isTrue_Compare1 (thn (ha pins s σ H _ I h) fun v s1 ⟨x, H1, I1, r1, q1⟩ => thn (hb pins s1 σ H1 _ I1 q1) fun u s2 ⟨y, H2, I2, r2, q2⟩ =>
    thn (ho pins s2 σ H2 x y v u _ I2 r1 r2 q2) fun c s3 ⟨z, H3, I3, r3, k, e, q3⟩ => ?_) hm
  subst e
  cases r3
  exact wpAny_truthy_bool ⟨H3, I3, q3⟩
def tChain (r r' : R2) (ta tb tc : TE) : TE := fun σ H Q => ta σ H fun x H1 => tb σ H1 fun y H2 => r x y H2 fun z H3 => ∃ k, z = .bl k ∧
  (if k = true then tc σ H3 fun w' H4 => r' y w' H4 Q else Q (.bl false) H3)
theorem pe_chain {op op' : CmpOp} {r r' : R2} (ho : OpR X (compareOp op) r) (ho' : OpR X (compareOp op') r') (ha : PE X a ta) (hb : PE X b tb) (hc : PE X c tc)
    (hm : lastMarks [op, op'] [b, c] = false := by with_unfolding_all rfl) : PE X (.Compare a [op, op'] [b, c] pos) (tChain r r' ta tb tc) := by
  intro pins s σ H Q I h
  refine Compare_chain (thn (ha pins s σ H _ I h) fun v s1 ⟨x, H1, I1, r1, q1⟩ => chain_link (thn (hb pins s1 σ H1 _ I1 q1) fun u s2 ⟨y, H2, I2, r2, q2⟩ =>
    thn (ho pins s2 σ H2 x y v u _ I2 r1 r2 q2) fun d s3 ⟨z, H3, I3, r3, k, e, q3⟩ => ?_)) hm
  subst e
  cases r3
  refine wpAny_truthy_bool ?_
  cases k with
  | false => exact ite_ff ⟨.bl false, H3, I3, rfl, q3⟩
  | true => exact ite_tt (chain_last (thn (hc pins s3 σ H3 _ I3 q3) fun w' s4 ⟨z', H4, I4, r4, q4⟩ => ho' pins s4 σ H4 y z' u w' Q I4 r2 r4 q4))
theorem line63 : (sizeLine : Nat) < 2 ^ 63 := by rw [sizeLine_eq]; decide
theorem vals1 {x : V} {us : List Value} (r : Vals [x] us) : ∃ u, us = [u] ∧ RelV x u := by
  cases r with
  | cons r1 r2 => cases r2; exact ⟨_, rfl, r1⟩
theorem vals2 {x y : V} {us : List Value} (r : Vals [x, y] us) : ∃ u w', us = [u, w'] ∧ RelV x u ∧ RelV y w' := by
  cases r with
  | cons r1 r2 =>
    cases r2 with
    | cons r3 r4 => cases r4; exact ⟨_, _, rfl, r1, r3⟩
theorem call_max2 (hc : X.calm = true) : CallR X (.builtin "max") (fun xs H Q => ∃ i j, xs = [.int i, .int j] ∧ Q (.int (if j > i then j else i)) H) := by
  intro pins s σ H xs us Q I r h
  obtain ⟨i, j, rfl, q⟩ := h
  obtain ⟨u, w', rfl, ⟨t, rfl⟩, ⟨t', rfl⟩⟩ := vals2 r
  refine max_two_ints (I.ok.hd hc) fun h' tk k => ⟨_, H, I.kept k, ?_, q⟩
  by_cases hj : j > i
  · rw [if_pos hj, if_pos hj]; exact ⟨_, rfl⟩
  · rw [if_neg hj, if_neg hj]; exact ⟨_, rfl⟩
theorem call_min2 (hc : X.calm = true) : CallR X (.builtin "min") (fun xs H Q => ∃ i j, xs = [.int i, .int j] ∧ Q (.int (if j < i then j else i)) H) := by
  intro pins s σ H xs us Q I r h
  obtain ⟨i, j, rfl, q⟩ := h
  obtain ⟨u, w', rfl, ⟨t, rfl⟩, ⟨t', rfl⟩⟩ := vals2 r
  refine min_two_ints (I.ok.hd hc) fun h' tk k => ⟨_, H, I.kept k, ?_, q⟩
  by_cases hj : j < i
  · rw [if_pos hj, if_pos hj]; exact ⟨_, rfl⟩
  · rw [if_neg hj, if_neg hj]; exact ⟨_, rfl⟩
end
end L2
namespace L2
open PySem PySem.Spec PyProof.Rows
theorem RelO.none_of {o : Option Value} (r : RelO none o) : o = none := by
  cases o with
  | none => rfl
  | some u => exact (show False from r).elim
structure Cls (K : PySem.W.Frag) (C : Addr) : Prop where
  pg : PySem.W.plainGet K C Str.empty = true
  hd : PySem.W.hasDictIn K C = true
  po : PySem.W.plainOver K C = true
  sa : PySem.W.findIn K (.ref C) "__setattr__" = some (some (.builtin "object.__setattr__"))
theorem Cls.get {K : PySem.W.Frag} {C : Addr} (c : Cls K C) (f : Str) : PySem.W.plainGet K C f = true := c.pg
def NoAttr (K : PySem.W.Frag) (C : Addr) (f : Str) : Prop := PySem.W.findIn K (.ref C) f = some none
end L2
namespace L2
open PySem PySem.Spec PyProof.Rows
structure Room (k : Nat) (A : Around) : Prop where
  hd : A.handled = none
  dp : A.depth + 3 * k + 5 < recursionLimit
  un : A.units + 16 * k + 200 < cLine
theorem Room.mono {j k : Nat} {A : Around} (r : Room k A) (h : j ≤ k) : Room j A := ⟨r.hd, by have := r.dp; omega, by have := r.un; omega⟩
theorem Room.deeper {k : Nat} {A : Around} (r : Room (k + 1) A) (env : Env) : Room k (A.deeper env) :=
  ⟨r.hd, by have := r.dp; show A.depth + 1 + 3 * k + 5 < _; omega, by have := r.un; show A.units + 3 + 16 * k + 200 < _; omega⟩
theorem Room.in1 {k : Nat} {A : Around} (r : Room (k + 1) A) : Room k A.in1 :=
  ⟨r.hd, by have := r.dp; show A.depth + 3 * k + 5 < _; omega, by have := r.un; show A.units + 1 + 16 * k + 200 < _; omega⟩
theorem Room.depth {k : Nat} {A : Around} (r : Room k A) : A.depth < recursionLimit := by have := r.dp; omega
theorem Room.units {k : Nat} {A : Around} (r : Room k A) : A.units + 64 < cLine := by have := r.un; omega
def tNil : TA := fun _ H Q => Q [] H
def tCons (ta : TE) (tr : TA) : TA := fun σ H Q => ta σ H fun x H1 => tr σ H1 fun xs H2 => Q (x :: xs) H2
section
variable {X : Cx} {e : Expr} {es : List Expr} {te : TE} {t : TA} {pos : Pos}
theorem pa_nil : PA X [] tNil := fun _ _ _ _ H Q I h => Calls.spliced_nil ⟨[], H, I, .nil, h⟩
theorem pa_cons (ha : PE X e te) (hr : PA X es t) (hs : starEach (e :: es) X.env = (false, eval e X.env) :: starEach es X.env := by rfl) : PA X (e :: es) (tCons te t) := by
  intro pos pins s σ H Q I h
  rw [hs]
  show wpAny _ _ (spliced ((false, eval e X.env) :: backTo pos (starEach es X.env))) _ _ s
  refine Calls.spliced_cons (thn (ha pins s σ H _ I h) fun u s1 ⟨x, H1, I1, r1, q1⟩ => ?_)
  exact thn (hr pos pins s1 σ H1 _ I1 q1) fun us s2 ⟨xs, H2, I2, r2, q2⟩ => ⟨x :: xs, H2, I2, .cons r1 r2, q2⟩
def tTup (t : TA) : TE := fun σ H Q => t σ H fun xs H1 => xs.length ≤ sizeLine ∧ ∀ p, H1 p = none → Q (.ref p) (upd H1 p (.tup xs))
def tLst (t : TA) : TE := fun σ H Q => t σ H fun xs H1 => xs.length ≤ sizeLine ∧ ∀ p, H1 p = none → Q (.ref p) (upd H1 p (.lst xs))
theorem pe_tup {x1} (h : PA X es t) : PE X (.Tuple es x1 pos) (tTup t) := by
  intro pins s σ H Q I hq
  refine wpAny_Tuple_spliced (thn (h pos pins s σ H _ I hq) fun us s1 ⟨xs, H1, I1, r, z, q⟩ => ⟨by rw [← r.length]; exact z, ?_⟩)
  have hf : H1 s1.heap.objs.size = none := I1.hok.fresh (Nat.le_refl _)
  refine ⟨.ref s1.heap.objs.size, upd H1 s1.heap.objs.size (.tup xs), I1.laid (t' := s1.toks) (fun b u e => Heap.get?_push_of_some _ e) (Nat.le_refl _) ?_, rfl, q _ hf⟩
  exact ⟨z, us, r, ⟨_, Heap.get?_push_size _ rfl, rfl, _, rfl⟩⟩
theorem pe_lst (h : PA X es t) : PE X (.List es pos) (tLst t) := by
  intro pins s σ H Q I hq
  refine wpAny_List_spliced (thn (h pos pins s σ H _ I hq) fun us s1 ⟨xs, H1, I1, r, z, q⟩ => ⟨by rw [← r.length]; exact z, ?_⟩)
  have hf : H1 s1.heap.objs.size = none := I1.hok.fresh (Nat.le_refl _)
  refine ⟨.ref s1.heap.objs.size, upd H1 s1.heap.objs.size (.lst xs), I1.laid (t' := s1.toks) (fun b u e => Heap.get?_push_of_some _ e) (Nat.le_refl _) ?_, rfl, q _ hf⟩
  exact ⟨z, us, 0, r, Heap.get?_push_size _ rfl⟩
end
abbrev Sp := List V → Hp → VK → XK → Prop
abbrev CXT := List Env → Hp → Shared → XK → Value → Shared → Prop
structure Env0 (P : Program) (w : World) (K : PySem.W.Frag) (mg : Str → Option Value) (base : Heap) (A : Around) (outer : List Env) (s : Shared) (H : Hp) : Prop where
  frames : A.frames = some outer
  mod : Mod K mg base
  bs : ∀ b o, base.get? b = some o → s.heap.get? b = some o ∧ H b = none
  bsz : base.objs.size ≤ s.heap.objs.size
  funs : s.heap.FunFrames base outer
  frf : ∀ b ∈ frs outer, H b = none
  hok : HOk P w H s.heap
  bare : AllBare s.gens
def CE (outer : List Env) (P : Program) (w : World) (H : Hp) (s : Shared) (Q : VK) (u : Value) (s' : Shared) : Prop :=
  ∃ v H', s'.os = s.os ∧ AllBare s'.gens ∧ Un (frs outer) [] H H' s.heap s'.heap ∧ HOk P w H' s'.heap ∧ RelV v u ∧ Q v H'
def CR (CX : CXT) (outer : List Env) (P : Program) (w : World) (H : Hp) (s : Shared) (Q : VK) (E : XK) (r : Result) (s' : Shared) : Prop :=
  match r with
  | .ok (.ret u) => CE outer P w H s Q u s'
  | .ok _ => False
  | .error e => CX outer H s E e s'
structure FnOk (P : Program) (w : World) (K : PySem.W.Frag) (mg : Str → Option Value) (base : Heap) (CX : CXT) (k : Nat) (f : Addr) (fd : FuncData) (ps : List Str) (sp : Sp) : Prop where
  len : ∀ vs H Q E, sp vs H Q E → vs.length = ps.length
  run : ∀ (A : Around) (outer : List Env) (s : Shared) (H : Hp) (args : Args) (us : List Value) (vs : List V) (Q : VK) (E : XK), Room k A → Env0 P w K mg base A outer s H → BindsTo s fd args (ps.zip us) → Vals vs us → sp vs H Q E →
    codeAny (model P w) A (.call (.ref f) args) (CR CX outer P w H s Q E) s
theorem FnOk.mono {P : Program} {w : World} {K : PySem.W.Frag} {mg : Str → Option Value} {base : Heap} {CX : CXT} {j k : Nat} {f : Addr} {fd : FuncData} {ps : List Str} {sp : Sp} (F : FnOk P w K mg base CX j f fd ps sp) (h : j ≤ k) :
    FnOk P w K mg base CX k f fd ps sp := ⟨F.len, fun A outer s H args us vs Q E hr => F.run A outer s H args us vs Q E (hr.mono h)⟩
theorem FnOk.imp {P : Program} {w : World} {K : PySem.W.Frag} {mg : Str → Option Value} {base : Heap} {CX : CXT} {k : Nat} {f : Addr} {fd : FuncData} {ps : List Str} {sp sp' : Sp} (F : FnOk P w K mg base CX k f fd ps sp)
    (h : ∀ vs H Q E, sp' vs H Q E → sp vs H Q E) : FnOk P w K mg base CX k f fd ps sp' :=
  ⟨fun vs H Q E q => F.len vs H Q E (h _ _ _ _ q), fun A outer s H args us vs Q E hr he hb hv hs => F.run A outer s H args us vs Q E hr he hb hv (h _ _ _ _ hs)⟩
theorem Env0.in1 {P : Program} {w : World} {K : PySem.W.Frag} {mg : Str → Option Value} {base : Heap} {A : Around} {outer : List Env} {s : Shared} {H : Hp} (e : Env0 P w K mg base A outer s H) :
    Env0 P w K mg base A.in1 outer s H := ⟨e.frames, e.mod, e.bs, e.bsz, e.funs, e.frf, e.hok, e.bare⟩
section
variable {X : Cx} {pins : List (Addr × Obj)} {σ : St} {H : Hp} {s s' : Shared}
theorem Inv.env0 (I : Inv X pins σ H s) : Env0 X.prog X.w X.K X.mg X.base X.A X.stack s H :=
  ⟨I.ok.frames, I.ok.mod, I.bs, Nat.le_trans I.ok.bsz I.sz, I.stack, I.stkFree, I.hok, I.bare⟩
theorem Inv.after {Q : VK} {u : Value} (I : Inv X pins σ H s) (h : CE X.stack X.prog X.w H s Q u s') : EP X pins σ Q u s' := by
  obtain ⟨v, H', os, bare, un, hok, r, q⟩ := h
  obtain ⟨hh, g, d, t, os'⟩ := s'
  obtain rfl : os' = s.os := os
  exact ⟨v, H', I.call (h' := hh) (g' := g) (d' := d) (t' := t) (ch := []) un hok bare (fun b z => absurd z (by simp)), r, q⟩
end
def tCall (sp : Sp) (dvs : List V) (E : XK) (t : TA) : TE := fun σ H Q => t σ H fun vs H1 => sp (vs ++ dvs) H1 Q E
def Binds (K : PySem.W.Frag) (fd : FuncData) (ps : List Str) (ds : List Value) : Prop :=
  ∀ (s : Shared) (us : List Value), K.In s.heap → (us ++ ds).length = ps.length → BindsTo s fd ⟨us, []⟩ (ps.zip (us ++ ds))
theorem Binds.all {K : PySem.W.Frag} {fd : FuncData} {ps : List Str} (h : ∀ us : List Value, us.length = ps.length → bindArgs fd ⟨us, []⟩ = pure (ps.zip us)) : Binds K fd ps [] := fun s us _ hl => by
  rw [List.append_nil] at hl ⊢
  exact .of_eq (h us hl)
def Passes (CX : CXT) (X : Cx) (E : XK) : Prop := ∀ (pins : List (Addr × Obj)) (σ : St) (H : Hp) (s : Shared) (e : Value) (s' : Shared), Inv X pins σ H s → CX X.stack H s E e s' → X.xe e s'
section
variable {X : Cx} {CX : CXT} {k : Nat} {f C : Addr} {fd : FuncData} {ps : List Str} {sp : Sp} {dvs : List V} {ds : List Value} {E : XK} {x m : Str} {p pos apos : Pos} {e o : Expr} {es : List Expr} {ta : TE} {t : TA}
theorem run_fn {pins : List (Addr × Obj)} {σ : St} {H : Hp} {s : Shared} {Q : VK} {us : List Value} {vs : List V} (F : FnOk X.prog X.w X.K X.mg X.base CX k f fd ps sp) (hr : Room k X.A) (hb : Binds X.K fd ps ds) (hd : Vals dvs ds) (hx : Passes CX X E)
    (I : Inv X pins σ H s) (r : Vals vs us) (h : sp (vs ++ dvs) H Q E) : wpAny (model X.prog X.w) X.A (call (.ref f) us) (EP X pins σ Q) X.xe s := by
  have r2 : Vals (vs ++ dvs) (us ++ ds) := r.append hd
  have hl : (us ++ ds).length = ps.length := by rw [← r2.length]; exact F.len _ _ _ _ h
  refine wpAny_call (codeAny_mono (F.run X.A X.stack s H ⟨us, []⟩ (us ++ ds) (vs ++ dvs) Q E hr I.env0 (hb s us I.kIn hl) r2 h) fun r s' hq => ?_)
  cases r with
  | error e => exact hx pins σ H s e s' I hq
  | ok fl =>
    cases fl with
    | ret u => exact I.after hq
    | next => exact False.elim hq
    | brk => exact False.elim hq
    | cont => exact False.elim hq
theorem pe_call (F : FnOk X.prog X.w X.K X.mg X.base CX k f fd ps sp) (hr : Room k X.A) (hg : Gl X x) (hm : X.mg x = some (.ref f)) (hk : PySem.W.keepIn X.K (.ref f) = true) (hb : Binds X.K fd ps ds) (hd : Vals dvs ds) (hx : Passes CX X E)
    (ha : PA X (e :: es) t) (hdb : (x == ("__debug__" : Str)) = false := by decide) (he : starEach (e :: es) X.env = (false, eval e X.env) :: starEach es X.env := by rfl) (hpl : (backTo pos (starEach es X.env)).any (·.1) = false := by rfl) :
    PE X (.Call (.Name x p) (e :: es) [] pos) (tCall sp dvs E t) := by
  intro pins s σ H Q I h
  refine wpAny_Call_Name_kw (ld_glob I hg hm ?_ hdb)
  refine PySem.W.callWith_K (h₀ := X.base) I.ok.mod.kin hk (thn (ha pos pins s σ H _ I h) fun us s1 ⟨vs, H1, I1, r, q⟩ => ⟨I1.kIn, ?_⟩) he hpl
  exact run_fn F hr hb hd hx I1 r q
theorem pe_call0 (F : FnOk X.prog X.w X.K X.mg X.base CX k f fd ps sp) (hr : Room k X.A) (hg : Gl X x) (hm : X.mg x = some (.ref f)) (hk : PySem.W.keepIn X.K (.ref f) = true) (hb : Binds X.K fd ps ds) (hd : Vals dvs ds) (hx : Passes CX X E)
    (hdb : (x == ("__debug__" : Str)) = false := by decide) : PE X (.Call (.Name x p) [] [] pos) (tCall sp dvs E tNil) := by
  intro pins s σ H Q I h
  refine wpAny_Call_Name_kw (ld_glob I hg hm ?_ hdb)
  exact PySem.W.callWith_K0 I.kIn hk (run_fn (us := []) F hr hb hd hx I .nil h)
end
section
variable {X : Cx} {CX : CXT} {k : Nat} {f C : Addr} {fd : FuncData} {ps ks : List Str} {sp : Sp} {E : XK} {x m : Str} {p pos apos kpos : Pos} {e o : Expr} {es : List Expr} {kws : List Keyword} {te ta : TE} {t tk : TA} {nm : Option Str}
variable {g : List Value → List Value → List Value} {gV : List V → List V → List V}
end
structure FnScope (N P : List Str) (sc : Scope) : Prop where
  kind : sc.kind = .function
  co : sc.isCoroutine = false
  gen : sc.isGenerator = false
  nd : N.Nodup
  pre : N.take P.length = P
  par : ∀ x ∈ P, sc.names.lookup x = some .local ∨ sc.names.lookup x = some .cell
  nofree : ∀ y ∈ sc.names, y.2 ≠ .free
theorem bindL_out {kindOf : Str → Option NameKind} {x : Str} : ∀ {binds : List (Str × Value)} {m : Str → Option Value}, (∀ v, (x, v) ∉ binds) → bindL kindOf binds m x = m x
  | [], _, _ => rfl
  | (n, v) :: r, m, h => by
    unfold bindL
    rw [bindL_out fun w hw => h w (List.mem_cons_of_mem _ hw)]
    split
    · have : x ≠ n := by rintro rfl; exact h v List.mem_cons_self
      simp [this]
    · rfl
theorem bindC_out {kindOf : Str → Option NameKind} {x : Str} : ∀ {binds : List (Str × Value)} {m : Str → Option Value}, (∀ v, (x, v) ∉ binds) → bindC kindOf binds m x = m x
  | [], _, _ => rfl
  | (n, v) :: r, m, h => by
    unfold bindC
    rw [bindC_out fun w hw => h w (List.mem_cons_of_mem _ hw)]
    split
    · rfl
    · have : x ≠ n := by rintro rfl; exact h v List.mem_cons_self
      simp [this]
theorem bindL_get {kindOf : Str → Option NameKind} {x : Str} {v : Value} : ∀ {P : List Str} {vs : List Value} {i : Nat} {m : Str → Option Value}, P.Nodup → P[i]? = some x → vs[i]? = some v → kindOf x = some .local →
    bindL kindOf (P.zip vs) m x = some v
  | [], _, _, _, _, h, _, _ => by simp at h
  | _ :: _, [], _, _, _, _, h, _ => by simp at h
  | p :: P, w :: vs, 0, m, nd, h1, h2, hk => by
    simp at h1 h2; subst h1; subst h2
    show bindL kindOf ((p, w) :: P.zip vs) m p = _
    unfold bindL
    rw [bindL_out fun v hv => (List.nodup_cons.mp nd).1 (List.of_mem_zip hv).1, if_pos hk]
    simp
  | p :: P, w :: vs, i + 1, m, nd, h1, h2, hk => by
    show bindL kindOf ((p, w) :: P.zip vs) m x = _
    unfold bindL
    exact bindL_get (i := i) (List.nodup_cons.mp nd).2 (by simpa using h1) (by simpa using h2) hk
theorem bindC_get {kindOf : Str → Option NameKind} {x : Str} {v : Value} : ∀ {P : List Str} {vs : List Value} {i : Nat} {m : Str → Option Value}, P.Nodup → P[i]? = some x → vs[i]? = some v → kindOf x ≠ some .local →
    bindC kindOf (P.zip vs) m x = some v
  | [], _, _, _, _, h, _, _ => by simp at h
  | _ :: _, [], _, _, _, _, h, _ => by simp at h
  | p :: P, w :: vs, 0, m, nd, h1, h2, hk => by
    simp at h1 h2; subst h1; subst h2
    show bindC kindOf ((p, w) :: P.zip vs) m p = _
    unfold bindC
    rw [bindC_out fun v hv => (List.nodup_cons.mp nd).1 (List.of_mem_zip hv).1, if_neg hk]
    simp
  | p :: P, w :: vs, i + 1, m, nd, h1, h2, hk => by
    show bindC kindOf ((p, w) :: P.zip vs) m x = _
    unfold bindC
    exact bindC_get (i := i) (List.nodup_cons.mp nd).2 (by simpa using h1) (by simpa using h2) hk
def start (N : List Str) (vs : List V) : St := vs.map some ++ List.replicate (N.length - vs.length) none
def cxOf (CX : CXT) (P : Program) (w : World) (K : PySem.W.Frag) (mg : Str → Option Value) (base : Heap) (N : List Str) (qual : Str) (scope : Scope) (f : Addr) (cd : Value) (A : Around) (outer : List Env) (s : Shared) (H : Hp) (E : XK) : Cx where
  prog := P
  w := w
  K := K
  mg := mg
  base := base
  A := A.deeper (envOfC qual scope s.heap.objs.size f cd)
  N := N
  s₀ := s
  H₀ := H
  env := envOfC qual scope s.heap.objs.size f cd
  outer := outer
  stack := envOfC qual scope s.heap.objs.size f cd :: outer
  ex := []
  calm := true
  fn := fun _ => true
  pn := []
  xe := fun e s' => wpAny (model P w) (A.deeper (envOfC qual scope s.heap.objs.size f cd)) (leaving (envOfC qual scope s.heap.objs.size f cd) e) (fun _ s'' => CX outer H s E e s'') (fun e' s'' => CX outer H s E e' s'') s'
theorem cell_has {sc : Scope} {n : Nat} {x : Str} (h : sc.names.lookup x = some .cell) : ∃ c, (cellsFrom n sc.names []).lookup x = some c := by
  have q := PySem.W.cellsFrom_some sc.names n [] (.inl h)
  exact Option.isSome_iff_exists.mp q
theorem inv_start {CX : CXT} {P : Program} {w : World} {K : PySem.W.Frag} {mg : Str → Option Value} {base : Heap} {N ps : List Str} {qual : Str} {scope : Scope} {f : Addr} {cd : Value} {A : Around} {outer : List Env} {s s1 : Shared} {H : Hp} {E : XK} {us : List Value} {vs : List V}
    (S : FnScope N ps scope) (hd : A.handled = none) (e0 : Env0 P w K mg base A outer s H) (hl : vs.length = ps.length) (r : Vals vs us)
    (x : InCallC s s.heap.objs.size (bindL (envOfC qual scope s.heap.objs.size f cd).kindOf (ps.zip us) fun _ => none) (cellsFrom (s.heap.objs.size + 1) scope.names []) (bindC (envOfC qual scope s.heap.objs.size f cd).kindOf (ps.zip us) fun _ => none) s1) :
    Inv (cxOf CX P w K mg base N qual scope f cd A outer s H E) [] (start N vs) H s1 := by
  have hpl : ps.length ≤ N.length := by have := congrArg List.length S.pre; rw [List.length_take] at this; omega
  obtain ⟨h1, tk, rfl, hk⟩ := x.done
  have noA : ∀ b : Addr, b ∉ (cxOf CX P w K mg base N qual scope f cd A outer s H E).ex := fun b z => absurd (show b ∈ ([] : List Addr) from z) (by simp)
  refine ⟨⟨e0.mod, S.kind, rfl, rfl, Nat.le_refl _, fun y z c h1 h2 => ?_, fun y hy => ?_, fun y c _ h => ?_, fun _ => hd, Around.frames_deeper e0.frames, .inr ⟨rfl, rfl⟩, fun b z => absurd z (noA b), e0.bs, e0.bsz, fun b _ _ => noA b, fun b z => absurd z (noA b), e0.funs, e0.frf⟩,
    rfl, e0.bare, Un.kept hk, ⟨_, x.toInCall.ns, fun i y v h1 h2 h3 => ?_⟩, fun y c h => ⟨_, x.cell y c h⟩, e0.hok.fresh (Nat.le_refl _), fun y c h => ?_, fun p hp => absurd (show p ∈ ([] : List (Addr × Obj)) from hp) (by simp), e0.hok.kept hk, ?_⟩
  · exact name_of_addr x.apart (PySem.mem_of_lookup h1) (PySem.mem_of_lookup h2)
  · have hy : scope.names.lookup y = some .cell ∨ scope.names.lookup y = some .free := hy
    rcases hy with hy | hy
    · exact cell_has hy
    · exact absurd rfl (S.nofree _ (PySem.mem_of_lookup hy))
  · exact Nat.le_of_lt (x.above y c (PySem.mem_of_lookup h))
  · have hi : i < vs.length := by
      unfold start at h2
      by_cases hi : i < vs.length
      · exact hi
      · rw [List.getElem?_append_right (by simpa using hi)] at h2
        rw [List.getElem?_replicate] at h2
        split at h2 <;> cases h2
    have ha : vs[i]? = some v := by
      unfold start at h2
      rw [List.getElem?_append_left (by simpa using hi), List.getElem?_map] at h2
      cases e : vs[i]? with
      | none => rw [e] at h2; cases h2
      | some a => rw [e] at h2; cases h2; rfl
    obtain ⟨u, hu, rv⟩ := r.get ha
    have hp : ps[i]? = some y := by
      rw [← S.pre, List.getElem?_take_of_lt (by omega)]; exact h1
    have ndP : ps.Nodup := by rw [← S.pre]; exact S.nd.sublist (List.take_sublist _ _)
    refine ⟨u, rv, ?_⟩
    rcases S.par y (List.mem_of_getElem? hp) with k | k
    · exact .inl ⟨k, bindL_get ndP hp hu k⟩
    · obtain ⟨c, e⟩ := cell_has (n := s.heap.objs.size + 1) k
      refine .inr ⟨.inl k, c, e, ?_⟩
      have q := x.cell y c e
      rw [bindC_get ndP hp hu (by show scope.names.lookup y ≠ _; rw [k]; decide)] at q
      exact q
  · exact e0.hok.fresh (Nat.le_of_lt (x.above y c (PySem.mem_of_lookup h)))
  · unfold start
    show _ = N.length
    rw [List.length_append, List.length_map, List.length_replicate]
    omega
theorem fn_of {CX : CXT} {P : Program} {w : World} {K : PySem.W.Frag} {mg : Str → Option Value} {base : Heap} {k : Nat} {f : Addr} {name qual : Str} {params : Arguments} {body : List Stmt} {scope : Scope} {dV kV doc pm cdv ct oc : Value} {an od : Option Addr}
    {osl : Array (Option Value)} {N ps : List Str} {sp : Sp} (lk : K.lookup f = some ⟨oc, od, .func (PySem.W.fnOf name qual params body scope dV kV doc pm an cdv ct), osl⟩) (hcd : PySem.W.codeIn K cdv qual = true) (S : FnScope N ps scope)
    (len : ∀ vs H Q E, sp vs H Q E → vs.length = ps.length)
    (hbody : ∀ (A : Around) (outer : List Env) (s : Shared) (H : Hp) (vs : List V) (Q : VK) (E : XK), Room k (A.deeper (envOfC qual scope s.heap.objs.size f cdv)) → sp vs H Q E →
      ∃ t, PSs (cxOf CX P w K mg base N qual scope f cdv A outer s H E) body t ∧ t { nx := fun _ H' => Q .non H', rt := Q } (start N vs) H) :
    FnOk P w K mg base CX (k + 1) f (PySem.W.fnOf name qual params body scope dV kV doc pm an cdv ct) ps sp := by
  refine ⟨len, fun A outer s H args us vs Q E hr e0 hb r hsp => ?_⟩
  have hl := len _ _ _ _ hsp
  have KX : K.In s.heap := e0.mod.kin.keeps fun b o e => (e0.bs b o e).1
  have lim : s.heap.NoLimit := e0.mod.nolimit.keeps fun b o e => (e0.bs b o e).1
  have hkind : ∀ y ∈ ps.zip us, scope.names.lookup y.1 = some .local ∨ (scope.names.lookup y.1 = some .cell ∧ ((cellsFrom (s.heap.objs.size + 1) scope.names []).lookup y.1).isSome = true) := fun ⟨n, v⟩ hy => by
    rcases S.par n (List.of_mem_zip hy).1 with q | q
    · exact .inl q
    · exact .inr ⟨q, PySem.W.cellsFrom_some _ _ _ (.inl q)⟩
  refine codeAny_call_function hr.depth (KX _ _ lk) rfl S.co S.gen rfl (PySem.W.codeRec_of KX hcd) (hb _ _ _ _ ?_)
  refine wpAny_newFunctionEnv_cells S.kind hkind fun env he s1 x => ?_
  subst he
  refine ⟨lim.keeps x.toInCall.keep, codeAny_func ?_⟩
  obtain ⟨t, ht, hq⟩ := hbody A outer s H vs Q E (hr.deeper _) hsp
  have I : Inv (cxOf CX P w K mg base N qual scope f cdv A outer s H E) [] (start N vs) H s1 := inv_start S hr.hd e0 hl r x
  refine wpAny_mono (ht [] s1 (start N vs) H _ I hq) (fun fl s' hs => ?_) fun e s' hs => hs
  have fin : ∀ {σ' : St} {H' : Hp} {v : V} {u : Value}, Inv (cxOf CX P w K mg base N qual scope f cdv A outer s H E) [] σ' H' s' → RelV v u → Q v H' → CE outer P w H s Q u s' :=
    fun {σ' H' v u} J rv q => ⟨v, H', J.os, J.bare, J.base, J.hok, rv, q⟩
  cases fl with
  | ret u =>
    obtain ⟨v, σ', H', J, rv, q⟩ := hs
    exact fin J rv q
  | next =>
    obtain ⟨σ', H', J, q⟩ := hs
    exact fin (v := V.non) (u := Value.none) J rfl q
  | brk =>
    obtain ⟨_, _, _, q⟩ := hs
    exact False.elim q
  | cont =>
    obtain ⟨_, _, _, q⟩ := hs
    exact False.elim q
end L2
namespace L2
open PySem PySem.Spec PyProof.Rows
section
variable {X : Cx} {x : Str} {p pos : Pos} {e : Expr} {es : List Expr} {t : TA} {id T : String} {r : List V → Hp → VK → Prop}
def tCB (r : List V → Hp → VK → Prop) (t : TA) : TE := fun σ H Q => t σ H fun vs H1 => r vs H1 Q
theorem pe_callB (hc : CallR X (.builtin id) r) (hg : Gl X x) (hm : X.mg x = none) (hv : bootBuiltins x = some (.builtin id)) (ha : PA X (e :: es) t) (hn : x ≠ "__name__" := by decide) (hdb : (x == ("__debug__" : Str)) = false := by decide)
    (he : starEach (e :: es) X.env = (false, eval e X.env) :: starEach es X.env := by rfl) (hpl : (backTo pos (starEach es X.env)).any (·.1) = false := by rfl) : PE X (.Call (.Name x p) (e :: es) [] pos) (tCB r t) := by
  intro pins s σ H Q I h
  refine wpAny_Call_Name_kw (ld_blt I hg hm hv ?_ hn hdb)
  exact PyProof.Rows.callWith_builtin1 (thn (ha pos pins s σ H _ I h) fun us s1 ⟨vs, H1, I1, r1, q1⟩ => hc pins s1 σ H1 vs us Q I1 r1 q1) he hpl
theorem pe_callTy (hc : CallR X (.type T) r) (hg : Gl X x) (hm : X.mg x = none) (hv : bootBuiltins x = some (.type T)) (ha : PA X (e :: es) t) (hn : x ≠ "__name__" := by decide) (hdb : (x == ("__debug__" : Str)) = false := by decide)
    (he : starEach (e :: es) X.env = (false, eval e X.env) :: starEach es X.env := by rfl) (hpl : (backTo pos (starEach es X.env)).any (·.1) = false := by rfl) : PE X (.Call (.Name x p) (e :: es) [] pos) (tCB r t) := by
  intro pins s σ H Q I h
  refine wpAny_Call_Name_kw (ld_blt I hg hm hv ?_ hn hdb)
  exact PyProof.Rows.callWith_type1 (thn (ha pos pins s σ H _ I h) fun us s1 ⟨vs, H1, I1, r1, q1⟩ => hc pins s1 σ H1 vs us Q I1 r1 q1) he hpl
end
end L2
namespace HT
open PySem PyProof.Rows
section
open PySem.SeqAt
open PySem.AutoSeq1 (wpAny_loadPart')
open PySem.MeetsSeq PySem.MeetsSeq2 PySem.MeetsSeq3
end
section
variable {prog : Program} {w : World} {A : Around} {E : Value → Shared → Prop} {s : Shared}
theorem cat_tup {t b : Addr} {vs ws : List Value} {Q : Value → Shared → Prop} (ht : IsTup s.heap t vs.toArray) (hb : IsTup s.heap b ws.toArray) (hv : vs ≠ [])
    (h1 : ws = [] → Q (.ref t) s) (h2 : ws ≠ [] → Q (.ref s.heap.objs.size) { s with heap := s.heap.push { cls := .type "tuple", data := .seq (vs ++ ws).toArray } })
    (hsz : vs.length + ws.length ≤ sizeLine) : wpAny (model prog w) A (binaryOp .Add (.ref t) (.ref b)) Q E s := by
  obtain ⟨⟨cls, dd, data, sl⟩, ho, hc, n, hd⟩ := id ht
  obtain ⟨⟨cls2, dd2, data2, sl2⟩, ho2, hc2, n2, hd2⟩ := id hb
  simp only at hc hd hc2 hd2
  subst hc hd hc2 hd2
  have e : vs.toArray ++ ws.toArray = (vs ++ ws).toArray := by simp
  by_cases hw : ws = []
  · exact concat_meets ⟨_, ho, rfl⟩ ⟨_, ho2, rfl⟩ noFill_tuple_add seq_tuple_add PySem.F.slot_tuple_add PySem.F.entry_tuple_add (PySem.F.args_tuple_add_2 _ _)
      (tuple_addW1 t b vs.toArray ws.toArray n n2 dd dd2 sl sl2 (by simpa using hv) (by simp [hw])) ⟨ho, ho2, h1 hw⟩
  · refine concat_meets ⟨_, ho, rfl⟩ ⟨_, ho2, rfl⟩ noFill_tuple_add seq_tuple_add PySem.F.slot_tuple_add PySem.F.entry_tuple_add (PySem.F.args_tuple_add_2 _ _)
      (tuple_addW2 t b vs.toArray ws.toArray n n2 dd dd2 sl sl2 (by simpa using hv) (by simpa using hw) (by rw [List.size_toArray, List.size_toArray]; exact hsz)) ⟨ho, ho2, ?_⟩
    rw [e]
    exact h2 hw
def sIx (n d : Nat) : Option Int → Nat
  | none => d
  | some v => if v < 0 then (v + (n : Int)).toNat else min v.toNat n
theorem sIx_none (n d : Nat) : sIx n d none = d := rfl
theorem sIx_nat (n d k : Nat) : sIx n d (some (k : Int)) = min k n := by
  show (if (k : Int) < 0 then ((k : Int) + (n : Int)).toNat else min (k : Int).toNat n) = min k n
  rw [if_neg (by omega), Int.toNat_natCast]
theorem sIx_le (n d : Nat) (hd : d ≤ n) (o : Option Int) : sIx n d o ≤ n := by
  cases o with
  | none => exact hd
  | some v =>
    show (if v < 0 then (v + (n : Int)).toNat else min v.toNat n) ≤ n
    by_cases hv : v < 0
    · rw [if_pos hv]; omega
    · rw [if_neg hv]; exact Nat.min_le_right _ _
theorem clip_eq (v : Int) (n d : Nat) : (if v < 0 then max (v + (n : Int)) 0 else min v (n : Int)) = ((sIx n d (some v) : Nat) : Int) := by
  show (if v < 0 then max (v + (n : Int)) 0 else min v (n : Int)) = (((if v < 0 then (v + (n : Int)).toNat else min v.toNat n) : Nat) : Int)
  by_cases hv : v < 0
  · simp only [if_pos hv]; omega
  · simp only [if_neg hv]; omega
theorem adjust_gen (lo hi : Option Int) (n : Nat) : Builtin.Slice.sliceAdjust lo hi 1 (n : Int) = (((sIx n 0 lo : Nat) : Int), ((sIx n n hi : Nat) : Int)) := by
  have h1 : ¬ ((1 : Int) < 0) := by omega
  unfold Builtin.Slice.sliceAdjust
  simp only [h1, if_false]
  refine Prod.ext ?_ ?_
  · cases lo with
    | none => rfl
    | some v => exact clip_eq v n 0
  · cases hi with
    | none => rfl
    | some v => exact clip_eq v n n
theorem places_gen (i j : Nat) : Builtin.Slice.slicePlaces (i : Int) (j : Int) 1 = j - i := by
  unfold Builtin.Slice.slicePlaces
  have h1 : (1 : Int) > 0 := by omega
  simp only [h1, if_true, Int.ediv_one]
  split <;> omega
theorem slicePart_ {v : Value} {o : Option Int} {Q : Option Int → Shared → Prop} (p : IsPart v o) (h : Q o s) : wpAny (model prog w) A (Builtin.Slice.slicePartIndex v) Q E s := by
  cases p with
  | none => exact slicePart_none h
  | int i t => exact slicePart_int h
theorem sliceApplied_gen {sl : Addr} {vl vu : Value} {lo hi : Option Int} {n : Nat} {Q : Int × Int × Nat → Shared → Prop} (hs : s.heap.IsSliceOf sl vl vu .none) (pl : IsPart vl lo) (pu : IsPart vu hi)
    (h : Q (((sIx n 0 lo : Nat) : Int), 1, sIx n n hi - sIx n 0 lo) s) : wpAny (model prog w) A (Builtin.Slice.sliceApplied (.ref sl) (pure (n : Int))) Q E s := by
  obtain ⟨os, hos, hcs, hds⟩ := id hs
  unfold Builtin.Slice.sliceApplied Builtin.Slice.sliceFields
  refine wpAny_bind (wpAny_bind (wpAny_field hos hds (x := vl) rfl (wpAny_bind (wpAny_field hos hds (x := vu) rfl (wpAny_bind (wpAny_field hos hds (x := .none) rfl (wpAny_pure ?_)))))))
  refine wpAny_bind (slicePart_none ?_)
  show wpAny _ _ (if ((1 : Int) == 0) = true then _ else _) _ _ s
  rw [if_neg (by decide)]
  refine wpAny_bind (slicePart_ pl (wpAny_bind (slicePart_ pu (wpAny_bind (wpAny_pure ?_)))))
  show wpAny _ _ (match Builtin.Slice.sliceAdjust lo hi 1 (n : Int) with | (lo, hi) => pure (lo, (1 : Int), Builtin.Slice.slicePlaces lo hi 1)) _ _ s
  rw [adjust_gen lo hi n]
  show wpAny _ _ (pure (((sIx n 0 lo : Nat) : Int), (1 : Int), Builtin.Slice.slicePlaces ((sIx n 0 lo : Nat) : Int) ((sIx n n hi : Nat) : Int) 1)) _ _ s
  rw [places_gen]
  exact wpAny_pure h
theorem pick_gen (xs : Array Value) (i k : Nat) : ((List.range k).filterMap fun (m : Nat) => xs[((i : Int) + (m : Int) * 1).toNat]?).toArray = ((xs.toList.drop i).take k).toArray := by
  have e : (fun (m : Nat) => xs[((i : Int) + (m : Int) * 1).toNat]?) = fun m => xs[i + m]? := by
    funext m
    have : ((i : Int) + (m : Int) * 1).toNat = i + m := by omega
    rw [this]
  rw [e]
  have := pick_run xs i k
  rw [List.filterMap_map] at this
  have e2 : ((fun x => xs[x]?) ∘ fun x => i + x) = fun m => xs[i + m]? := rfl
  rw [e2] at this
  rw [this]
theorem getItem_tuple_cut {t sl : Addr} {items : Array Value} {vl vu : Value} {lo hi : Option Int} {Q : Value → Shared → Prop} (ht : IsTup s.heap t items) (hs : s.heap.IsSliceOf sl vl vu .none) (pl : IsPart vl lo) (pu : IsPart vu hi)
    (hw : ¬ (sIx items.size 0 lo = 0 ∧ sIx items.size items.size hi = items.size))
    (h : Q (.ref s.heap.objs.size) { s with heap := s.heap.push { cls := .type "tuple", data := .seq ((items.toList.drop (sIx items.size 0 lo)).take (sIx items.size items.size hi - sIx items.size 0 lo)).toArray } })
    (hsz : items.size ≤ sizeLine) : wpAny (model prog w) A (getItem (.ref t) (.ref sl)) Q E s := by
  have htake : sizeOk (.seq ((items.toList.drop (sIx items.size 0 lo)).take (sIx items.size items.size hi - sIx items.size 0 lo)).toArray) := by
    show ((items.toList.drop (sIx items.size 0 lo)).take (sIx items.size items.size hi - sIx items.size 0 lo)).toArray.size ≤ sizeLine
    rw [List.size_toArray, List.length_take, List.length_drop, Array.length_toList]
    omega
  have hj : sIx items.size items.size hi ≤ items.size := sIx_le _ _ (Nat.le_refl _) hi
  obtain ⟨os, hos, hcs, hds⟩ := id hs
  have hTs : s.TypeIs (.ref sl) "slice" := ⟨os, hos, hcs⟩
  unfold getItem
  try with_reducible refine wpAny_holding ?_
  first | refine wpAny_bind (wpAny_pure ?_) | skip
  refine wpAny_bind (wpAny_sequenceKey ht.typeIs (by decide) ?_)
  refine wpAny_bind (wpAny_callSpecial?_slot (name := Str.ofString "__getitem__") ht.typeIs PyProof.Rows.slot_tuple_getitem
    (wpAny_call_entry PyProof.Rows.slot_tuple_getitem ht.typeIs entry_tuple_getitem ?_ (args_tuple_getitem _ _)))
  show wpAny _ _ (Builtin.Tuple.tupleItemsOf (.ref t) >>= _) _ _ s
  refine wpAny_bind (tupleItemsOf_ ht ?_)
  refine wpAny_bind (wpAny_typeOf hTs ?_)
  rw [if_pos (by decide)]
  refine wpAny_bind (sliceApplied_gen hs pl pu ?_)
  have hno : ¬ ((((sIx items.size 0 lo : Nat) : Int) == 0 && (1 : Int) == 1 && (sIx items.size items.size hi - sIx items.size 0 lo) == items.size) = true) := by
    intro q
    rw [Bool.and_eq_true, Bool.and_eq_true] at q
    have q1 : ((sIx items.size 0 lo : Nat) : Int) = 0 := eq_of_beq q.1.1
    have q2 : sIx items.size items.size hi - sIx items.size 0 lo = items.size := eq_of_beq q.2
    exact hw ⟨by omega, by omega⟩
  show wpAny _ _ (if (((sIx items.size 0 lo : Nat) : Int) == 0 && (1 : Int) == 1 && (sIx items.size items.size hi - sIx items.size 0 lo) == items.size) = true then _ else _) _ _ s
  rw [if_neg hno, pick_gen]
  first
    | exact wpAny_bind (m := Builtin.Tuple.tupleExact _) (wpAny_newObj_type (wpAny_pure ⟨_, rfl, wpAny_pure h⟩) htake)
    | exact wpAny_bind (m := Builtin.Tuple.tupleExact _) (wpAny_newObj_type (wpAny_bind (wpAny_pure (wpAny_pure ⟨_, rfl, wpAny_pure h⟩))) htake)
    | exact wpAny_bind (wpAny_bind (m := Builtin.Tuple.tupleExact _) (wpAny_newObj_type (wpAny_pure (wpAny_pure ⟨_, rfl, wpAny_pure h⟩)) htake))
    | exact wpAny_bind (wpAny_bind (m := Builtin.Tuple.tupleExact _) (wpAny_newObj_type (wpAny_pure ⟨_, rfl, wpAny_pure h⟩) htake))
end
end HT
namespace L2
open PySem PySem.Spec PyProof.Rows
abbrev TO := St → Hp → (Option Int → Hp → Prop) → Prop
def PO (X : Cx) (e : Option Expr) (t : TO) : Prop :=
  ∀ (pins : List (Addr × Obj)) (s : Shared) (σ : St) (H : Hp) (Q : Option Int → Hp → Prop), Inv X pins σ H s → t σ H Q →
    wpAny (model X.prog X.w) X.A (evalPart e X.env) (fun u s' => ∃ o H', Inv X pins σ H' s' ∧ IsPart u o ∧ Q o H') X.xe s
def tNoPart : TO := fun _ H Q => Q none H
def tPart (t : TE) : TO := fun σ H Q => t σ H fun x H1 => ∃ i, x = .int i ∧ Q (some i) H1
section
variable {X : Cx} {e : Expr} {te : TE} {lo hi : Option Expr} {tl th : TO} {pos p2 : Pos}
theorem po_none : PO X none tNoPart := by
  intro pins s σ H Q I h
  rw [evalPart_none]
  exact wpAny_pure ⟨none, H, I, .none, h⟩
theorem po_some (h : PE X e te) : PO X (some e) (tPart te) := by
  intro pins s σ H Q I hw
  rw [evalPart_some]
  refine thn (h pins s σ H _ I hw) fun u s1 ⟨x, H1, I1, r1, q1⟩ => ?_
  obtain ⟨i, rfl, q⟩ := q1
  obtain ⟨t, rfl⟩ := r1
  exact ⟨some i, H1, I1, .int i t, q⟩
def SlR (X : Cx) (r : V → Option Int → Option Int → Hp → VK → Prop) : Prop :=
  ∀ (pins : List (Addr × Obj)) (s : Shared) (σ : St) (H : Hp) (x : V) (v vl vu : Value) (lo hi : Option Int) (sl : Addr) (Q : VK), Inv X pins σ H s → RelV x v → s.heap.IsSliceOf sl vl vu .none → IsPart vl lo → IsPart vu hi → r x lo hi H Q →
    ∃ T id, typeLookup (.type T) "__getitem__" = pure (some (.builtin id)) ∧ s.TypeIs v T ∧ wpAny (model X.prog X.w) X.A (getItem v (.ref sl)) (EP X pins σ Q) X.xe s
theorem SlR.or {r r' : V → Option Int → Option Int → Hp → VK → Prop} (h : SlR X r) (h' : SlR X r') : SlR X (fun x lo hi H Q => r x lo hi H Q ∨ r' x lo hi H Q) := by
  intro pins s σ H x v vl vu lo hi sl Q I rx hs pl pu q
  rcases q with q | q
  · exact h pins s σ H x v vl vu lo hi sl Q I rx hs pl pu q
  · exact h' pins s σ H x v vl vu lo hi sl Q I rx hs pl pu q
def tSl (r : V → Option Int → Option Int → Hp → VK → Prop) (te : TE) (tl th : TO) : TE := fun σ H Q => te σ H fun x H1 => tl σ H1 fun l H2 => th σ H2 fun u H3 => r x l u H3 Q
theorem pe_slice {r : V → Option Int → Option Int → Hp → VK → Prop} (hr : SlR X r) (he : PE X e te) (hl : PO X lo tl) (hu : PO X hi th) : PE X (.Subscript e (.Slice lo hi none p2) pos) (tSl r te tl th) := by
  intro pins s σ H Q I h
  refine Subscript_ (thn (he pins s σ H _ I h) fun v s1 ⟨x, H1, I1, r1, q1⟩ => ?_)
  refine wpAny_Slice (thn (hl pins s1 σ H1 _ I1 q1) fun vl s2 ⟨l, H2, I2, pl, q2⟩ => thn (hu pins s2 σ H2 _ I2 q2) fun vu s3 ⟨u, H3, I3, pu, q3⟩ => ?_)
  rw [evalPart_none]
  refine wpAny_pure ?_
  have I4 : Inv X pins σ H3 { s3 with heap := s3.heap.push { cls := .type "slice", data := .fields #[vl, vu, .none] } } := I3.kept (t' := s3.toks) fun b ob q => Heap.get?_push_of_some _ q
  obtain ⟨T, id, hT, ht, hg⟩ := hr pins { s3 with heap := s3.heap.push { cls := .type "slice", data := .fields #[vl, vu, .none] } } σ H3 x v vl vu l u s3.heap.objs.size Q I4 r1 (Heap.IsSliceOf.new ..) pl pu q3
  show wpAny (model X.prog X.w) X.A (subscriptTail e (.Slice lo hi none p2) v (.ref s3.heap.objs.size)) (EP X pins σ Q) X.xe { s3 with heap := s3.heap.push { cls := .type "slice", data := .fields #[vl, vu, .none] } }
  exact tail_any (ops := [.ref s3.heap.objs.size, v]) ht hT hg (by with_unfolding_all rfl)
def cutV (xs : List V) (lo hi : Option Int) : List V := (xs.drop (HT.sIx xs.length 0 lo)).take (HT.sIx xs.length xs.length hi - HT.sIx xs.length 0 lo)
theorem cutV_length (xs : List V) (lo hi : Option Int) : (cutV xs lo hi).length ≤ xs.length := by
  unfold cutV
  rw [List.length_take, List.length_drop]
  omega
def rSlT (K : PySem.W.Frag) : V → Option Int → Option Int → Hp → VK → Prop := fun x lo hi H Q => ∃ a xs, x = .ref a ∧ SqT K H a xs ∧
  ¬ (HT.sIx xs.length 0 lo = 0 ∧ HT.sIx xs.length xs.length hi = xs.length) ∧ ∀ p, H p = none → Q (.ref p) (upd H p (.tup (cutV xs lo hi)))
theorem sl_tup : SlR X (rSlT X.K) := by
  intro pins s σ H x v vl vu lo hi sl Q I rx hs pl pu h
  obtain ⟨a, xs, rfl, hx, hw, q⟩ := h
  cases rx
  obtain ⟨its, r, ht, hz⟩ := I.tuple hx
  have hlen : its.toArray.size = xs.length := by rw [List.size_toArray]; exact r.length.symm
  refine ⟨"tuple", _, PyProof.Rows.slot_tuple_getitem.lookup, ht.typeIs, ?_⟩
  refine HT.getItem_tuple_cut ht hs pl pu (by rw [hlen]; exact hw) ?_ (by rw [hlen]; exact hz)
  rw [hlen]
  refine ⟨.ref s.heap.objs.size, _, I.laid (t' := s.toks) (o := .tup (cutV xs lo hi)) (fun b ob q => Heap.get?_push_of_some _ q) (Nat.le_refl _) ?_, rfl, q _ (I.hok.fresh (Nat.le_refl _))⟩
  exact ⟨Nat.le_trans (cutV_length xs lo hi) hz, _, (r.drop (HT.sIx xs.length 0 lo)).take (HT.sIx xs.length xs.length hi - HT.sIx xs.length 0 lo), IsTup.new _ _⟩
def rCatT (K : PySem.W.Frag) : R2 := fun x y H Q => ∃ a b xs ys, x = .ref a ∧ y = .ref b ∧ SqT K H a xs ∧ SqT K H b ys ∧ xs ≠ [] ∧ xs.length + ys.length ≤ sizeLine ∧
  (ys = [] → Q (.ref a) H) ∧ (ys ≠ [] → ∀ p, H p = none → Q (.ref p) (upd H p (.tup (xs ++ ys))))
theorem Vals.nil_iff {xs : List V} {us : List Value} (r : Vals xs us) : us = [] ↔ xs = [] := by
  cases r with
  | nil => simp
  | cons _ _ => simp
theorem op_catT : OpR X (binaryOp .Add) (rCatT X.K) := by
  intro pins s σ H x y v u Q I rx ry h
  obtain ⟨a, b, xs, ys, rfl, rfl, ha, hb, hx, hz, q1, q2⟩ := h
  cases rx
  cases ry
  obtain ⟨its, r1, p1, _⟩ := I.tuple ha
  obtain ⟨its2, r2, p2, _⟩ := I.tuple hb
  refine HT.cat_tup p1 p2 (fun z => hx (r1.nil_iff.mp z)) (fun z => ⟨.ref a, H, I, rfl, q1 (r2.nil_iff.mp z)⟩) (fun z => ?_) (by rw [← r1.length, ← r2.length]; exact hz)
  refine ⟨.ref s.heap.objs.size, _, I.laid (t' := s.toks) (o := .tup (xs ++ ys)) (fun b ob q => Heap.get?_push_of_some _ q) (Nat.le_refl _) ?_, rfl, q2 (fun w => z (r2.nil_iff.mpr w)) _ (I.hok.fresh (Nat.le_refl _))⟩
  exact ⟨by rw [List.length_append]; exact hz, _, r1.append r2, IsTup.new _ _⟩
end
end L2
namespace L2
open PySem PySem.Spec PyProof.Rows
def ixN (n : Nat) (i : Int) : Option Nat := if 0 ≤ i then (if i < n then some i.toNat else none) else if -(n : Int) ≤ i then some (i + n).toNat else none
def atI {α : Type} (xs : List α) (i : Int) : Option α := (ixN xs.length i).bind fun j => xs[j]?
theorem ixN_seq {n : Nat} {i : Int} {j : Nat} (h : ixN n i = some j) : seqIndex? i n = some j ∧ j < n ∧ -(n : Int) ≤ i ∧ i < n := by
  unfold ixN at h
  by_cases h0 : 0 ≤ i
  · rw [if_pos h0] at h
    by_cases h1 : i < n
    · rw [if_pos h1] at h
      have e : i.toNat = j := Option.some.inj h
      exact ⟨by rw [seqIndex_of h0 h1, e], by omega, by omega, h1⟩
    · rw [if_neg h1] at h; cases h
  · rw [if_neg h0] at h
    by_cases h1 : -(n : Int) ≤ i
    · rw [if_pos h1] at h
      have e : (i + n).toNat = j := Option.some.inj h
      exact ⟨by rw [seqIndex_neg (by omega) h1, e], by omega, h1, by omega⟩
    · rw [if_neg h1] at h; cases h
theorem atI_get {α : Type} {xs : List α} {i : Int} {v : α} (h : atI xs i = some v) : ∃ j, seqIndex? i xs.length = some j ∧ xs[j]? = some v ∧ j < xs.length ∧ -(xs.length : Int) ≤ i ∧ i < xs.length := by
  unfold atI at h
  cases e : ixN xs.length i with
  | none => rw [e] at h; cases h
  | some j =>
    rw [e] at h
    obtain ⟨h1, h2, h3, h4⟩ := ixN_seq e
    exact ⟨j, h1, h, h2, h3, h4⟩
theorem atI_nat {α : Type} {xs : List α} {j : Nat} {v : α} (h : xs[j]? = some v) : atI xs (j : Int) = some v := by
  have hj : j < xs.length := (List.getElem?_eq_some_iff.mp h).1
  have e : ixN xs.length (j : Int) = some j := by
    unfold ixN
    rw [if_pos (by omega), if_pos (by omega)]; simp
  unfold atI; rw [e]; exact h
def PlainIx (b : Expr) : Prop := ∀ o i, subscripted b false o i = operate [o, i] (getItem o i)
def IxR (X : Cx) (r : R2) : Prop :=
  ∀ (value slice : Expr) (pins : List (Addr × Obj)) (s : Shared) (σ : St) (H : Hp) (x y : V) (v u : Value) (Q : VK), Inv X pins σ H s → RelV x v → RelV y u → r x y H Q →
    subscripted slice false v u = operate [v, u] (getItem v u) → wpAny (model X.prog X.w) X.A (subscriptTail value slice v u) (EP X pins σ Q) X.xe s
def MtR (X : Cx) (id : String) (r : V → List V → Hp → VK → Prop) : Prop :=
  ∀ (pins : List (Addr × Obj)) (s : Shared) (σ : St) (H : Hp) (x : V) (xs : List V) (v : Value) (us : List Value) (Q : VK), Inv X pins σ H s → RelV x v → Vals xs us → r x xs H Q →
    wpAny (model X.prog X.w) X.A (call (.builtin id) (v :: us)) (EP X pins σ Q) X.xe s
section
variable {X : Cx} {a b : Expr} {ta tb : TE} {pos : Pos}
theorem IxR.or {r r' : R2} (h : IxR X r) (h' : IxR X r') : IxR X (fun x y H Q => r x y H Q ∨ r' x y H Q) := by
  intro value slice pins s σ H x y v u Q I rx ry q hs
  rcases q with q | q
  · exact h value slice pins s σ H x y v u Q I rx ry q hs
  · exact h' value slice pins s σ H x y v u Q I rx ry q hs
theorem MtR.or {id : String} {r r' : V → List V → Hp → VK → Prop} (h : MtR X id r) (h' : MtR X id r') : MtR X id (fun x xs H Q => r x xs H Q ∨ r' x xs H Q) := by
  intro pins s σ H x xs v us Q I rx rs q
  rcases q with q | q
  · exact h pins s σ H x xs v us Q I rx rs q
  · exact h' pins s σ H x xs v us Q I rx rs q
theorem pe_ix {r : R2} (hr : IxR X r) (ha : PE X a ta) (hb : PE X b tb) (hs : PlainIx b) : PE X (.Subscript a b pos) (tOp r ta tb) := by
  intro pins s σ H Q I h
  exact Subscript_ (binT ha hb I h fun v u s2 x y H2 I2 rx ry q => hr a b pins s2 σ H2 x y v u Q I2 rx ry q (hs _ _))
def rIxL (K : PySem.W.Frag) : R2 := fun x y H Q => ∃ p xs i v, x = .ref p ∧ y = .int i ∧ SqL K H p xs ∧ atI xs i = some v ∧ Q v H
def rIxT (K : PySem.W.Frag) : R2 := fun x y H Q => ∃ p xs i v, x = .ref p ∧ y = .int i ∧ SqT K H p xs ∧ atI xs i = some v ∧ Q v H
def rIxS : R2 := fun x y H Q => ∃ z i c, x = .str z ∧ y = .int i ∧ z.length ≤ sizeLine ∧ atI z.cps.toList i = some c ∧ Q (.str ⟨#[c]⟩) H
theorem ix_list : IxR X (rIxL X.K) := by
  intro value slice pins s σ H x y v u Q I rx ry h hs
  obtain ⟨p, xs, i, z, rfl, rfl, hq, he, q⟩ := h
  cases rx
  obtain ⟨t, rfl⟩ := ry
  obtain ⟨its, r, pl, hz⟩ := I.list hq
  obtain ⟨j, h1, h2, h3, h4, h5⟩ := atI_get he
  obtain ⟨w, ew, rw'⟩ := r.get h2
  have hl := r.length
  have hn := line63
  have fin : EP X pins σ Q w s := ⟨z, H, I, rw', q⟩
  by_cases h0 : 0 ≤ i
  · have hj : i.toNat = j := by
      rw [seqIndex_of h0 h5] at h1
      exact Option.some.inj h1
    exact item_listR pl.isList h0 (by omega) (by rw [hj]; simpa using ew) fin hs
  · have hj : (i + (its.toArray.size : Int)).toNat = j := by
      rw [seqIndex_neg (by omega) h4] at h1
      rw [List.size_toArray, ← hl]
      exact Option.some.inj h1
    exact subscriptTail_builtinR (x := w) pl.isList.typeIs slot_list_getitem.lookup
      (wpAny_getItem_list_neg (Q := fun r s' => r = w ∧ EP X pins σ Q r s') pl.isList (by omega) (by rw [List.size_toArray] <;> omega) (by omega) (by rw [hj]; simpa using ew) ⟨rfl, fin⟩) hs
theorem ix_tup : IxR X (rIxT X.K) := by
  intro value slice pins s σ H x y v u Q I rx ry h hs
  obtain ⟨p, xs, i, z, rfl, rfl, hq, he, q⟩ := h
  cases rx
  obtain ⟨t, rfl⟩ := ry
  obtain ⟨its, r, pl, hz⟩ := I.tuple hq
  obtain ⟨j, h1, h2, h3, h4, h5⟩ := atI_get he
  obtain ⟨w, ew, rw'⟩ := r.get h2
  have hl := r.length
  have hn := line63
  have fin : EP X pins σ Q w s := ⟨z, H, I, rw', q⟩
  exact subscriptTail_builtinR (x := w) pl.typeIs slot_tuple_getitem.lookup
    (getItem_tuple (j := j) (Q := fun r s' => r = w ∧ EP X pins σ Q r s') pl (by omega) (by omega) (by rw [List.size_toArray, ← hl]; exact h1) (by simpa using ew) ⟨rfl, fin⟩) hs
theorem ix_str : IxR X rIxS := by
  intro value slice pins s σ H x y v u Q I rx ry h hs
  obtain ⟨z, i, c, rfl, rfl, hz, he, q⟩ := h
  obtain ⟨t, rfl⟩ := rx
  obtain ⟨t', rfl⟩ := ry
  obtain ⟨j, h1, h2, h3, h4, h5⟩ := atI_get he
  have hl : z.cps.toList.length = z.length := by simp [Str.length]
  rw [hl] at h1 h4 h5
  have hn := line63
  exact tail_any (typeIs_str s z t) slot_str_getitem.lookup (getItem_str (c := c) (by
    have e1 : decide (i < -(2 ^ 63 : Int)) = false := decide_eq_false (by omega)
    have e2 : decide (i ≥ 2 ^ 63) = false := decide_eq_false (by omega)
    rw [e1, e2, Bool.or_false]) (by rw [h1]; simpa using h2) ⟨.str ⟨#[c]⟩, H, I.tok _, ⟨_, rfl⟩, q⟩) hs
def rIx (K : PySem.W.Frag) : R2 := fun x y H Q => rIxL K x y H Q ∨ rIxT K x y H Q ∨ rIxS x y H Q
theorem ix_seq : IxR X (rIx X.K) := ix_list.or (ix_tup.or ix_str)
theorem mapSeq_set (its : List Value) (n j : Nat) (u : Value) : Obj.mapSeq (·.setIfInBounds j u) { cls := .type "list", data := .seq its.toArray n } = { cls := .type "list", data := .seq (its.set j u).toArray n } := by
  simp [Obj.mapSeq]
theorem Inv.lst {pins : List (Addr × Obj)} {σ : St} {H : Hp} {s : Shared} {p : Addr} {xs : List V} (I : Inv X pins σ H s) (h : H p = some (.lst xs)) :
    ∃ (its : List Value) (n : Nat), Vals xs its ∧ s.heap.get? p = some { cls := .type "list", data := .seq its.toArray n } ∧ xs.length ≤ sizeLine := by
  obtain ⟨z, its, n, r, e⟩ := I.hok p _ h
  exact ⟨its, n, r, e, z⟩
theorem Inv.lstUpd {pins : List (Addr × Obj)} {σ : St} {H : Hp} {s : Shared} {p : Addr} {xs ys : List V} {its its' : List Value} {n n' : Nat} {f : Obj → Obj} (I : Inv X pins σ H s) (h : H p = some (.lst xs))
    (ho : s.heap.get? p = some { cls := .type "list", data := .seq its.toArray n }) (hf : f { cls := .type "list", data := .seq its.toArray n } = { cls := .type "list", data := .seq its'.toArray n' }) (r : Vals ys its') (hz : ys.length ≤ sizeLine) (t : Nat) :
    Inv X pins σ (upd H p (.lst ys)) { s with heap := s.heap.update p f, toks := t } := by
  have e : (s.heap.update p f).get? p = some { cls := .type "list", data := .seq its'.toArray n' } := by
    rw [Heap.get?_update_self f ho (by rw [hf] <;> rfl), hf]
  refine I.write (x := p) (e := p) (by rw [h]; trivial) (.inl rfl) (fun b u hb q => (Heap.get?_update_other _ _ (Ne.symm hb)).trans q) ⟨_, e⟩ ?_
  exact ⟨hz, its', n', r, e⟩
def rSetL : V → V → V → Hp → (Hp → Prop) → Prop := fun o i v H Q => ∃ p xs k j, o = .ref p ∧ i = .int k ∧ H p = some (.lst xs) ∧ ixN xs.length k = some j ∧ Q (upd H p (.lst (xs.set j v)))
theorem set_list : PSet X rSetL := by
  intro pins s σ H o i v ov iv u Q I ro ri rv h
  obtain ⟨p, xs, k, j, rfl, rfl, hp, hj, q⟩ := h
  cases ro
  obtain ⟨t, rfl⟩ := ri
  obtain ⟨its, n, r, ho, hz⟩ := I.lst hp
  obtain ⟨h1, h2, h3, h4⟩ := ixN_seq hj
  have hl := r.length
  have hn := line63
  have I' : Inv X pins σ (upd H p (.lst (xs.set j v))) { s with heap := s.heap.update p (Obj.mapSeq (·.setIfInBounds j u)) } :=
    I.lstUpd hp ho (mapSeq_set its n j u) (r.set rv j) (by rw [List.length_set]; exact hz) s.toks
  by_cases h0 : 0 ≤ k
  · have hk : k.toNat = j := by
      rw [seqIndex_of h0 h4] at h1
      exact Option.some.inj h1
    exact PySem.W.ki_setAt ho h0 (by omega) (by rw [List.size_toArray, ← hl]; exact h4) (by rw [hk]; exact ⟨_, I', q⟩)
  · have hk : (k + (its.toArray.size : Int)).toNat = j := by
      rw [seqIndex_neg (by omega) h3] at h1
      rw [List.size_toArray, ← hl]
      exact Option.some.inj h1
    exact PySem.W.ki_setBack ho (by omega) (by rw [List.size_toArray, ← hl]; exact h3) (by omega) (by rw [hk]; exact ⟨_, I', q⟩)
theorem slice_bounds (lo hi : Option Int) (n : Nat) : (sliceBounds lo hi none n).1 = ((HT.sIx n 0 lo : Nat) : Int) ∧ (sliceBounds lo hi none n).2.1 = ((HT.sIx n n hi : Nat) : Int) ∧ (sliceBounds lo hi none n).2.2 = 1 := by
  refine ⟨?_, ?_, rfl⟩
  · cases lo with
    | none => simp [sliceBounds, HT.sIx]
    | some i =>
      simp only [sliceBounds, HT.sIx, Option.getD_none, show (1 : Int) > 0 by decide, if_true]
      by_cases h : i < 0
      · simp only [h, if_true] <;> omega
      · simp only [h, if_false] <;> omega
  · cases hi with
    | none => simp [sliceBounds, HT.sIx]
    | some i =>
      simp only [sliceBounds, HT.sIx, Option.getD_none, show (1 : Int) > 0 by decide, if_true]
      by_cases h : i < 0
      · simp only [h, if_true] <;> omega
      · simp only [h, if_false] <;> omega
theorem slicePick_cut (its : List Value) (lo hi : Option Int) : slicePick its.toArray lo hi none = ((its.drop (HT.sIx its.length 0 lo)).take (HT.sIx its.length its.length hi - HT.sIx its.length 0 lo)).toArray := by
  obtain ⟨h1, h2, h3⟩ := slice_bounds lo hi its.toArray.size
  unfold slicePick
  rw [h1, h2, h3]
  simp only [sliceRange_one, pick_run, List.size_toArray] <;> rfl
def rSlL (K : PySem.W.Frag) : V → Option Int → Option Int → Hp → VK → Prop := fun x lo hi H Q => ∃ a xs, x = .ref a ∧ SqL K H a xs ∧ ∀ p, H p = none → Q (.ref p) (upd H p (.lst (cutV xs lo hi)))
theorem sl_list : SlR X (rSlL X.K) := by
  intro pins s σ H x v vl vu lo hi sl Q I rx hs pl pu h
  obtain ⟨a, xs, rfl, hx, q⟩ := h
  cases rx
  obtain ⟨its, r, ht, hz⟩ := I.list hx
  have hlen := r.length
  refine ⟨"list", _, slot_list_getitem.lookup, ht.isList.typeIs, ?_⟩
  refine wpAny_getItem_list_slice ht.isList hs pl pu .none (by simp) ?_ (by rw [List.size_toArray] <;> omega)
  rw [slicePick_cut, ← hlen]
  refine ⟨.ref s.heap.objs.size, _, I.laid (t' := s.toks) (o := .lst (cutV xs lo hi)) (fun b ob q => Heap.get?_push_of_some _ q) (Nat.le_refl _) ?_, rfl, q _ (I.hok.fresh (Nat.le_refl _))⟩
  exact ⟨Nat.le_trans (cutV_length xs lo hi) hz, _, 0, (r.drop (HT.sIx xs.length 0 lo)).take (HT.sIx xs.length xs.length hi - HT.sIx xs.length 0 lo), Heap.get?_push_size _ rfl⟩
def flatV : V → Bool
  | .non => true
  | .bl _ => true
  | .int _ => true
  | .str _ => true
  | _ => false
def eqV : V → V → Bool
  | .non, .non => true
  | .bl a, .bl b => a == b
  | .bl a, .int b => (if a then 1 else 0) == b
  | .int a, .bl b => a == (if b then 1 else 0)
  | .int a, .int b => a == b
  | .str a, .str b => a == b
  | _, _ => false
theorem eqAt_V {A : Around} {s : Shared} {y x : V} {u v : Value} (ry : RelV y u) (rx : RelV x v) (fy : flatV y = true) (fx : flatV x = true) : SeqAt.EqAt A s u v (eqV y x) := by
  cases y with
  | non =>
    cases ry
    cases x with
    | non => cases rx; exact SeqAt.EqAt.same _
    | bl b => cases rx; exact SeqAt.EqAt.none_bool b
    | int b => obtain ⟨t, rfl⟩ := rx; exact SeqAt.EqAt.none_int b t
    | str b => obtain ⟨t, rfl⟩ := rx; exact SeqAt.EqAt.none_str b t
    | _ => exact absurd (show false = true from fx) Bool.false_ne_true
  | bl a =>
    cases ry
    cases x with
    | non => cases rx; exact SeqAt.EqAt.bool_none a
    | bl b => cases rx; exact SeqAt.EqAt.bool_bool a b
    | int b => obtain ⟨t, rfl⟩ := rx; exact SeqAt.EqAt.bool_int a b t
    | str b => obtain ⟨t, rfl⟩ := rx; exact SeqAt.EqAt.bool_str a b t
    | _ => exact absurd (show false = true from fx) Bool.false_ne_true
  | int a =>
    obtain ⟨t', rfl⟩ := ry
    cases x with
    | non => cases rx; exact SeqAt.EqAt.int_none a t'
    | bl b => cases rx; exact SeqAt.EqAt.int_bool a t' b
    | int b => obtain ⟨t, rfl⟩ := rx; exact SeqAt.EqAt.int_int a t' b t
    | str b => obtain ⟨t, rfl⟩ := rx; exact SeqAt.EqAt.int_str a t' b t
    | _ => exact absurd (show false = true from fx) Bool.false_ne_true
  | str a =>
    obtain ⟨t', rfl⟩ := ry
    cases x with
    | non => cases rx; exact SeqAt.EqAt.str_none a t'
    | bl b => cases rx; exact SeqAt.EqAt.str_bool a t' b
    | int b => obtain ⟨t, rfl⟩ := rx; exact SeqAt.EqAt.str_int a t' b t
    | str b => obtain ⟨t, rfl⟩ := rx; exact SeqAt.EqAt.str_str a t' b t
    | _ => exact absurd (show false = true from fx) Bool.false_ne_true
  | _ => exact absurd (show false = true from fy) Bool.false_ne_true
def eqU (x : V) (u : Value) : Bool := match u with
  | .none => eqV .non x
  | .bool b => eqV (.bl b) x
  | .int i _ => eqV (.int i) x
  | .str z _ => eqV (.str z) x
  | _ => false
theorem eqU_of {x y : V} {u : Value} (r : RelV y u) (f : flatV y = true) : eqU x u = eqV y x := by
  cases y with
  | non => cases r; rfl
  | bl b => cases r; rfl
  | int i => obtain ⟨t, rfl⟩ := r; rfl
  | str z => obtain ⟨t, rfl⟩ := r; rfl
  | _ => exact absurd (show false = true from f) Bool.false_ne_true
theorem any_eqU {x : V} : ∀ {xs : List V} {us : List Value}, Vals xs us → xs.all flatV = true → us.any (eqU x) = xs.any fun y => eqV y x
  | _, _, .nil, _ => rfl
  | y :: xs, u :: us, .cons r t, f => by
    rw [List.all_cons, Bool.and_eq_true] at f
    rw [List.any_cons, List.any_cons, eqU_of r f.1, any_eqU t f.2]
theorem mem_eqAt {A : Around} {s : Shared} {x : V} {v : Value} (rx : RelV x v) (fx : flatV x = true) : ∀ {xs : List V} {us : List Value}, Vals xs us → xs.all flatV = true → ∀ u ∈ us, SeqAt.EqAt A s u v (eqU x u)
  | _, _, .nil, _ => fun u hu => by cases hu
  | y :: xs, u :: us, .cons r t, f => fun u' hu => by
    rw [List.all_cons, Bool.and_eq_true] at f
    rcases List.mem_cons.mp hu with rfl | hu
    · rw [eqU_of r f.1]; exact eqAt_V r rx f.1 fx
    · exact mem_eqAt rx fx t f.2 u' hu
def inV (x : V) (xs : List V) : Bool := xs.any fun y => eqV y x
def rIn (K : PySem.W.Frag) (neg : Bool) : R2 := fun x y H Q => ∃ p xs, y = .ref p ∧ (SqL K H p xs ∨ SqT K H p xs) ∧ flatV x = true ∧ xs.all flatV = true ∧ Q (.bl (if neg then !inV x xs else inV x xs)) H
theorem op_notIn_seq : OpR X (compareOp .NotIn) (rIn X.K true) := by
  intro pins s σ H x y v u Q I rx ry h
  obtain ⟨p, xs, rfl, hq, fx, fs, q⟩ := h
  cases ry
  rcases hq with hq | hq
  · obtain ⟨its, r, pl, hz⟩ := I.list hq
    refine SeqAt.notIn_listAt (eqU x) pl.isList (fun w hw => mem_eqAt rx fx r fs w (by simpa using hw)) ⟨.bl _, H, I, rfl, ?_⟩
    rw [show its.toArray.any (eqU x) = its.any (eqU x) by simp, any_eqU r fs]
    exact q
  · obtain ⟨its, r, pl, hz⟩ := I.tuple hq
    refine SeqAt.notIn_tupleAt (eqU x) pl (fun w hw => mem_eqAt rx fx r fs w (by simpa using hw)) ⟨.bl _, H, I, rfl, ?_⟩
    rw [show its.toArray.any (eqU x) = its.any (eqU x) by simp, any_eqU r fs]
    exact q
theorem call_len_seq : CallR X (.builtin "len") (fun xs H Q => ∃ p ys, xs = [.ref p] ∧ (SqL X.K H p ys ∨ SqT X.K H p ys) ∧ Q (.int ys.length) H) := by
  intro pins s σ H xs us Q I r h
  obtain ⟨p, ys, rfl, hq, q⟩ := h
  obtain ⟨u, rfl, rx⟩ := vals1 r
  cases rx
  have hn := line63
  rcases hq with hq | hq
  · obtain ⟨its, r', pl, hz⟩ := I.list hq
    have hlen := r'.length
    exact Calls.call_len_list pl.isList (by simp only [List.size_toArray] <;> omega) ⟨.int ys.length, H, I.tok _, ⟨s.toks + 1, by rw [List.size_toArray, hlen]⟩, q⟩
  · obtain ⟨its, r', pl, hz⟩ := I.tuple hq
    have hlen := r'.length
    exact len_tuple pl (by simp only [List.size_toArray] <;> omega) ⟨.int ys.length, H, I.tok _, ⟨s.toks + 1, by rw [List.size_toArray, hlen]⟩, q⟩
theorem CallR.or {f : Value} {r r' : List V → Hp → VK → Prop} (h : CallR X f r) (h' : CallR X f r') : CallR X f (fun xs H Q => r xs H Q ∨ r' xs H Q) := by
  intro pins s σ H xs us Q I rs q
  rcases q with q | q
  · exact h pins s σ H xs us Q I rs q
  · exact h' pins s σ H xs us Q I rs q
theorem call_list_of : CallR X (.type "list") (fun xs H Q => ∃ p ys, xs = [.ref p] ∧ (SqL X.K H p ys ∨ SqT X.K H p ys) ∧ ∀ l, H l = none → Q (.ref l) (upd H l (.lst ys))) := by
  intro pins s σ H xs us Q I r h
  obtain ⟨p, ys, rfl, hq, q⟩ := h
  obtain ⟨u, rfl, rx⟩ := vals1 r
  cases rx
  have fin : ∀ (its : List Value), Vals ys its → ys.length ≤ sizeLine → ∀ (h' : Heap) (c' : Nat), (∀ b o', s.heap.get? b = some o' → h'.get? b = some o') →
      h'.get? s.heap.objs.size = some { cls := .type "list", dict := none, data := .seq its.toArray c', slots := #[] } → EP X pins σ Q (.ref s.heap.objs.size) { s with heap := h' } := fun its r' hz h' c' kp e =>
    ⟨.ref s.heap.objs.size, _, I.laid (t' := s.toks) kp (Nat.le_refl _) (show ObjOk X.prog X.w _ h' _ (.lst ys) from ⟨hz, its, c', r', e⟩), rfl, q _ (I.hok.fresh (Nat.le_refl _))⟩
  rcases hq with hq | hq
  · obtain ⟨its, r', pl, hz⟩ := I.list hq
    have hlen := r'.length
    obtain ⟨o, ho, hc, n, hd⟩ := pl.isList
    exact call_list_seq p (.inl rfl) ho hc hd (fun h' c' kp e => fin its r' hz h' c' kp e) (by simp only [List.size_toArray] <;> omega)
  · obtain ⟨its, r', pl, hz⟩ := I.tuple hq
    have hlen := r'.length
    obtain ⟨o, ho, hc, n, hd⟩ := pl
    exact call_list_seq p (.inr rfl) ho hc hd (fun h' c' kp e => fin its r' hz h' c' kp e) (by simp only [List.size_toArray] <;> omega)
theorem call_tuple_of : CallR X (.type "tuple") (fun xs H Q => ∃ p ys, xs = [.ref p] ∧ ((SqL X.K H p ys ∧ ∀ l, H l = none → Q (.ref l) (upd H l (.tup ys))) ∨ (SqT X.K H p ys ∧ Q (.ref p) H))) := by
  intro pins s σ H xs us Q I r h
  obtain ⟨p, ys, rfl, h⟩ := h
  obtain ⟨u, rfl, rx⟩ := vals1 r
  cases rx
  rcases h with ⟨hq, q⟩ | ⟨hq, q⟩
  · obtain ⟨its, r', pl, hz⟩ := I.list hq
    have hlen := r'.length
    refine call_tuple_list pl.isList (fun h' kp => ?_) (by simp only [List.size_toArray] <;> omega)
    have I1 : Inv X pins σ H { s with heap := h' } := I.kept (t' := s.toks) kp
    have I2 : Inv X pins σ (upd H h'.objs.size (.tup ys)) { s with heap := h'.push { cls := .type "tuple", data := .seq its.toArray } } :=
      I1.laid (t' := s.toks) (fun b o e => Heap.get?_push_of_some _ e) (Nat.le_refl _) (show ObjOk X.prog X.w _ _ _ (.tup ys) from ⟨hz, its, r', IsTup.new _ _⟩)
    exact ⟨.ref h'.objs.size, _, I2, rfl, q _ (I1.hok.fresh (Nat.le_refl _))⟩
  · obtain ⟨its, r', pl, hz⟩ := I.tuple hq
    exact call_tuple_same pl ⟨.ref p, H, I, rfl, q⟩
def tyV (K : PySem.W.Frag) (T : String) (x : V) (H : Hp) : Prop := match x with
  | .str _ => T = "str"
  | .int _ => T = "int"
  | .ref p => (T = "list" ∧ ∃ xs, SqL K H p xs) ∨ (T = "tuple" ∧ ∃ o, K.lookup p = some o ∧ o.cls = .type "tuple" ∧ o.dict = none) ∨
      (T = "dict" ∧ ((∃ kvs, H p = some (.dK kvs)) ∨ ∃ kvs, H p = some (.dT kvs))) ∨ (T = "set" ∧ ∃ S n, H p = some (.set S n))
  | _ => False
theorem tyV_is {pins : List (Addr × Obj)} {σ : St} {H : Hp} {s : Shared} {T : String} {x : V} {v : Value} (I : Inv X pins σ H s) (r : RelV x v) (ty : tyV X.K T x H) :
    s.TypeIs v T ∧ ∀ a, v = .ref a → ∃ ob, s.heap.get? a = some ob ∧ ob.dict = none := by
  cases x with
  | str z =>
    obtain ⟨t, rfl⟩ := r
    cases (show T = "str" from ty)
    exact ⟨typeIs_str s z t, fun _ e => nomatch e⟩
  | int i =>
    obtain ⟨t, rfl⟩ := r
    cases (show T = "int" from ty)
    exact ⟨typeIs_int s i t, fun _ e => nomatch e⟩
  | ref p =>
    cases r
    rcases ty with ⟨rfl, xs, hq⟩ | ⟨rfl, o, hk, hc, hd⟩ | ⟨rfl, hk⟩ | ⟨rfl, S, n, hk⟩
    · obtain ⟨its, _, pl, _⟩ := I.list hq
      refine ⟨pl.isList.typeIs, fun a e => ?_⟩
      cases e
      obtain ⟨o, n, e, c, hd, _⟩ := pl
      exact ⟨o, e, hd⟩
    · refine ⟨⟨o, I.kIn p o hk, hc⟩, fun a e => ?_⟩
      cases e
      exact ⟨o, I.kIn _ o hk, hd⟩
    · have z : ∃ o, s.heap.get? p = some o ∧ o.ExactDict := by
        rcases hk with ⟨kvs, hk⟩ | ⟨kvs, hk⟩
        · obtain ⟨_, _, _, _, o, _, _, e, ex, _⟩ := I.hok p _ hk
          exact ⟨o, e, ex⟩
        · obtain ⟨_, _, _, _, o, _, _, e, ex, _⟩ := I.hok p _ hk
          exact ⟨o, e, ex⟩
      obtain ⟨o, e, ex⟩ := z
      refine ⟨⟨o, e, ex.1⟩, fun a e2 => ?_⟩
      cases e2
      exact ⟨o, e, ex.2.1⟩
    · obtain ⟨o, _, _, _, e, ex, _⟩ := I.hok p _ hk
      refine ⟨⟨o, e, ex.1⟩, fun a e2 => ?_⟩
      cases e2
      exact ⟨o, e, ex.2.1⟩
  | _ => exact False.elim ty
def tBM (K : PySem.W.Frag) (T : String) (r : V → List V → Hp → VK → Prop) (to : TE) (t : TA) : TE := fun σ H Q => to σ H fun x H1 => tyV K T x H1 ∧ t σ H1 fun xs H2 => r x xs H2 Q
variable {o e : Expr} {es : List Expr} {to : TE} {t : TA} {name : Str} {apos cpos : Pos} {T id : String} {r : V → List V → Hp → VK → Prop}
theorem pe_bm (pa : PlainAttrs T) (slot : Slot T name id) (hty : typeOf (.builtin id) = pure (.type "method_descriptor")) (hm : MtR X id r) (ho : PE X o to) (ha : PA X (e :: es) t)
    (hbase : attributeBase o name X.env (eval o X.env) = eval o X.env := by rfl)
    (hfew : ((backTo cpos (starEach (e :: es) X.env)).all (fun x => !x.1) && (backToKw cpos (keywordEach [] X.env)).all (fun x => x.1.isSome)
      && decide ((e :: es).length + ([] : List Keyword).length + (if ([] : List Keyword).isEmpty then 0 else 1) < 30)) = true := by rfl)
    (hline : (apos.endLine == cpos.line) = true := by rfl) (hs : starEach (e :: es) X.env = (false, eval e X.env) :: starEach es X.env := by rfl) (hplain : (backTo cpos (starEach es X.env)).any (·.1) = false := by rfl) :
    PE X (.Call (.Attribute o name apos) (e :: es) [] cpos) (tBM X.K T r to t) := by
  intro pins s σ H Q I h
  refine wpAny_Call_method_late hbase hfew hline rfl (thn (ho pins s σ H _ I h) fun v s1 ⟨x, H1, I1, r1, ty, q1⟩ => ?_)
  obtain ⟨h1, h2⟩ := tyV_is I1 r1 ty
  refine ⟨T, id, pa, slot, hty, h1, h2, ?_⟩
  have hA := ha cpos pins s1 σ H1 _ I1 q1
  rw [hs] at hA ⊢
  refine Calls.callWith_builtin (by show (false || (backTo cpos (starEach es X.env)).any (·.1)) = false; rw [hplain] <;> rfl) (Calls.evalArgs_plain ?_)
  exact thn hA fun us s2 ⟨vs, H2, I2, r2, q2⟩ => hm pins s2 σ H2 x vs v us Q I2 r1 r2 q2
end
end L2
namespace L2
open PySem PySem.Spec PyProof.Rows
def MtM (X : Cx) (id : String) (r : V → List V → Hp → VK → Prop) : Prop :=
  ∀ (pins : List (Addr × Obj)) (s : Shared) (σ : St) (H : Hp) (x : V) (xs : List V) (v : Value) (us : List Value) (Q : VK), Inv X pins σ H s → RelV x v → Vals xs us → r x xs H Q →
    wpAny (model X.prog X.w) X.A (call (.builtin id) (v :: us)) (EP X pins σ Q) X.xe s
theorem Vals.one : ∀ {x : V} {us : List Value}, Vals [x] us → ∃ u, us = [u] ∧ RelV x u
  | _, _, .cons r .nil => ⟨_, rfl, r⟩
theorem Vals.two : ∀ {x y : V} {us : List Value}, Vals [x, y] us → ∃ u v, us = [u, v] ∧ RelV x u ∧ RelV y v
  | _, _, _, .cons r (.cons q .nil) => ⟨_, _, rfl, r, q⟩
theorem Vals.zero : ∀ {us : List Value}, Vals [] us → us = []
  | _, .nil => rfl
theorem Vals.dropLast {xs : List V} {us : List Value} (h : Vals xs us) : Vals xs.dropLast us.dropLast := by
  induction h with
  | nil => exact .nil
  | cons r t ih =>
    cases t with
    | nil => exact .nil
    | cons q t' => exact .cons r ih
theorem Vals.reverse {xs : List V} {us : List Value} (h : Vals xs us) : Vals xs.reverse us.reverse := by
  induction h with
  | nil => exact .nil
  | cons r t ih => rw [List.reverse_cons, List.reverse_cons]; exact Vals.append ih (.cons r .nil)
theorem Vals.rep {xs : List V} {us : List Value} (h : Vals xs us) : ∀ k : Nat, Vals (List.replicate k xs).flatten (List.replicate k us).flatten
  | 0 => .nil
  | k + 1 => by
    rw [List.replicate_succ, List.replicate_succ, List.flatten_cons, List.flatten_cons]
    exact Vals.append h (Vals.rep h k)
theorem foldl_rep (its : List Value) : ∀ (k : Nat) (acc : List Value),
    List.foldl (fun x1 x2 => x1 ++ x2) acc.toArray (List.replicate k its.toArray) = (acc ++ (List.replicate k its).flatten).toArray
  | 0, acc => by simp
  | k + 1, acc => by
    have e : acc.toArray ++ its.toArray = (acc ++ its).toArray := by simp
    have e2 : (acc ++ its) ++ (List.replicate k its).flatten = acc ++ (List.replicate (k + 1) its).flatten := by
      rw [List.replicate_succ, List.flatten_cons, List.append_assoc]
    rw [← e2, ← foldl_rep its k (acc ++ its), ← e, List.replicate_succ, List.foldl_cons]
section
variable {X : Cx} {pins : List (Addr × Obj)} {σ : St} {H : Hp} {s : Shared} {l b : Addr} {xs ys zs : List V}
theorem Inv.lset {its its' : List Value} {n : Nat} {f : Array Value → Array Value} {t' : Nat} (I : Inv X pins σ H s) (hH : H l = some (.lst xs))
    (e : s.heap.get? l = some { cls := .type "list", data := .seq its.toArray n }) (hf : f its.toArray = its'.toArray) (hv : Vals ys its') (hz : ys.length ≤ sizeLine) :
    Inv X pins σ (upd H l (.lst ys)) { s with heap := s.heap.update l (Obj.mapSeq f), toks := t' } := by
  have q := PySem.IsL.update e f
  rw [hf] at q
  refine I.write (x := l) (e := l) (by rw [hH]; exact trivial) (.inl rfl) (fun b' u hb hu => (Heap.get?_update_other s.heap (Obj.mapSeq f) (Ne.symm hb)).trans hu) ⟨_, q⟩ ?_
  exact ⟨hz, its', _, hv, q⟩
theorem Inv.lnew {its : List Value} {t' : Nat} (I : Inv X pins σ H s) (hv : Vals ys its) (hz : ys.length ≤ sizeLine) :
    Inv X pins σ (upd H s.heap.objs.size (.lst ys)) { s with heap := s.heap.push { cls := .type "list", data := .seq its.toArray }, toks := t' } :=
  I.laid (fun _ _ q => Heap.get?_push_of_some _ q) (Nat.le_refl _) ⟨hz, its, 0, hv, Heap.get?_push_size _ rfl⟩
theorem Inv.fresh (I : Inv X pins σ H s) : H s.heap.objs.size = none := I.hok.fresh (Nat.le_refl _)
theorem Inv.lstM (I : Inv X pins σ H s) (hH : H l = some (.lst xs)) : xs.length ≤ sizeLine ∧ ∃ (its : List Value) (n : Nat), Vals xs its ∧ xs.length = its.length ∧ s.heap.get? l = some { cls := .type "list", data := .seq its.toArray n } := by
  obtain ⟨z, its, n, r, e⟩ := I.hok l _ hH
  exact ⟨z, its, n, r, r.length, e⟩
theorem notLongL {n : Nat} (h : n ≤ sizeLine) : Builtin.List.listTooLong n = false := by
  unfold Builtin.List.listTooLong
  exact decide_eq_false (by omega)
end
section
variable {X : Cx}
def rAppend : V → List V → Hp → VK → Prop := fun x vs H Q => ∃ l xs y, x = .ref l ∧ vs = [y] ∧ H l = some (.lst xs) ∧ xs.length < sizeLine ∧ Q .non (upd H l (.lst (xs ++ [y])))
theorem mt_append : MtM X "list.append" rAppend := by
  intro pins s σ H x vs v us Q I rx rv h
  obtain ⟨l, xs, y, rfl, rfl, hH, hz, q⟩ := h
  cases rx
  obtain ⟨u, rfl, ru⟩ := rv.one
  obtain ⟨z, its, n, r, hl, e⟩ := I.lstM hH
  refine call_meets F.slot_list_append ⟨_, e, rfl⟩ F.entry_list_append (F.args_list_append_2 _ _) (PySem.list_append l its.toArray n u (by rw [List.size_toArray]; omega)) ⟨e, ?_⟩
  refine ⟨.non, _, I.lset (its' := its ++ [u]) hH e (by simp) (r.append (.cons ru .nil)) ?_, rfl, q⟩
  rw [List.length_append, List.length_singleton]
  omega
def rCat : R2 := fun x y H Q => ∃ l b xs zs, x = .ref l ∧ y = .ref b ∧ H l = some (.lst xs) ∧ H b = some (.lst zs) ∧ xs.length + zs.length ≤ sizeLine ∧ ∀ p, H p = none → Q (.ref p) (upd H p (.lst (xs ++ zs)))
theorem op_cat : OpR X (binaryOp .Add) rCat := by
  intro pins s σ H x y v u Q I rx ry h
  obtain ⟨l, b, xs, zs, rfl, rfl, hH, hB, hz, q⟩ := h
  cases rx
  cases ry
  obtain ⟨z, its, n, r, hl, e⟩ := I.lstM hH
  obtain ⟨z2, its2, n2, r2, hl2, e2⟩ := I.lstM hB
  refine PySem.P.add_list e e2 ?_ (by rw [List.size_toArray, List.size_toArray]; omega)
  have ea : its.toArray ++ its2.toArray = (its ++ its2).toArray := by simp
  rw [ea]
  exact ⟨.ref _, _, I.lnew (t' := s.toks) (r.append r2) (by rw [List.length_append]; omega), rfl, q _ I.fresh⟩
def rRep : R2 := fun x y H Q => ∃ l k xs, x = .ref l ∧ y = .int k ∧ H l = some (.lst xs) ∧ -(2 ^ 63) ≤ k ∧ k < 2 ^ 63 ∧ xs.length * k.toNat ≤ sizeLine ∧
  ∀ p, H p = none → Q (.ref p) (upd H p (.lst (List.replicate k.toNat xs).flatten))
theorem len_rep {α : Type} (xs : List α) (k : Nat) : (List.replicate k xs).flatten.length = k * xs.length := by
  induction k with
  | zero => simp
  | succ k ih => rw [List.replicate_succ, List.flatten_cons, List.length_append, ih, Nat.succ_mul, Nat.add_comm]
theorem op_rep : OpR X (binaryOp .Mult) rRep := by
  intro pins s σ H x y v u Q I rx ry h
  obtain ⟨l, k, xs, rfl, rfl, hH, h1, h2, hz, q⟩ := h
  cases rx
  obtain ⟨t, rfl⟩ := ry
  obtain ⟨z, its, n, r, hl, e⟩ := I.lstM hH
  have hlen : its.toArray.size * k.toNat ≤ sizeLine := by rw [List.size_toArray, ← hl]; exact hz
  have hcap : ¬ its.toArray.size * k.toNat > (2 ^ 63 - 1) / 8 := by
    have : (sizeLine : Nat) ≤ (2 ^ 63 - 1) / 8 := by decide
    omega
  have hfit : ¬ (!Builtin.List.listFitsIndex k) = true := by
    rw [fitsIndex_both h1 h2]
    exact Bool.false_ne_true
  have hlong : ¬ Builtin.List.listTooLong (its.toArray.size * k.toNat) = true := by
    rw [notLongL hlen]
    exact Bool.false_ne_true
  have hnew : List.foldl (fun x1 x2 => x1 ++ x2) #[] (List.replicate (if its.toArray.isEmpty = true then 0 else k.toNat) its.toArray) = (List.replicate k.toNat its).flatten.toArray := by
    have f0 : ∀ m : Nat, List.foldl (fun x1 x2 => x1 ++ x2) #[] (List.replicate m its.toArray) = (List.replicate m its).flatten.toArray := fun m => by
      have := foldl_rep its m []
      rw [List.nil_append] at this
      exact this
    rw [f0]
    cases its with
    | nil => simp
    | cons a r' => rw [if_neg (by simp)]
  refine wpAny_binaryOp_repeat_ref (T := "list") (U := "int") (by decide) ⟨_, e, rfl⟩ (fun s' => typeIs_int s' k t) noFill_list_mul F.fills_int_mul F.slot_int_rmul repeat_list F.slot_int_index.lookup
    (call_meets F.slot_int_rmul (typeIs_int s k t) F.entry_int_rmul (F.args_int_rmul_2 _ _) (int___rmul___int_list k t l its.toArray n)
      ⟨e, rfl, ⟨_, e, rfl⟩, call_meets F.slot_list_mul ⟨_, e, rfl⟩ F.entry_list_mul (F.args_list_mul_2 _ _) (AutoListH.list___mul___list_int_3 l its.toArray n k t hfit hcap hlong) ⟨e, ?_⟩⟩)
  rw [hnew]
  exact ⟨.ref _, _, I.lnew (t' := s.toks) (r.rep k.toNat) (by rw [len_rep, Nat.mul_comm]; exact hz), rfl, q _ I.fresh⟩
end
section
variable {prog : Program} {w : World} {A : Around} {E : Value → Shared → Prop} {s : Shared}
set_option maxRecDepth 100000 in
end
end L2
namespace Att
open PySem PySem.W PySem.Calls PyProof.Rows
theorem ints_of_wellAll {P : Params} {h : Heap} : ∀ (ns : List Int) (vs : List Value), WellAll P h vs (ns.map WData.int) → IntsAre vs ns := by
  intro ns
  induction ns with
  | nil =>
    intro vs w
    rw [List.map_nil] at w
    cases w
    exact .nil
  | cons n ns ih =>
    intro vs w
    rw [List.map_cons] at w
    cases w with
    | cons a b =>
      cases a
      exact .cons _ _ (ih _ b)
theorem script_of {l : OpenLaw} {n : Nat} (hn : l.most = some n) {P : Params} {h : Heap} {args : List WData} {vals : List Value}
    (hpre : l.row.toRowW.claim.pre args = true) (hwl : WellAll P h vals args) :
    ∃ a vs ns, vals = [Value.ref a] ∧ args = [WData.list (ns.map WData.int)] ∧ h.get? a = some { cls := .type "list", data := .seq vs.toArray } ∧ IntsAre vs ns ∧ ns.length ≤ n := by
  have hsh : WShape.hasAll [] args [.list .int] = true := (pre_splitW hpre).1
  have hc : l.pre.holds [] { args := args } = true := (pre_splitW hpre).2
  obtain ⟨d, r, rfl, h1, h2⟩ := hasAllW_cons hsh
  obtain rfl := hasAllW_nil h2
  obtain ⟨xs, rfl, h3⟩ := hasW_list h1
  obtain ⟨ns, rfl⟩ := items_int h3
  have hlen : ns.length ≤ n := by
    unfold OpenLaw.pre at hc
    have h4 : (WTm.not (.lt (.lit (.int (n : Int))) (.len (.arg 0)))).holds [] { args := [.list (ns.map .int)] } = true := by
      have h4 := (holds_andW hc).1
      rw [hn] at h4
      exact h4
    have h5 := condW_of h4 (w_not (w_lt w_lit (w_len_list (w_arg rfl))))
    rw [List.length_map] at h5
    refine Nat.le_of_not_lt fun q => ?_
    have q' : (n : Int) < ((ns.length : Nat) : Int) := by omega
    first
      | (rw [decide_eq_true q'] at h5; exact absurd h5 (by decide))
      | (simp at h5; omega)
  cases hwl with
  | cons w1 w2 =>
    cases w2
    cases w1 with
    | list ho hall => exact ⟨_, _, ns, rfl, rfl, ho, ints_of_wellAll ns _ hall, hlen⟩
theorem post_true (l : OpenLaw) (args : List WData) : l.row.toRowW.claim.post args (.bool true) args = true :=
  postW_of (r := l.row.toRowW) (X := (true == true))
    (show WShape.has [] (.bool true) .bool = true by first | rfl | decide | simp [WShape.has, WShape.arms, WShape.armsAll])
    (show (WTm.eq .res (.lit (.bool true))).value [] { args := args, res := some (.bool true), after := args } = some (.bool (true == true)) from w_eq_bool (w_res rfl) w_lit) rfl
theorem attach_call {l : OpenLaw} {n : Nat} {q : Program} {loose : List Str} {XP : (Str → Option Value) → Heap → Prop} {YP : World → Heap → Prop} {d : DefRec}
    (hn : l.most = some n) (hdf : d.params.defaults = [])
    (call : ∀ (w : World) (s₀ s₁ : Shared) (mg mb : Str → Option Value) (fa : Addr) (o : Obj) (pm cd doc : Value) (a : Addr) (vs : List Value) (ns : List Int),
      Ground q loose [] XP w s₀ mg mb s₁.heap → YP w s₁.heap →
      s₁.heap.get? fa = some o → o.data = .func (docDef d.name d.params d.body d.scope pm cd doc) → s₁.heap.CodeRec cd d.name → mg d.name = some (.ref fa) →
      s₁.heap.get? a = some { cls := .type "list", data := .seq vs.toArray } → IntsAre vs ns → ns.length ≤ n → s₁.gens = #[] →
      codeAny (model l.prog w) callerA (.call (.ref fa) ⟨[.ref a], []⟩) (fun r s' => r = .ok (.ret (.bool true)) ∧ OldK s₁.heap s'.heap ∧ s'.os = s₁.os ∧ AllBare s'.gens) s₁) :
    WalkO q loose XP YP l.row.toRowW d [] (fun f vs => PySem.call f vs) := by
  intro w s₀ s₁ mg mb G Y fa o pm cd doc dV kV ho hd hcd hD hmg hg args vals as hpre hlay hrd hwl hlo
  obtain rfl : dV = .none := Dflts.none hD hdf
  obtain rfl : kV = .none := Dflts.noKw hD
  obtain ⟨a, vs, ns, rfl, rfl, hobj, hints, hlen⟩ := script_of hn hpre hwl
  refine enter_call (codeAny_mono (call w s₀ s₁ mg mb fa o pm cd doc a vs ns G Y ho (fd_plain hd) hcd hmg hobj hints hlen hg) fun r s' hq => ?_)
  obtain ⟨rfl, h2, h3, h4⟩ := hq
  exact ⟨.inl ⟨.bool true, .bool true, [], rfl, fun _ => rfl, .bool true, post_true l _, fun _ => ⟨List.Pairwise.nil, fun _ hm => (nomatch hm)⟩⟩, h2, h3, h4⟩
end Att
namespace L2
open PySem PySem.Spec PyProof.Rows
theorem vals_ints : ∀ {vs : List Value} {ns : List Int}, IntsAre vs ns → Vals (ns.map V.int) vs
  | _, _, .nil => .nil
  | _, _, .cons n t h => .cons ⟨t, rfl⟩ (vals_ints h)
def Only (H : Hp) : Prop := ∀ b, H b = none ∨ ∃ o xs, H b = some (.frz o (.lst xs))
theorem law_call {P : Program} {w : World} {K : PySem.W.Frag} {mg mb : Str → Option Value} {CX : CXT} {k : Nat} {fa a : Addr} {fd : FuncData} {x : Str} {sp : Sp} {s₁ : Shared} {vs : List Value} {ns : List Int}
    (KX : K.In s₁.heap) (hns : s₁.heap.Ns mainGlobals mg) (hb : s₁.heap.Ns builtinsNs mb) (hbb : ∀ x : Str, x ≠ "__name__" → mb x = bootBuiltins x) (hlim : s₁.heap.NoLimit) (hg : s₁.gens = #[])
    (ha : s₁.heap.get? a = some { cls := .type "list", data := .seq vs.toArray }) (hi : IntsAre vs ns) (hl : ns.length ≤ sizeLine) (hr : Room k callerA)
    (F : ∀ base : Heap, K.In base → base.Ns mainGlobals mg → FnOk P w K mg base CX k fa fd [x] sp) (hbind : ∀ (s : Shared) (u : Value), BindsTo s fd ⟨[u], []⟩ [(x, u)])
    (hsp : ∀ H : Hp, Only H → SqL K H a (ns.map V.int) → sp [.ref a] H (fun v _ => v = .bl true) fun _ _ _ => False)
    (hCX : ∀ H e s', CX [] H s₁ (fun _ _ _ => False) e s' → False) :
    codeAny (model P w) callerA (.call (.ref fa) ⟨[.ref a], []⟩) (fun r s' => r = .ok (.ret (.bool true)) ∧ OldK s₁.heap s'.heap ∧ s'.os = s₁.os ∧ AllBare s'.gens) s₁ := by
  have rv := vals_ints hi
  have lenV := hi.length
  -- from an abstract heap in which nothing but the script may be tracked
  have core : ∀ H : Hp, Only H → SqL K H a (ns.map V.int) → HOk P w H s₁.heap → (∀ b, H b ≠ none → b = a) → (H a ≠ none → K.lookup a = none) →
      codeAny (model P w) callerA (.call (.ref fa) ⟨[.ref a], []⟩) (fun r s' => r = .ok (.ret (.bool true)) ∧ OldK s₁.heap s'.heap ∧ s'.os = s₁.os ∧ AllBare s'.gens) s₁ := by
    intro H hO hS hok hA hK
    have base_of : ∀ {b : Addr} {o : Obj}, s₁.heap.get? b = some o → H b = none → (hidT s₁.heap H).get? b = some o := fun e n => hidT_get e n
    have noA : ∀ {b : Addr} {o : Obj} {es : Array DictEntry} {ep : Nat}, s₁.heap.get? b = some o → o.data = .dict es ep → H b = none := fun {b o es ep} e d => by
      cases q : H b with
      | none => rfl
      | some u =>
        have e' : b = a := hA b (by rw [q]; simp)
        subst e'
        rw [ha] at e; cases e
        have d' : Data.seq vs.toArray _ = Data.dict es ep := d
        cases d'
    have nsK : ∀ {b : Addr} {m : Str → Option Value}, s₁.heap.Ns b m → (hidT s₁.heap H).Ns b m := fun {b m} ⟨o, es, ep, e, d, r⟩ => ⟨o, es, ep, base_of e (noA e d), d, r⟩
    have hKb : K.In (hidT s₁.heap H) := fun b o e => base_of (KX b o e) (by
      cases q : H b with
      | none => rfl
      | some u =>
        have e' : b = a := hA b (by rw [q]; simp)
        subst e'
        rw [hK (by rw [q]; simp)] at e; cases e)
    have hM : Mod K mg (hidT s₁.heap H) := ⟨hKb, nsK hns, ⟨mb, nsK hb, hbb⟩, let ⟨mc, h1, h2⟩ := hlim; ⟨mc, nsK h1, h2⟩⟩
    have e0 : Env0 P w K mg (hidT s₁.heap H) callerA [] s₁ H := ⟨rfl, hM, fun b o e => of_hidT e, Nat.le_of_eq (hidT_size _ _), trivial, fun b hb => absurd (show b ∈ ([] : List Addr) from hb) (by simp), hok, .of_eq hg⟩
    refine codeAny_mono ((F _ hKb (nsK hns)).run callerA [] s₁ H ⟨[.ref a], []⟩ [.ref a] [.ref a] _ _ hr e0 (hbind s₁ (.ref a)) (.cons rfl .nil) (hsp H hO hS)) fun r s' h => ?_
    cases r with
    | error e => exact (hCX H e s' h).elim
    | ok fl =>
      cases fl with
      | next => exact False.elim h
      | brk => exact False.elim h
      | cont => exact False.elim h
      | ret u =>
        obtain ⟨v, H', os, bare, un, hok', r', q⟩ := h
        have q' : v = .bl true := q
        subst q'
        obtain rfl : u = Value.bool true := r'
        refine ⟨rfl, OldK.of_keep fun b o e => ?_, os, bare⟩
        cases q : H b with
        | none => exact un.keep b o e q (by intro z; exact absurd (show b ∈ ([] : List Addr) from z) (by simp)) (by simp)
        | some u =>
          rcases hO b with z | ⟨ob, xs, z⟩
          · rw [q] at z; cases z
          · have z2 := un.frzs b ob _ z
            obtain ⟨e1, _⟩ := hok b _ z
            obtain ⟨e2, _⟩ := hok' b _ z2
            rw [e] at e1; cases e1
            exact e2
  cases hk : K.lookup a with
  | some o =>
    -- the script is one of the module's own objects
    have e := KX a o hk
    rw [ha] at e
    cases e
    refine core (fun _ => none) (fun _ => .inl rfl) (.inr ⟨_, vs.toArray, _, hk, rfl, rfl, rfl, by rw [List.size_toArray, lenV]; exact hl, by simpa using rv⟩) (fun b u z => by have z' : (none : Option HO) = some u := z; cases z') (fun b z => absurd rfl z) fun z => absurd rfl z
  | none =>
    refine core (fun b => if b = a then some (.frz { cls := .type "list", data := .seq vs.toArray } (.lst (ns.map V.int))) else none) (fun b => ?_) (.inl (.inr ⟨{ cls := .type "list", data := .seq vs.toArray }, if_pos rfl⟩)) (fun b u z => ?_) (fun b z => ?_) fun _ => hk
    · by_cases hb : b = a
      · exact .inr ⟨_, _, if_pos hb⟩
      · exact .inl (if_neg hb)
    · by_cases hb : b = a
      · have z' := (if_pos hb).symm.trans z
        cases z'
        subst hb
        exact ⟨ha, by rw [List.length_map]; exact hl, vs, _, rv, ha⟩
      · have z' := (if_neg hb).symm.trans z
        cases z'
    · by_cases hb : b = a
      · exact hb
      · exact absurd (if_neg hb) z
end L2
namespace L2
open PySem PySem.Spec PyProof.Rows
theorem walk_of {l : PySem.W.OpenLaw} {n k : Nat} {q : Program} {loose : List Str} {XP : (Str → Option Value) → Heap → Prop} {YP : World → Heap → Prop} {d : DefRec} {K : Params → PySem.W.Frag} {CX : World → CXT} {sp : World → Sp} {x : Str}
    (hn : l.most = some n) (hn2 : n ≤ sizeLine) (hdf : d.params.defaults = []) (hr : Room k callerA)
    (hY : ∀ (w : World) (h : Heap), YP w h → (K w.params).In h)
    (F : ∀ (w : World) (mg : Str → Option Value) (fa : Addr) (h : Heap), (K w.params).In h → h.Ns mainGlobals mg → mg d.name = some (.ref fa) →
      ∃ fd : FuncData, (∀ (s : Shared) (u : Value), BindsTo s fd ⟨[u], []⟩ [(x, u)]) ∧
        ∀ base : Heap, (K w.params).In base → base.Ns mainGlobals mg → FnOk l.prog w (K w.params) mg base (CX w) k fa fd [x] (sp w))
    (hsp : ∀ (w : World) (H : Hp) (a : Addr) (ns : List Int), ns.length ≤ n → Only H → SqL (K w.params) H a (ns.map V.int) → sp w [.ref a] H (fun v _ => v = .bl true) fun _ _ _ => False)
    (hCX : ∀ (w : World) (H : Hp) (s : Shared) (e : Value) (s' : Shared), CX w [] H s (fun _ _ _ => False) e s' → False) :
    PySem.W.WalkO q loose XP YP l.row.toRowW d [] (fun f vs => PySem.call f vs) := by
  refine Att.attach_call hn hdf fun w s₀ s₁ mg mb fa o pm cd doc a vs ns G Y ho hd hcd hmg hobj hints hlen hg => ?_
  have KX := hY w _ Y
  obtain ⟨fd, hb, hF⟩ := F w mg fa _ KX G.T.g hmg
  exact law_call KX G.T.g G.T.b G.T.builtins G.T.nolimit hg hobj hints (Nat.le_trans hlen hn2) hr hF hb (fun H hO hS => hsp w H a ns hlen hO hS) fun H e s' => hCX w H s₁ e s'
end L2
namespace L2
open PySem PySem.Spec PyProof.Rows
def defArgs (s : Stmt) : Arguments := match s with
  | .FunctionDef _ a _ _ _ _ _ _ _ _ => a
  | _ => { posonlyargs := [], args := [], vararg := none, kwonlyargs := [], kw_defaults := [], kwarg := none, defaults := [] }
def defBody (s : Stmt) : List Stmt := match s with
  | .FunctionDef _ _ b _ _ _ _ _ _ _ => b
  | _ => []
def defScope (s : Stmt) : Scope := match s with
  | .FunctionDef _ _ _ _ _ _ sc _ _ _ => sc
  | _ => { kind := .function, names := [], isGenerator := false, isCoroutine := false }
abbrev CX0 : CXT := fun _ _ _ _ _ _ => False
abbrev E0 : XK := fun _ _ _ => False
structure Fun (K : PySem.W.Frag) (x qual : Str) (st : Stmt) (f : Addr) (fd : FuncData) : Prop where
  ex : ∃ (oc : Value) (od : Option Addr) (kV doc pm : Value) (an : Option Addr) (cdv ct : Value) (osl : Array (Option Value)),
    fd = PySem.W.fnOf x qual (defArgs st) (defBody st) (defScope st) .none kV doc pm an cdv ct ∧ K.lookup f = some ⟨oc, od, .func fd, osl⟩ ∧ PySem.W.codeIn K cdv qual = true
  kp : PySem.W.keepIn K (.ref f) = true
section
variable {P : Program} {w : World} {K : PySem.W.Frag} {mg : Str → Option Value} {base : Heap}
theorem Fun.ok {x qual : Str} {st : Stmt} {f : Addr} {fd : FuncData} {N ps : List Str} {k : Nat} {sp : Sp} (F : Fun K x qual st f fd) (S : FnScope N ps (defScope st)) (len : ∀ vs H Q E, sp vs H Q E → vs.length = ps.length)
    (hbody : ∀ (cdv : Value) (A : Around) (outer : List Env) (s : Shared) (H : Hp) (vs : List V) (Q : VK) (E : XK), Room k (A.deeper (envOfC qual (defScope st) s.heap.objs.size f cdv)) → sp vs H Q E →
      ∃ t, PSs (cxOf CX0 P w K mg base N qual (defScope st) f cdv A outer s H E).nox (defBody st) t ∧ t { nx := fun _ H' => Q .non H', rt := Q } (start N vs) H) : FnOk P w K mg base CX0 (k + 1) f fd ps sp := by
  obtain ⟨oc, od, kV, doc, pm, an, cdv, ct, osl, rfl, lk, hcd⟩ := F.ex
  refine fn_of lk hcd S len fun A outer s H vs Q E hr hsp => ?_
  obtain ⟨t, h, q⟩ := hbody cdv A outer s H vs Q E hr hsp
  exact ⟨t, h.nox, q⟩
theorem Fun.binds {x qual : Str} {st : Stmt} {f : Addr} {fd : FuncData} {ps : List Str} (F : Fun K x qual st f fd)
    (h : ∀ (kV doc pm : Value) (an : Option Addr) (cdv ct : Value) (us : List Value), us.length = ps.length → bindArgs (PySem.W.fnOf x qual (defArgs st) (defBody st) (defScope st) .none kV doc pm an cdv ct) ⟨us, []⟩ = pure (ps.zip us)) : Binds K fd ps [] := by
  obtain ⟨oc, od, kV, doc, pm, an, cdv, ct, osl, rfl, lk, hcd⟩ := F.ex
  exact .all (h kV doc pm an cdv ct)
theorem fun_mk {x qual : Str} {st : Stmt} {f : Addr} {oc : Value} {od an : Option Addr} {osl : Array (Option Value)} {kV doc pm cdv ct : Value} (l : K.lookup f = some ⟨oc, od, .func (PySem.W.fnOf x qual (defArgs st) (defBody st) (defScope st) .none kV doc pm an cdv ct), osl⟩)
    (c : PySem.W.codeIn K cdv qual = true) (k : PySem.W.keepIn K (.ref f) = true) : Fun K x qual st f (PySem.W.fnOf x qual (defArgs st) (defBody st) (defScope st) .none kV doc pm an cdv ct) := ⟨⟨oc, od, kV, doc, pm, an, cdv, ct, osl, rfl, l, c⟩, k⟩
end
section
variable {X : Cx}
theorem pv (i : Nat) {x : Str} {pos : Pos} (hN : X.N[i]? = some x := by rfl) (hv : Vis X.env.scope x := by first | exact Or.inl rfl | exact Or.inr (Or.inl rfl) | exact Or.inr (Or.inr rfl)) (hd : (x == ("__debug__" : Str)) = false := by decide)
    (hcd : (x == ("__classdict__" : Str)) = false := by decide) : PE X (.Name x pos) (tVar i) := pe_var hN hv hd hcd
end
def Same (H H' : Hp) : Prop := ∀ b o, H b = some o → H' b = some o
theorem Same.refl (H : Hp) : Same H H := fun _ _ h => h
theorem Same.trans {H H1 H2 : Hp} (a : Same H H1) (b : Same H1 H2) : Same H H2 := fun c o h => b c o (a c o h)
theorem Same.free {H H' : Hp} (e : Same H H') {l : Addr} (h : H' l = Option.none) : H l = Option.none := by
  cases q : H l with
  | none => rfl
  | some o =>
    rw [e l o q] at h
    cases h
theorem Same.seq {K : PySem.W.Frag} {H H' : Hp} {a : Addr} {xs : List V} (e : Same H H') (h : SqL K H a xs) : SqL K H' a xs := by
  rcases h with (h | ⟨o, h⟩) | h
  · exact .inl (.inl (e _ _ h))
  · exact .inl (.inr ⟨o, e _ _ h⟩)
  · exact .inr h
end L2
section
set_option Elab.async false
set_option linter.all false
set_option maxRecDepth 100000
namespace M
open PySem PySem.Spec PyProof.Rows L2
inductive D where
  | non | bl (b : Bool) | int (i : Int) | str (x : Str) | ty (n : String)
  | tup (l : List D) | lst (l : List D) | rol (l : List D)
  | obj (C : Addr) (ks : List Str) (l : List D)
abbrev AS := Addr → Prop
def KT (K : PySem.W.Frag) (a : Addr) (vs : List V) : Prop :=
  ∃ (o : Obj) (its : Array Value) (n : Nat), K.lookup a = some o ∧ o.cls = .type "tuple" ∧ o.data = .seq its n ∧ its.size ≤ sizeLine ∧ Vals vs its.toList
def KL (K : PySem.W.Frag) (a : Addr) (vs : List V) : Prop :=
  ∃ (o : Obj) (its : Array Value) (n : Nat), K.lookup a = some o ∧ o.cls = .type "list" ∧ o.dict = none ∧ o.data = .seq its n ∧ its.size ≤ sizeLine ∧ Vals vs its.toList
def OkC (K : PySem.W.Frag) (C : Addr) (ks : List Str) : Prop := Cls K C ∧ ∀ f ∈ ks, NoAttr K C f
mutual
def Rep (K : PySem.W.Frag) (A : AS) (H : Hp) : D → V → Prop
  | .non, v => v = .non
  | .bl b, v => v = .bl b
  | .int i, v => v = .int i
  | .str x, v => v = .str x
  | .ty n, v => v = .ty n
  | .tup l, v => ∃ a vs, v = .ref a ∧ ((¬ A a ∧ Rd H a (.tup vs)) ∨ KT K a vs) ∧ RepL K A H l vs
  | .lst l, v => ∃ a vs, v = .ref a ∧ ¬ A a ∧ H a = some (.lst vs) ∧ RepL K A H l vs
  | .rol l, v => ∃ a vs, v = .ref a ∧ ((¬ A a ∧ Rd H a (.lst vs)) ∨ KL K a vs) ∧ RepL K A H l vs
  | .obj C ks l, v => ∃ a dx vs, v = .ref a ∧ ¬ A a ∧ H a = some (.ins C dx (ks.zip vs)) ∧ ks.length = vs.length ∧ RepL K A H l vs ∧ OkC K C ks
def RepL (K : PySem.W.Frag) (A : AS) (H : Hp) : List D → List V → Prop
  | [], vs => vs = []
  | d :: ds, vs => ∃ v vr, vs = v :: vr ∧ Rep K A H d v ∧ RepL K A H ds vr
end
section
variable {K : PySem.W.Frag} {A A' : AS} {H H' : Hp}
def Pres (A : AS) (H : Hp) (A' : AS) (H' : Hp) : Prop := ∀ b o, ¬ A b → H b = some o → ¬ A' b ∧ H' b = some o
theorem Rd.pres (p : Pres A H A' H') {a : Addr} {u : HO} (n : ¬ A a) (r : Rd H a u) : ¬ A' a ∧ Rd H' a u := by
  rcases r with r | ⟨o, r⟩
  · exact ⟨(p a _ n r).1, .inl (p a _ n r).2⟩
  · exact ⟨(p a _ n r).1, .inr ⟨o, (p a _ n r).2⟩⟩
mutual
theorem Rep.mono (p : Pres A H A' H') : ∀ {d : D} {v : V}, Rep K A H d v → Rep K A' H' d v
  | .non, _, h => h
  | .bl _, _, h => h
  | .int _, _, h => h
  | .str _, _, h => h
  | .ty _, _, h => h
  | .tup l, v, h => by
    simp only [Rep] at h ⊢
    obtain ⟨a, vs, e, c, r⟩ := h
    refine ⟨a, vs, e, ?_, RepL.mono p r⟩
    rcases c with ⟨n, c⟩ | c
    · exact .inl (Rd.pres p n c)
    · exact .inr c
  | .lst l, v, h => by
    simp only [Rep] at h ⊢
    obtain ⟨a, vs, e, n, c, r⟩ := h
    exact ⟨a, vs, e, (p a _ n c).1, (p a _ n c).2, RepL.mono p r⟩
  | .rol l, v, h => by
    simp only [Rep] at h ⊢
    obtain ⟨a, vs, e, c, r⟩ := h
    refine ⟨a, vs, e, ?_, RepL.mono p r⟩
    rcases c with ⟨n, c⟩ | c
    · exact .inl (Rd.pres p n c)
    · exact .inr c
  | .obj C ks l, v, h => by
    simp only [Rep] at h ⊢
    obtain ⟨a, dx, vs, e, n, c, hl, r, ok⟩ := h
    exact ⟨a, dx, vs, e, (p a _ n c).1, (p a _ n c).2, hl, RepL.mono p r, ok⟩
theorem RepL.mono (p : Pres A H A' H') : ∀ {l : List D} {vs : List V}, RepL K A H l vs → RepL K A' H' l vs
  | [], _, h => by simp only [RepL] at h ⊢; exact h
  | d :: ds, vs, h => by
    simp only [RepL] at h ⊢
    obtain ⟨v, vr, e, r, rs⟩ := h
    exact ⟨v, vr, e, Rep.mono p r, RepL.mono p rs⟩
end
theorem RepL.length : ∀ {l : List D} {vs : List V}, RepL K A H l vs → l.length = vs.length
  | [], _, h => by simp only [RepL] at h; subst h; rfl
  | d :: ds, vs, h => by
    simp only [RepL] at h
    obtain ⟨v, vr, rfl, _, rs⟩ := h
    simp only [List.length_cons, RepL.length rs]
theorem RepL.nil : RepL K A H [] [] := by simp only [RepL]
theorem RepL.cons {d : D} {v : V} {l : List D} {vs : List V} (r : Rep K A H d v) (rs : RepL K A H l vs) : RepL K A H (d :: l) (v :: vs) := by
  simp only [RepL]; exact ⟨v, vs, rfl, r, rs⟩
theorem RepL.uncons {d : D} {l : List D} {vs : List V} (h : RepL K A H (d :: l) vs) : ∃ v vr, vs = v :: vr ∧ Rep K A H d v ∧ RepL K A H l vr := by
  simpa only [RepL] using h
theorem RepL.unnil {vs : List V} (h : RepL K A H [] vs) : vs = [] := by simpa only [RepL] using h
theorem RepL.append : ∀ {l m : List D} {vs ws : List V}, RepL K A H l vs → RepL K A H m ws → RepL K A H (l ++ m) (vs ++ ws)
  | [], _, _, _, h, g => by rw [h.unnil]; exact g
  | d :: l, m, vs, ws, h, g => by
    obtain ⟨v, vr, rfl, r, rs⟩ := h.uncons
    exact .cons r (RepL.append rs g)
theorem RepL.get : ∀ {l : List D} {vs : List V} {i : Nat} {d : D}, RepL K A H l vs → l[i]? = some d → ∃ v, vs[i]? = some v ∧ Rep K A H d v
  | [], _, _, _, _, e => by simp at e
  | d :: l, vs, 0, d', h, e => by
    obtain ⟨v, vr, rfl, r, rs⟩ := h.uncons
    simp at e; subst e
    exact ⟨v, by simp, r⟩
  | d :: l, vs, i + 1, d', h, e => by
    obtain ⟨v, vr, rfl, r, rs⟩ := h.uncons
    obtain ⟨w, h1, h2⟩ := RepL.get (i := i) rs (by simpa using e)
    exact ⟨w, by simpa using h1, h2⟩
theorem RepL.set : ∀ {l : List D} {vs : List V} {d : D} {v : V} (i : Nat), RepL K A H l vs → Rep K A H d v → RepL K A H (l.set i d) (vs.set i v)
  | [], _, _, _, _, h, _ => by rw [h.unnil]; exact .nil
  | d' :: l, vs, d, v, 0, h, g => by
    obtain ⟨w, vr, rfl, r, rs⟩ := h.uncons
    exact .cons g rs
  | d' :: l, vs, d, v, i + 1, h, g => by
    obtain ⟨w, vr, rfl, r, rs⟩ := h.uncons
    exact .cons r (RepL.set i rs g)
theorem RepL.drop : ∀ {l : List D} {vs : List V} (n : Nat), RepL K A H l vs → RepL K A H (l.drop n) (vs.drop n)
  | _, _, 0, h => h
  | [], _, n + 1, h => by rw [h.unnil]; exact .nil
  | d :: l, vs, n + 1, h => by
    obtain ⟨v, vr, rfl, r, rs⟩ := h.uncons
    exact RepL.drop n rs
theorem RepL.take : ∀ {l : List D} {vs : List V} (n : Nat), RepL K A H l vs → RepL K A H (l.take n) (vs.take n)
  | _, _, 0, h => by simp only [List.take_zero]; exact .nil
  | [], _, n + 1, h => by rw [h.unnil]; exact .nil
  | d :: l, vs, n + 1, h => by
    obtain ⟨v, vr, rfl, r, rs⟩ := h.uncons
    exact .cons r (RepL.take n rs)
theorem RepL.rep {l : List D} {vs : List V} (h : RepL K A H l vs) : ∀ k : Nat, RepL K A H (List.replicate k l).flatten (List.replicate k vs).flatten
  | 0 => .nil
  | k + 1 => by
    rw [List.replicate_succ, List.replicate_succ, List.flatten_cons, List.flatten_cons]
    exact .append h (h.rep k)
theorem RepL.reverse : ∀ {l : List D} {vs : List V}, RepL K A H l vs → RepL K A H l.reverse vs.reverse
  | [], _, h => by rw [h.unnil]; exact .nil
  | d :: l, vs, h => by
    obtain ⟨v, vr, rfl, r, rs⟩ := h.uncons
    rw [List.reverse_cons, List.reverse_cons]
    exact .append (RepL.reverse rs) (.cons r .nil)
theorem Pres.same (s : Same H H') : Pres A H A H' := fun b o n e => ⟨n, s b o e⟩
theorem Pres.sub (s : Same H H') (h : ∀ a, A' a → A a) : Pres A H A' H' := fun b o n e => ⟨fun q => n (h b q), s b o e⟩
theorem Pres.fresh {a : Addr} (s : Same H H') (n : H a = none) : Pres A H (fun b => A b ∨ b = a) H' := fun b o nb e =>
  ⟨fun q => q.elim nb fun z => (by subst z; rw [n] at e; cases e), s b o e⟩
theorem Pres.upd {a : Addr} {o : HO} (h : A a) : Pres A H A (upd H a o) := fun b o' nb e => ⟨nb, by rw [upd_ne (fun z => nb (by subst z; exact h))]; exact e⟩
end
inductive B where
  | pu (d : D) | ow (l : List D) | bo (l : List D)
def B.d : B → D
  | .pu d => d
  | .ow l => .lst l
  | .bo l => .lst l
abbrev Ev := List (Option B)
def Own (ρ : Ev) (σ : L2.St) : AS := fun a => ∃ (i : Nat) (l : List D), ρ[i]? = some (some (.ow l)) ∧ σ[i]? = some (some (.ref a))
structure C0 where
  H0 : Hp
  A0 : AS
def Av (C : C0) (ρ : Ev) (σ : L2.St) : AS := fun a => C.A0 a ∨ Own ρ σ a
structure EOk (K : PySem.W.Frag) (C : C0) (ρ : Ev) (σ : L2.St) (H : Hp) : Prop where
  len : ρ.length = σ.length
  pu : ∀ (i : Nat) (d : D), ρ[i]? = some (some (.pu d)) → ∃ v, σ[i]? = some (some v) ∧ Rep K (Av C ρ σ) H d v
  ow : ∀ (i : Nat) (l : List D), ρ[i]? = some (some (.ow l)) → ∃ a vs, σ[i]? = some (some (.ref a)) ∧ H a = some (.lst vs) ∧ C.H0 a = none ∧ RepL K (Av C ρ σ) H l vs
  inj : ∀ (i j : Nat) (l l' : List D) (a : Addr), ρ[i]? = some (some (.ow l)) → ρ[j]? = some (some (.ow l')) → σ[i]? = some (some (.ref a)) → σ[j]? = some (some (.ref a)) → i = j
  bo : ∀ (i : Nat) (l : List D), ρ[i]? = some (some (.bo l)) → ∃ a vs, σ[i]? = some (some (.ref a)) ∧ C.A0 a ∧ C.H0 a = some (.lst vs) ∧ RepL K (Av C ρ σ) H l vs
  ext : Same C.H0 H
  a0 : ∀ a, C.A0 a → C.H0 a ≠ none
section
variable {K : PySem.W.Frag} {C : C0} {ρ ρ' : Ev} {σ σ' : L2.St} {H H' : Hp}
theorem EOk.avSome (I : EOk K C ρ σ H) {a : Addr} (h : Av C ρ σ a) : H a ≠ none := by
  rcases h with h | ⟨i, l, h1, h2⟩
  · intro z
    cases e : C.H0 a with
    | none => exact I.a0 a h e
    | some o => rw [I.ext a o e] at z; cases z
  · obtain ⟨b, vs, h3, h4, _⟩ := I.ow i l h1
    rw [h2] at h3; cases h3
    rw [h4]; simp
theorem EOk.same (I : EOk K C ρ σ H) (s : Same H H') : EOk K C ρ σ H' where
  len := I.len
  pu := fun i d h => let ⟨v, h1, h2⟩ := I.pu i d h; ⟨v, h1, h2.mono (.same s)⟩
  ow := fun i l h => let ⟨a, vs, h1, h2, h3, h4⟩ := I.ow i l h; ⟨a, vs, h1, s _ _ h2, h3, h4.mono (.same s)⟩
  inj := I.inj
  bo := fun i l h => let ⟨a, vs, h1, h2, h3, h4⟩ := I.bo i l h; ⟨a, vs, h1, h2, h3, h4.mono (.same s)⟩
  ext := I.ext.trans s
  a0 := I.a0
theorem get_set_ne {α : Type} {l : List α} {i j : Nat} {x : α} (h : i ≠ j) : (l.set i x)[j]? = l[j]? := by
  rw [List.getElem?_set]; simp [h]
theorem get_set_eq {α : Type} {l : List α} {i : Nat} {x : α} (h : i < l.length) : (l.set i x)[i]? = some x := by
  rw [List.getElem?_set]; simp [h]
theorem get_set_cases {α : Type} {l : List α} {i j : Nat} {x y : α} (h : (l.set i x)[j]? = some y) : (i = j ∧ y = x ∧ i < l.length) ∨ (i ≠ j ∧ l[j]? = some y) := by
  by_cases e : i = j
  · subst e
    rw [List.getElem?_set] at h
    by_cases hl : i < l.length
    · simp [hl] at h; exact .inl ⟨rfl, h.symm, hl⟩
    · simp [hl] at h
  · exact .inr ⟨e, by rw [get_set_ne e] at h; exact h⟩
def RepB (K : PySem.W.Frag) (A : AS) (H H' : Hp) : B → V → Prop
  | .pu d, v => Rep K A H' d v
  | .ow l, v => ∃ a vs, v = .ref a ∧ H a = none ∧ H' a = some (.lst vs) ∧ RepL K (fun b => A b ∨ b = a) H' l vs
  | .bo _, _ => False
theorem RepB.rep {A : AS} (hA : ∀ a, A a → H a ≠ none) : ∀ {b : B} {v : V}, RepB K A H H' b v → Rep K A H' b.d v
  | .pu d, v, h => h
  | .ow l, v, h => by
    obtain ⟨a, vs, e, n, h1, r⟩ := h
    show Rep K A H' (.lst l) v
    simp only [Rep]
    exact ⟨a, vs, e, fun z => hA a z n, h1, r.mono (fun b o nb q => ⟨fun z => nb (.inl z), q⟩)⟩
  | .bo l, v, h => h.elim
theorem EOk.store (I : EOk K C ρ σ H) {i : Nat} {b : B} {v : V} {H1 : Hp} (s : Same H H1) (r : RepB K (Av C ρ σ) H H1 b v) (hi : i < σ.length) : EOk K C (ρ.set i (some b)) (σ.set i (some v)) H1 := by
  have I1 := I.same s
  have hir : i < ρ.length := by rw [I.len]; exact hi
  cases b with
  | pu d =>
    have sub : ∀ a, Av C (ρ.set i (some (.pu d))) (σ.set i (some v)) a → Av C ρ σ a := by
      rintro a (z | ⟨j, l, h1, h2⟩)
      · exact .inl z
      · rcases get_set_cases h1 with ⟨rfl, h3, _⟩ | ⟨ne, h3⟩
        · cases h3
        · rw [get_set_ne ne] at h2
          exact .inr ⟨j, l, h3, h2⟩
    refine ⟨by rw [List.length_set, List.length_set]; exact I.len, ?_, ?_, ?_, ?_, I1.ext, I.a0⟩
    rotate_right
    · intro j l h
      rcases get_set_cases h with ⟨rfl, h3, _⟩ | ⟨ne, h3⟩
      · cases h3
      · obtain ⟨a, vs, h4, h5, h6, h7⟩ := I1.bo j l h3
        exact ⟨a, vs, by rw [get_set_ne ne]; exact h4, h5, h6, h7.mono (.sub (.refl _) sub)⟩
    · intro j d' h
      rcases get_set_cases h with ⟨rfl, h3, _⟩ | ⟨ne, h3⟩
      · cases h3
        exact ⟨v, get_set_eq hi, Rep.mono (.sub (.refl _) sub) r⟩
      · obtain ⟨v', h4, h5⟩ := I1.pu j d' h3
        exact ⟨v', by rw [get_set_ne ne]; exact h4, h5.mono (.sub (.refl _) sub)⟩
    · intro j l h
      rcases get_set_cases h with ⟨rfl, h3, _⟩ | ⟨ne, h3⟩
      · cases h3
      · obtain ⟨a, vs, h4, h5, h6, h7⟩ := I1.ow j l h3
        exact ⟨a, vs, by rw [get_set_ne ne]; exact h4, h5, h6, h7.mono (.sub (.refl _) sub)⟩
    · intro j k l l' a h1 h2 h3 h4
      rcases get_set_cases h1 with ⟨rfl, z, _⟩ | ⟨ne, z⟩
      · cases z
      · rcases get_set_cases h2 with ⟨rfl, z', _⟩ | ⟨ne', z'⟩
        · cases z'
        · rw [get_set_ne ne] at h3
          rw [get_set_ne ne'] at h4
          exact I.inj j k l l' a z z' h3 h4
  | ow l0 =>
    obtain ⟨a0, vs0, rfl, n0, e0, r0⟩ := r
    have sub : ∀ a, Av C (ρ.set i (some (.ow l0))) (σ.set i (some (.ref a0))) a → Av C ρ σ a ∨ a = a0 := by
      rintro a (z | ⟨j, l, h1, h2⟩)
      · exact .inl (.inl z)
      · rcases get_set_cases h1 with ⟨rfl, h3, _⟩ | ⟨ne, h3⟩
        · rw [get_set_eq hi] at h2
          cases h2; exact .inr rfl
        · rw [get_set_ne ne] at h2
          exact .inl (.inr ⟨j, l, h3, h2⟩)
    have P : Pres (Av C ρ σ) H (Av C (ρ.set i (some (.ow l0))) (σ.set i (some (.ref a0)))) H1 := fun b o nb e =>
      ⟨fun q => (sub b q).elim nb fun z => (by subst z; rw [n0] at e; cases e), s b o e⟩
    refine ⟨by rw [List.length_set, List.length_set]; exact I.len, ?_, ?_, ?_, ?_, I1.ext, I.a0⟩
    rotate_right
    · intro j l h
      rcases get_set_cases h with ⟨rfl, h3, _⟩ | ⟨ne, h3⟩
      · cases h3
      · obtain ⟨a, vs, h4, h5, h6, h7⟩ := I.bo j l h3
        exact ⟨a, vs, by rw [get_set_ne ne]; exact h4, h5, h6, h7.mono P⟩
    · intro j d' h
      rcases get_set_cases h with ⟨rfl, h3, _⟩ | ⟨ne, h3⟩
      · cases h3
      · obtain ⟨v', h4, h5⟩ := I.pu j d' h3
        exact ⟨v', by rw [get_set_ne ne]; exact h4, h5.mono P⟩
    · intro j l h
      rcases get_set_cases h with ⟨rfl, h3, _⟩ | ⟨ne, h3⟩
      · cases h3
        refine ⟨a0, vs0, get_set_eq hi, e0, ?_, r0.mono (fun b o nb q => ⟨fun z => nb (sub b z), q⟩)⟩
        cases e : C.H0 a0 with
        | none => rfl
        | some o => rw [I.ext _ _ e] at n0; cases n0
      · obtain ⟨a, vs, h4, h5, h6, h7⟩ := I.ow j l h3
        exact ⟨a, vs, by rw [get_set_ne ne]; exact h4, s _ _ h5, h6, h7.mono P⟩
    · intro j k l l' a h1 h2 h3 h4
      have old : ∀ {j : Nat} {l : List D}, ρ[j]? = some (some (.ow l)) → σ[j]? ≠ some (some (.ref a0)) := fun {j l} h z => by
        obtain ⟨b, vs, h4, h5, _⟩ := I.ow j l h
        rw [z] at h4; cases h4
        rw [n0] at h5; cases h5
      rcases get_set_cases h1 with ⟨rfl, z, _⟩ | ⟨ne, z⟩
      · rw [get_set_eq hi] at h3; cases h3
        rcases get_set_cases h2 with ⟨rfl, z', _⟩ | ⟨ne', z'⟩
        · rfl
        · rw [get_set_ne ne'] at h4
          exact absurd h4 (old z')
      · rw [get_set_ne ne] at h3
        rcases get_set_cases h2 with ⟨rfl, z', _⟩ | ⟨ne', z'⟩
        · rw [get_set_eq hi] at h4; cases h4
          exact absurd h3 (old z)
        · rw [get_set_ne ne'] at h4
          exact I.inj j k l l' a z z' h3 h4
  | bo l0 => exact r.elim
theorem EOk.freeze (I : EOk K C ρ σ H) {i : Nat} {l : List D} (h : ρ[i]? = some (some (.ow l))) :
    EOk K C (ρ.set i (some (.pu (.lst l)))) σ H ∧ (∀ a, Own (ρ.set i (some (.pu (.lst l)))) σ a → Own ρ σ a) ∧ ∃ v, σ[i]? = some (some v) ∧ Rep K (Av C (ρ.set i (some (.pu (.lst l)))) σ) H (.lst l) v := by
  have sub : ∀ a, Own (ρ.set i (some (.pu (.lst l)))) σ a → Own ρ σ a := by
    rintro a ⟨j, l', h1, h2⟩
    rcases get_set_cases h1 with ⟨rfl, h3, _⟩ | ⟨ne, h3⟩
    · cases h3
    · exact ⟨j, l', h3, h2⟩
  have subA : ∀ a, Av C (ρ.set i (some (.pu (.lst l)))) σ a → Av C ρ σ a := fun a z => z.imp id (sub a)
  obtain ⟨a, vs, h1, h2, h3, h4⟩ := I.ow i l h
  have na : ¬ Av C (ρ.set i (some (.pu (.lst l)))) σ a := by
    rintro (z | ⟨j, l', g1, g2⟩)
    · exact I.a0 a z h3
    · rcases get_set_cases g1 with ⟨rfl, g3, _⟩ | ⟨ne, g3⟩
      · cases g3
      · exact ne (I.inj i j l l' a h g3 h1 g2)
  have R : Rep K (Av C (ρ.set i (some (.pu (.lst l)))) σ) H (.lst l) (.ref a) := by
    simp only [Rep]
    exact ⟨a, vs, rfl, na, h2, h4.mono (.sub (.refl _) subA)⟩
  refine ⟨⟨by rw [List.length_set]; exact I.len, ?_, ?_, ?_, ?_, I.ext, I.a0⟩, sub, .ref a, h1, R⟩
  rotate_right
  · intro j l' g
    rcases get_set_cases g with ⟨rfl, g3, _⟩ | ⟨ne, g3⟩
    · cases g3
    · obtain ⟨a', vs', g4, g5, g6, g7⟩ := I.bo j l' g3
      exact ⟨a', vs', g4, g5, g6, g7.mono (.sub (.refl _) subA)⟩
  · intro j d' g
    rcases get_set_cases g with ⟨rfl, g3, _⟩ | ⟨ne, g3⟩
    · cases g3
      exact ⟨_, h1, R⟩
    · obtain ⟨v', g4, g5⟩ := I.pu j d' g3
      exact ⟨v', g4, g5.mono (.sub (.refl _) subA)⟩
  · intro j l' g
    rcases get_set_cases g with ⟨rfl, g3, _⟩ | ⟨ne, g3⟩
    · cases g3
    · obtain ⟨a', vs', g4, g5, g6, g7⟩ := I.ow j l' g3
      exact ⟨a', vs', g4, g5, g6, g7.mono (.sub (.refl _) subA)⟩
  · intro j k l1 l2 a' g1 g2 g3 g4
    rcases get_set_cases g1 with ⟨rfl, z, _⟩ | ⟨ne, z⟩
    · cases z
    · rcases get_set_cases g2 with ⟨rfl, z', _⟩ | ⟨ne', z'⟩
      · cases z'
      · exact I.inj j k l1 l2 a' z z' g3 g4
theorem EOk.write (I : EOk K C ρ σ H) {i : Nat} {l l' : List D} {a : Addr} {vs' : List V} (h : ρ[i]? = some (some (.ow l))) (hs : σ[i]? = some (some (.ref a))) (r : RepL K (Av C ρ σ) H l' vs') :
    EOk K C (ρ.set i (some (.ow l'))) σ (upd H a (.lst vs')) := by
  have hi : i < ρ.length := (List.getElem?_eq_some_iff.mp h).1
  have sub : ∀ b, Av C (ρ.set i (some (.ow l'))) σ b → Av C ρ σ b := by
    rintro b (z | ⟨j, l2, h1, h2⟩)
    · exact .inl z
    · rcases get_set_cases h1 with ⟨rfl, h3, _⟩ | ⟨ne, h3⟩
      · exact .inr ⟨i, l, h, h2⟩
      · exact .inr ⟨j, l2, h3, h2⟩
  have own : Av C ρ σ a := .inr ⟨i, l, h, hs⟩
  have P : Pres (Av C ρ σ) H (Av C (ρ.set i (some (.ow l'))) σ) (upd H a (.lst vs')) := fun b o nb e => ⟨fun z => nb (sub b z), (Pres.upd own b o nb e).2⟩
  obtain ⟨a1, vs, h1, h2, h3, h4⟩ := I.ow i l h
  rw [hs] at h1; cases h1
  refine ⟨by rw [List.length_set]; exact I.len, ?_, ?_, ?_, ?_, ?_, I.a0⟩
  rotate_left 3
  · intro j l2 g
    rcases get_set_cases g with ⟨rfl, g3, _⟩ | ⟨ne, g3⟩
    · cases g3
    · obtain ⟨a', vs', g4, g5, g6, g7⟩ := I.bo j l2 g3
      exact ⟨a', vs', g4, g5, g6, g7.mono P⟩
  rotate_left 1
  · intro j d' g
    rcases get_set_cases g with ⟨rfl, g3, _⟩ | ⟨ne, g3⟩
    · cases g3
    · obtain ⟨v', g4, g5⟩ := I.pu j d' g3
      exact ⟨v', g4, g5.mono P⟩
  · intro j l2 g
    rcases get_set_cases g with ⟨rfl, g3, _⟩ | ⟨ne, g3⟩
    · cases g3
      exact ⟨a, vs', hs, upd_same, h3, r.mono P⟩
    · obtain ⟨a', vs2, g4, g5, g6, g7⟩ := I.ow j l2 g3
      refine ⟨a', vs2, g4, ?_, g6, g7.mono P⟩
      rw [upd_ne (fun z => ?_)]
      · exact g5
      · subst z
        exact ne (I.inj i j l l2 a' h g3 hs g4)
  · intro j k l1 l2 a' g1 g2 g3 g4
    have old : ∀ {j : Nat} {l1 : List D}, (ρ.set i (some (.ow l')))[j]? = some (some (.ow l1)) → ∃ l3, ρ[j]? = some (some (.ow l3)) := fun {j l1} g => by
      rcases get_set_cases g with ⟨rfl, z, _⟩ | ⟨ne, z⟩
      · exact ⟨l, h⟩
      · exact ⟨l1, z⟩
    obtain ⟨_, q1⟩ := old g1
    obtain ⟨_, q2⟩ := old g2
    exact I.inj j k _ _ a' q1 q2 g3 g4
  · intro b o e
    rw [upd_ne (fun z => ?_)]
    · exact I.ext b o e
    · subst z
      rw [h3] at e; cases e
def C0.raise (C : C0) (ρ : Ev) (σ : L2.St) (H : Hp) (D : (a : Addr) → Decidable (Own ρ σ a)) : C0 := ⟨fun b => @ite _ (Own ρ σ b) (D b) none (H b), C.A0⟩
open Classical in
theorem EOk.raise (I : EOk K C ρ σ H) : EOk K (C.raise ρ σ H fun _ => inferInstance) ρ σ H ∧ Same C.H0 (C.raise ρ σ H fun _ => inferInstance).H0 := by
  have e1 : ∀ b, Own ρ σ b → (C.raise ρ σ H fun _ => inferInstance).H0 b = none := fun b h => if_pos h
  have e2 : ∀ b, ¬ Own ρ σ b → (C.raise ρ σ H fun _ => inferInstance).H0 b = H b := fun b h => if_neg h
  have no : ∀ b o, C.H0 b = some o → ¬ Own ρ σ b := fun b o e ⟨i, l, h1, h2⟩ => by
    obtain ⟨a, vs, h3, h4, h5, _⟩ := I.ow i l h1
    rw [h2] at h3; cases h3
    rw [h5] at e; cases e
  have s1 : Same C.H0 (C.raise ρ σ H fun _ => inferInstance).H0 := fun b o e => by rw [e2 b (no b o e)]; exact I.ext b o e
  refine ⟨⟨I.len, I.pu, fun i l h => ?_, I.inj, fun i l h => ?_, fun b o e => ?_, fun a h z => ?_⟩, s1⟩
  · obtain ⟨a, vs, h3, h4, h5, h6⟩ := I.ow i l h
    exact ⟨a, vs, h3, h4, e1 a ⟨i, l, h, h3⟩, h6⟩
  · obtain ⟨a, vs, h3, h4, h5, h6⟩ := I.bo i l h
    exact ⟨a, vs, h3, h4, s1 _ _ h5, h6⟩
  · by_cases q : Own ρ σ b
    · rw [e1 b q] at e; cases e
    · rw [e2 b q] at e; exact e
  · cases e : C.H0 a with
    | none => exact I.a0 a h e
    | some o => rw [s1 a o e] at z; cases z
theorem EOk.lower {C C' : C0} (I : EOk K C' ρ σ H) (s : Same C.H0 C'.H0) (e : C'.A0 = C.A0) (ha : ∀ a, C.A0 a → C.H0 a ≠ none) : EOk K C ρ σ H := by
  obtain ⟨H0', A0'⟩ := C'
  obtain ⟨H0, A0⟩ := C
  have e' : A0' = A0 := e
  subst e'
  refine ⟨I.len, I.pu, fun i l h => ?_, I.inj, fun i l h => ?_, s.trans I.ext, ha⟩
  · obtain ⟨a, vs, h3, h4, h5, h6⟩ := I.ow i l h
    exact ⟨a, vs, h3, h4, s.free h5, h6⟩
  · obtain ⟨a, vs, h3, h4, h5, h6⟩ := I.bo i l h
    refine ⟨a, vs, h3, h4, ?_, h6⟩
    cases e : H0 a with
    | none => exact absurd e (ha a h4)
    | some o =>
      have := s a o e
      have h5' : H0' a = some (.lst vs) := h5
      have this' : H0' a = some o := this
      rw [h5'] at this'
      cases this'
      exact e
end
end M
end
section
set_option Elab.async false
set_option linter.all false
set_option maxRecDepth 100000
namespace M
open PySem PySem.Spec PyProof.Rows L2
def Frz (ρ ρ' : Ev) : Prop := ρ'.length = ρ.length ∧ ∀ i : Nat, ρ'[i]? = ρ[i]? ∨ ∃ l : List D, ρ[i]? = some (some (.ow l)) ∧ ρ'[i]? = some (some (.pu (.lst l)))
theorem Frz.refl (ρ : Ev) : Frz ρ ρ := ⟨rfl, fun _ => .inl rfl⟩
theorem Frz.trans {a b c : Ev} (h : Frz a b) (g : Frz b c) : Frz a c := by
  refine ⟨g.1.trans h.1, fun i => ?_⟩
  rcases g.2 i with e | ⟨l, e1, e2⟩
  · rcases h.2 i with e' | ⟨l, e1, e2⟩
    · exact .inl (e.trans e')
    · exact .inr ⟨l, e1, e.trans e2⟩
  · rcases h.2 i with e' | ⟨l', e3, e4⟩
    · exact .inr ⟨l, e' ▸ e1, e2⟩
    · rw [e4] at e1; cases e1
theorem Frz.own {ρ ρ' : Ev} {σ : L2.St} (f : Frz ρ ρ') {a : Addr} (h : Own ρ' σ a) : Own ρ σ a := by
  obtain ⟨i, l, h1, h2⟩ := h
  rcases f.2 i with e | ⟨l', _, e2⟩
  · exact ⟨i, l, e ▸ h1, h2⟩
  · rw [e2] at h1; cases h1
theorem Frz.set {ρ : Ev} {i : Nat} {l : List D} (h : ρ[i]? = some (some (.ow l))) : Frz ρ (ρ.set i (some (.pu (.lst l)))) := by
  refine ⟨List.length_set, fun j => ?_⟩
  by_cases e : i = j
  · subst e
    exact .inr ⟨l, h, get_set_eq (List.getElem?_eq_some_iff.mp h).1⟩
  · exact .inl (get_set_ne e)
section
variable {K : PySem.W.Frag} {C : C0} {ρ ρ' : Ev} {σ : L2.St} {H H' : Hp}
theorem Frz.av (f : Frz ρ ρ') {a : Addr} (h : Av C ρ' σ a) : Av C ρ σ a := h.imp id f.own
theorem EOk.frz (I : EOk K C ρ σ H) (f : Frz ρ ρ') : EOk K C ρ' σ H := by
  have ow' : ∀ {j : Nat} {l : List D}, ρ'[j]? = some (some (.ow l)) → ρ[j]? = some (some (.ow l)) := fun {j l} h => by
    rcases f.2 j with e | ⟨l', _, e2⟩
    · exact e ▸ h
    · rw [e2] at h; cases h
  refine ⟨by rw [f.1]; exact I.len, fun i d h => ?_, fun i l h => ?_, fun i j l l' a h1 h2 => I.inj i j l l' a (ow' h1) (ow' h2), fun i l h => ?_, I.ext, I.a0⟩
  · rcases f.2 i with e | ⟨l, e1, e2⟩
    · obtain ⟨v, h1, h2⟩ := I.pu i d (e ▸ h)
      exact ⟨v, h1, h2.mono (.sub (.refl _) fun a => f.av)⟩
    · rw [e2] at h; cases h
      obtain ⟨a, vs, h1, h2, h3, h4⟩ := I.ow i l e1
      refine ⟨.ref a, h1, ?_⟩
      simp only [Rep]
      refine ⟨a, vs, rfl, ?_, h2, h4.mono (.sub (.refl _) fun a => f.av)⟩
      rintro (z | ⟨j, l', g1, g2⟩)
      · exact I.a0 a z h3
      · have := I.inj i j l l' a e1 (ow' g1) h1 g2
        subst this
        rw [e2] at g1; cases g1
  · obtain ⟨a, vs, h1, h2, h3, h4⟩ := I.ow i l (ow' h)
    exact ⟨a, vs, h1, h2, h3, h4.mono (.sub (.refl _) fun a => f.av)⟩
  · have h' : ρ[i]? = some (some (.bo l)) := by
      rcases f.2 i with e | ⟨l', _, e2⟩
      · exact e ▸ h
      · rw [e2] at h; cases h
    obtain ⟨a, vs, h1, h2, h3, h4⟩ := I.bo i l h'
    exact ⟨a, vs, h1, h2, h3, h4.mono (.sub (.refl _) fun a => f.av)⟩
end
abbrev UE := Ev → (B → Ev → Prop) → Prop
abbrev UV := Ev → (D → Ev → Prop) → Prop
abbrev UA := Ev → (List D → Ev → Prop) → Prop
abbrev UT := Ev → (Bool → Ev → Prop) → Prop
def lE (K : PySem.W.Frag) (t : UE) : TE := fun σ H Q => ∃ C ρ Q0, EOk K C ρ σ H ∧ t ρ Q0 ∧
  ∀ b ρ' v H', Q0 b ρ' → Frz ρ ρ' → Same H H' → RepB K (Av C ρ' σ) H H' b v → Q v H'
def lA (K : PySem.W.Frag) (t : UA) : TA := fun σ H Q => ∃ C ρ Q0, EOk K C ρ σ H ∧ t ρ Q0 ∧
  ∀ ds ρ' vs H', Q0 ds ρ' → Frz ρ ρ' → Same H H' → RepL K (Av C ρ' σ) H' ds vs → Q vs H'
def lT (K : PySem.W.Frag) (t : UT) : TT := fun σ H Q => ∃ C ρ Q0, EOk K C ρ σ H ∧ t ρ Q0 ∧
  ∀ b ρ' H', Q0 b ρ' → Frz ρ ρ' → Same H H' → Q b H'
def Rep1 (K : PySem.W.Frag) (A : AS) (H : Hp) : D → V → Prop
  | .tup l, v => ∃ a vs, v = .ref a ∧ SqT K H a vs ∧ RepL K A H l vs
  | .lst l, v => ∃ a vs, v = .ref a ∧ H a = some (.lst vs) ∧ RepL K A H l vs
  | .rol l, v => ∃ a vs, v = .ref a ∧ SqL K H a vs ∧ RepL K A H l vs
  | d, v => Rep K A H d v
def lV (K : PySem.W.Frag) (t : UV) : TE := fun σ H Q => ∃ C ρ Q0, EOk K C ρ σ H ∧ t ρ Q0 ∧
  ∀ d ρ' v H', Q0 d ρ' → Frz ρ ρ' → Same H H' → Rep1 K (Av C ρ' σ) H' d v → Q v H'
def PU (X : Cx) (e : Expr) (t : UE) : Prop := PE X e (lE X.K t)
def PUV (X : Cx) (e : Expr) (t : UV) : Prop := PE X e (lV X.K t)
def PUA (X : Cx) (es : List Expr) (t : UA) : Prop := PA X es (lA X.K t)
def PUT (X : Cx) (e : Expr) (t : UT) : Prop := PT X e (lT X.K t)
def PUW (X : Cx) (e : Expr) (t : UT) : Prop := PW X e (lT X.K t)
section
variable {K : PySem.W.Frag} {A : AS} {H : Hp}
theorem Rep.one : ∀ {d : D} {v : V}, Rep K A H d v → Rep1 K A H d v
  | .non, _, h => h
  | .bl _, _, h => h
  | .int _, _, h => h
  | .str _, _, h => h
  | .ty _, _, h => h
  | .tup l, v, h => by
    simp only [Rep] at h
    obtain ⟨a, vs, e, c, r⟩ := h
    exact ⟨a, vs, e, c.imp And.right id, r⟩
  | .lst l, v, h => by
    simp only [Rep] at h
    obtain ⟨a, vs, e, n, c, r⟩ := h
    exact ⟨a, vs, e, c, r⟩
  | .rol l, v, h => by
    simp only [Rep] at h
    obtain ⟨a, vs, e, c, r⟩ := h
    exact ⟨a, vs, e, c.imp And.right id, r⟩
  | .obj _ _ _, _, h => h
end
theorem PEimp {X : Cx} {e : Expr} {t t' : TE} (h : PE X e t) (i : ∀ σ H Q, t' σ H Q → t σ H Q) : PE X e t' := fun pins s σ H Q I q => h pins s σ H Q I (i σ H Q q)
theorem PAimp {X : Cx} {es : List Expr} {t t' : TA} (h : PA X es t) (i : ∀ σ H Q, t' σ H Q → t σ H Q) : PA X es t' := fun pos pins s σ H Q I q => h pos pins s σ H Q I (i σ H Q q)
theorem PTimp {X : Cx} {e : Expr} {t t' : TT} (h : PT X e t) (i : ∀ σ H Q, t' σ H Q → t σ H Q) : PT X e t' := fun pins s σ H Q I q => h pins s σ H Q I (i σ H Q q)
theorem PWimp {X : Cx} {e : Expr} {t t' : TT} (h : PW X e t) (i : ∀ σ H Q, t' σ H Q → t σ H Q) : PW X e t' := fun w pins s σ H Q I q => h w pins s σ H Q I (i σ H Q q)
section
variable {X : Cx} {a b c e o : Expr} {es rest : List Expr} {pos : Pos} {ta tb tc : UE}
def uC (d : D) : UE := fun ρ Q => Q (.pu d) ρ
theorem pu_int {i j pos} : PU X (.Constant (.int i) j pos) (uC (.int i)) := PEimp pe_int fun σ H Q ⟨C, ρ, Q0, I, h, k⟩ => k _ ρ _ H h (.refl _) (.refl _) (show Rep _ _ _ _ _ by simp only [Rep])
theorem pu_bl {b j pos} : PU X (.Constant (.bool b) j pos) (uC (.bl b)) := PEimp pe_bl fun σ H Q ⟨C, ρ, Q0, I, h, k⟩ => k _ ρ _ H h (.refl _) (.refl _) (show Rep _ _ _ _ _ by simp only [Rep])
def slotE (ρ : Ev) (i : Nat) (Q : B → Ev → Prop) : Prop := match ρ[i]? with
  | some (some (.pu d)) => Q (.pu d) ρ
  | some (some (.ow l)) => Q (.pu (.lst l)) (ρ.set i (some (.pu (.lst l))))
  | _ => False
def uVar (i : Nat) : UE := fun ρ Q => slotE ρ i Q
theorem pu_var (i : Nat) {x : Str} {pos : Pos} (h : PE X (.Name x pos) (tVar i)) : PU X (.Name x pos) (uVar i) := PEimp h fun σ H Q ⟨C, ρ, Q0, I, h, k⟩ => by
  unfold uVar slotE at h
  split at h
  · rename_i d e
    obtain ⟨v, h1, h2⟩ := I.pu i d e
    exact ⟨v, h1, k _ ρ v H h (.refl _) (.refl _) h2⟩
  · rename_i l e
    obtain ⟨_, _, v, h1, h2⟩ := I.freeze e
    exact ⟨v, h1, k _ _ v H h (.set e) (.refl _) h2⟩
  · exact h.elim
def slotV (ρ : Ev) (i : Nat) (Q : D → Ev → Prop) : Prop := match ρ[i]? with
  | some (some (.pu d)) => Q d ρ
  | some (some (.ow l)) => Q (.lst l) ρ
  | some (some (.bo l)) => Q (.lst l) ρ
  | _ => False
def uVarV (i : Nat) : UV := fun ρ Q => slotV ρ i Q
theorem pv_var (i : Nat) {x : Str} {pos : Pos} (h : PE X (.Name x pos) (tVar i)) : PUV X (.Name x pos) (uVarV i) := PEimp h fun σ H Q ⟨C, ρ, Q0, I, h, k⟩ => by
  unfold uVarV slotV at h
  split at h
  · rename_i d e
    obtain ⟨v, h1, h2⟩ := I.pu i d e
    exact ⟨v, h1, k _ ρ v H h (.refl _) (.refl _) h2.one⟩
  · rename_i l e
    obtain ⟨a, vs, h1, h2, h3, h4⟩ := I.ow i l e
    exact ⟨_, h1, k _ ρ _ H h (.refl _) (.refl _) ⟨a, vs, rfl, h2, h4⟩⟩
  · rename_i l e
    obtain ⟨a, vs, h1, h2, h3, h4⟩ := I.bo i l e
    exact ⟨_, h1, k _ ρ _ H h (.refl _) (.refl _) ⟨a, vs, rfl, I.ext _ _ h3, h4⟩⟩
  · exact h.elim
def uV (t : UE) : UV := fun ρ Q => t ρ fun b ρ1 => Q b.d ρ1
theorem EOk.avF {K : PySem.W.Frag} {C : C0} {ρ ρ' : Ev} {σ : L2.St} {H : Hp} (I : EOk K C ρ σ H) (f : Frz ρ ρ') {a : Addr} (h : Av C ρ' σ a) : H a ≠ none := I.avSome (f.av h)
theorem pv_of (h : PU X e ta) : PUV X e (uV ta) := PEimp h fun σ H Q ⟨C, ρ, Q0, I, h, k⟩ =>
  ⟨C, ρ, _, I, h, fun b ρ' v H' q f s r => k b.d ρ' v H' q f s (r.rep fun a z => I.avF f z).one⟩
theorem pu_glob {x : Str} {v : V} {d : D} {pos : Pos} (h : PE X (.Name x pos) (tC v)) (r : ∀ A H, Rep X.K A H d v) : PU X (.Name x pos) (uC d) := PEimp h fun σ H Q ⟨C, ρ, Q0, I, h, k⟩ => k _ ρ _ H h (.refl _) (.refl _) (r _ _)
def OpU (X : Cx) (f : Value → Value → Sem Value) (g : D → D → (B → Prop) → Prop) : Prop :=
  ∀ (A : AS) (H : Hp) (d e : D) (v w : V) (Q0 : B → Prop) (Q : VK), (∀ a, A a → H a ≠ none) → Rep X.K A H d v → Rep X.K A H e w → g d e Q0 →
    (∀ b v' H', Q0 b → Same H H' → RepB X.K A H H' b v' → Q v' H') → ∃ r, OpR X f r ∧ r v w H Q
def uOp (g : D → D → (B → Prop) → Prop) (ta tb : UE) : UE := fun ρ Q => ta ρ fun x ρ1 => tb ρ1 fun y ρ2 => g x.d y.d fun b => Q b ρ2
theorem opAny {f : Value → Value → Sem Value} : OpR X f (fun x y H Q => ∃ r, OpR X f r ∧ r x y H Q) := fun pins s σ H x y v u Q I rx ry ⟨r, hr, q⟩ => hr pins s σ H x y v u Q I rx ry q
theorem RepB.from {K : PySem.W.Frag} {A : AS} {H0 H H' : Hp} (s : Same H0 H) : ∀ {b : B} {v : V}, RepB K A H H' b v → RepB K A H0 H' b v
  | .pu _, _, h => h
  | .ow _, _, ⟨a, vs, e, n, h1, r⟩ => ⟨a, vs, e, s.free n, h1, r⟩
  | .bo _, _, h => h.elim
theorem lOp {f : Value → Value → Sem Value} {g : D → D → (B → Prop) → Prop} (ho : OpU X f g) (σ : L2.St) (H : Hp) (Q : VK) (h : lE X.K (uOp g ta tb) σ H Q) :
    tOp (fun x y H Q => ∃ r, OpR X f r ∧ r x y H Q) (lE X.K ta) (lE X.K tb) σ H Q := by
  obtain ⟨C, ρ, Q0, I, h, k⟩ := h
  refine ⟨C, ρ, _, I, h, fun x ρ1 v H1 q1 f1 s1 r1 => ?_⟩
  have I1 := (I.frz f1).same s1
  refine ⟨C, ρ1, _, I1, q1, fun y ρ2 w H2 q2 f2 s2 r2 => ?_⟩
  have I2 := (I1.frz f2).same s2
  have hA : ∀ a, Av C ρ2 σ a → H2 a ≠ none := fun a z => I2.avSome z
  refine ho (Av C ρ2 σ) H2 x.d y.d v w _ Q hA ((r1.rep fun a z => I.avF f1 z).mono (.sub s2 fun a => f2.av)) (r2.rep fun a z => I1.avF f2 z) q2 fun b v' H' q s r => ?_
  exact k b ρ2 v' H' q (f1.trans f2) (s1.trans (s2.trans s)) (r.from (s1.trans s2))
theorem pu_op {op : Operator} {g : D → D → (B → Prop) → Prop} (ho : OpU X (binaryOp op) g) (ha : PU X a ta) (hb : PU X b tb) : PU X (.BinOp a op b pos) (uOp g ta tb) :=
  PEimp (pe_op opAny ha hb) (lOp ho)
theorem pu_cmp {op : CmpOp} {g : D → D → (B → Prop) → Prop} (ho : OpU X (compareOp op) g) (ha : PU X a ta) (hb : PU X b tb) (hm : behindInMarks op b = false) : PU X (.Compare a [op] [b] pos) (uOp g ta tb) :=
  PEimp (pe_cmpR opAny ha hb hm) (lOp ho)
def isB (Q : Bool → Ev → Prop) : B → Ev → Prop := fun b ρ => match b with
  | .pu (.bl k) => Q k ρ
  | _ => False
def uTst (t : UE) : UT := fun ρ Q => t ρ (isB Q)
theorem lTst {t : UE} (σ : L2.St) (H : Hp) (Q : Bool → Hp → Prop) (h : lT X.K (uTst t) σ H Q) : lE X.K t σ H fun x H' => ∃ k, x = .bl k ∧ Q k H' := by
  obtain ⟨C, ρ, Q0, I, h, k⟩ := h
  refine ⟨C, ρ, _, I, h, fun b ρ' v H' q f s r => ?_⟩
  unfold isB at q
  split at q
  · rename_i k'
    refine ⟨k', ?_, k k' ρ' H' q f s⟩
    have r' : Rep X.K (Av C ρ' σ) H' (.bl k') v := r
    simpa only [Rep] using r'
  · exact q.elim
theorem pt_of (h : PU X e ta) (he : ∀ whole, isTrue e X.env whole = (do let v ← whole; standAt e.pos; holding [v] (truthy v)) := by intro _; rfl) : PUT X e (uTst ta) :=
  PTimp (pt_val h he) lTst
theorem pt_cmpU {op : CmpOp} {g : D → D → (B → Prop) → Prop} (ho : OpU X (compareOp op) g) (ha : PU X a ta) (hb : PU X b tb) (hm : behindInMarks op b = false) : PUT X (.Compare a [op] [b] pos) (uTst (uOp g ta tb)) :=
  PTimp (pt_cmpR opAny ha hb hm) fun σ H Q h => lOp ho σ H _ (lTst σ H Q h)
def uAnd (t u : UT) : UT := fun ρ Q => t ρ fun c ρ1 => if c = true then u ρ1 Q else Q false ρ1
def uOr (t u : UT) : UT := fun ρ Q => t ρ fun c ρ1 => if c = true then Q true ρ1 else u ρ1 Q
def uNot (t : UT) : UT := fun ρ Q => t ρ fun c ρ1 => Q (!c) ρ1
variable {tA tB : UT}
theorem pw_and1U (ha : PUT X a tA) : PUW X (.BoolOp .And [a] pos) tA := pw_and1 ha
theorem pw_or1U (ha : PUT X a tA) : PUW X (.BoolOp .Or [a] pos) tA := pw_or1 ha
theorem pw_andU (ha : PUT X a tA) (hb : PUW X (.BoolOp .And (b :: rest) pos) tB) : PUW X (.BoolOp .And (a :: b :: rest) pos) (uAnd tA tB) :=
  PWimp (pw_and ha hb) fun σ H Q ⟨C, ρ, Q0, I, h, k⟩ => ⟨C, ρ, _, I, h, fun c ρ1 H1 q f s => by
    cases c with
    | true =>
      rw [if_pos rfl] at q ⊢
      exact ⟨C, ρ1, Q0, (I.frz f).same s, q, fun b ρ2 H2 q2 f2 s2 => k b ρ2 H2 q2 (f.trans f2) (s.trans s2)⟩
    | false =>
      rw [if_neg Bool.false_ne_true] at q ⊢
      exact k _ _ _ q f s⟩
theorem pw_orU (ha : PUT X a tA) (hb : PUW X (.BoolOp .Or (b :: rest) pos) tB) : PUW X (.BoolOp .Or (a :: b :: rest) pos) (uOr tA tB) :=
  PWimp (pw_or ha hb) fun σ H Q ⟨C, ρ, Q0, I, h, k⟩ => ⟨C, ρ, _, I, h, fun c ρ1 H1 q f s => by
    cases c with
    | true =>
      rw [if_pos rfl] at q ⊢
      exact k _ _ _ q f s
    | false =>
      rw [if_neg Bool.false_ne_true] at q ⊢
      exact ⟨C, ρ1, Q0, (I.frz f).same s, q, fun b ρ2 H2 q2 f2 s2 => k b ρ2 H2 q2 (f.trans f2) (s.trans s2)⟩⟩
theorem PUW.pt (h : PUW X e tA) : PUT X e tA := PW.pt h
theorem pt_notU (ha : PUT X a tA) : PUT X (.UnaryOp .Not a pos) (uNot tA) :=
  PTimp (pt_not ha) fun σ H Q ⟨C, ρ, Q0, I, h, k⟩ => ⟨C, ρ, _, I, h, fun c ρ1 H1 q f s => k _ ρ1 H1 q f s⟩
def uAndV (t u : UE) : UE := fun ρ Q => t ρ fun x ρ1 => isB (fun c ρ1 => if c = true then u ρ1 Q else Q (.pu (.bl false)) ρ1) x ρ1
def uOrV (t u : UE) : UE := fun ρ Q => t ρ fun x ρ1 => isB (fun c ρ1 => if c = true then Q (.pu (.bl true)) ρ1 else u ρ1 Q) x ρ1
def uNotV (t : UE) : UE := fun ρ Q => t ρ fun x ρ1 => isB (fun c ρ1 => Q (.pu (.bl (!c))) ρ1) x ρ1
theorem isB_inv {Q : Bool → Ev → Prop} {b : B} {ρ : Ev} {K : PySem.W.Frag} {A : AS} {H H' : Hp} {v : V} (h : isB Q b ρ) (r : RepB K A H H' b v) : ∃ k, v = .bl k ∧ Q k ρ := by
  unfold isB at h
  split at h
  · rename_i k'
    have r' : Rep K A H' (.bl k') v := r
    exact ⟨k', by simpa only [Rep] using r', h⟩
  · exact h.elim
theorem rep_bl {K : PySem.W.Frag} {A : AS} {H H' : Hp} {k : Bool} : RepB K A H H' (.pu (.bl k)) (.bl k) := by
  show Rep K A H' (.bl k) (.bl k)
  simp only [Rep]
theorem pu_one {op} (h : PU X a ta) : PU X (.BoolOp op [a] pos) ta := pe_one h
theorem pu_and (ha : PU X a ta) (hb : PU X (.BoolOp .And (b :: rest) pos) tb) : PU X (.BoolOp .And (a :: b :: rest) pos) (uAndV ta tb) :=
  PEimp (pe_and ha hb) fun σ H Q ⟨C, ρ, Q0, I, h, k⟩ => ⟨C, ρ, _, I, h, fun x ρ1 v H1 q f s r => by
    obtain ⟨c, rfl, q⟩ := isB_inv q r
    refine ⟨c, rfl, ?_⟩
    cases c with
    | true =>
      rw [if_pos rfl] at q ⊢
      exact ⟨C, ρ1, Q0, (I.frz f).same s, q, fun b ρ2 v H2 q2 f2 s2 r2 => k b ρ2 v H2 q2 (f.trans f2) (s.trans s2) (r2.from s)⟩
    | false =>
      rw [if_neg Bool.false_ne_true] at q ⊢
      exact k _ _ _ _ q f s rep_bl⟩
theorem pu_or (ha : PU X a ta) (hb : PU X (.BoolOp .Or (b :: rest) pos) tb) : PU X (.BoolOp .Or (a :: b :: rest) pos) (uOrV ta tb) :=
  PEimp (pe_or ha hb) fun σ H Q ⟨C, ρ, Q0, I, h, k⟩ => ⟨C, ρ, _, I, h, fun x ρ1 v H1 q f s r => by
    obtain ⟨c, rfl, q⟩ := isB_inv q r
    refine ⟨c, rfl, ?_⟩
    cases c with
    | true =>
      rw [if_pos rfl] at q ⊢
      exact k _ _ _ _ q f s rep_bl
    | false =>
      rw [if_neg Bool.false_ne_true] at q ⊢
      exact ⟨C, ρ1, Q0, (I.frz f).same s, q, fun b ρ2 v H2 q2 f2 s2 r2 => k b ρ2 v H2 q2 (f.trans f2) (s.trans s2) (r2.from s)⟩⟩
theorem pu_not (ha : PU X a ta) : PU X (.UnaryOp .Not a pos) (uNotV ta) :=
  PEimp (pe_not ha) fun σ H Q ⟨C, ρ, Q0, I, h, k⟩ => ⟨C, ρ, _, I, h, fun x ρ1 v H1 q f s r => by
    obtain ⟨c, rfl, q⟩ := isB_inv q r
    exact ⟨c, rfl, k _ _ _ _ q f s rep_bl⟩⟩
def uIf (t : UT) (ta tb : UE) : UE := fun ρ Q => t ρ fun c ρ1 => if c = true then ta ρ1 Q else tb ρ1 Q
theorem pu_ifExp (hc : PUT X c tA) (ha : PU X a ta) (hb : PU X b tb) : PU X (.IfExp c a b pos) (uIf tA ta tb) :=
  PEimp (pe_ifExp hc ha hb) fun σ H Q ⟨C, ρ, Q0, I, h, k⟩ => ⟨C, ρ, _, I, h, fun c ρ1 H1 q f s => by
    have I1 := (I.frz f).same s
    cases c with
    | true =>
      dsimp only at q ⊢
      rw [if_pos rfl] at q ⊢
      exact ⟨C, ρ1, Q0, I1, q, fun b ρ2 v H2 q2 f2 s2 r2 => k b ρ2 v H2 q2 (f.trans f2) (s.trans s2) (r2.from s)⟩
    | false =>
      dsimp only at q ⊢
      rw [if_neg Bool.false_ne_true] at q ⊢
      exact ⟨C, ρ1, Q0, I1, q, fun b ρ2 v H2 q2 f2 s2 r2 => k b ρ2 v H2 q2 (f.trans f2) (s.trans s2) (r2.from s)⟩⟩
def uNil : UA := fun ρ Q => Q [] ρ
def uCons (t : UE) (u : UA) : UA := fun ρ Q => t ρ fun x ρ1 => u ρ1 fun xs ρ2 => Q (x.d :: xs) ρ2
theorem pua_nil : PUA X [] uNil := PAimp pa_nil fun σ H Q ⟨C, ρ, Q0, I, h, k⟩ => k [] ρ [] H h (.refl _) (.refl _) .nil
theorem pua_cons {t : UA} (ha : PU X e ta) (hr : PUA X es t) (hs : starEach (e :: es) X.env = (false, eval e X.env) :: starEach es X.env := by rfl) : PUA X (e :: es) (uCons ta t) :=
  PAimp (pa_cons ha hr hs) fun σ H Q ⟨C, ρ, Q0, I, h, k⟩ => ⟨C, ρ, _, I, h, fun x ρ1 v H1 q1 f1 s1 r1 => by
    have I1 := (I.frz f1).same s1
    refine ⟨C, ρ1, _, I1, q1, fun xs ρ2 vs H2 q2 f2 s2 r2 => ?_⟩
    exact k _ ρ2 _ H2 q2 (f1.trans f2) (s1.trans s2) (.cons ((r1.rep fun a z => I.avF f1 z).mono (.sub s2 fun a => f2.av)) r2)⟩
def uTup (t : UA) : UE := fun ρ Q => t ρ fun l ρ1 => l.length ≤ sizeLine ∧ Q (.pu (.tup l)) ρ1
def uLst (t : UA) : UE := fun ρ Q => t ρ fun l ρ1 => l.length ≤ sizeLine ∧ Q (.ow l) ρ1
theorem same_new {H : Hp} {p : Addr} (h : H p = none) (o : HO) : Same H (upd H p o) := fun b u q => by rw [upd_ne (ne_of_none q h)]; exact q
theorem rep_new_tup {K : PySem.W.Frag} {A : AS} {H : Hp} {p : Addr} {l : List D} {vs : List V} (hA : ∀ a, A a → H a ≠ none) (n : H p = none) (r : RepL K A H l vs) : Rep K A (upd H p (.tup vs)) (.tup l) (.ref p) := by
  simp only [Rep]
  exact ⟨p, vs, rfl, .inl ⟨fun z => hA p z n, .inl upd_same⟩, r.mono (.same (same_new n _))⟩
theorem rep_new_lst {K : PySem.W.Frag} {A : AS} {H H0 : Hp} {p : Addr} {l : List D} {vs : List V} (s : Same H0 H) (n : H p = none) (r : RepL K A H l vs) : RepB K A H0 (upd H p (.lst vs)) (.ow l) (.ref p) :=
  ⟨p, vs, rfl, s.free n, upd_same, r.mono (.fresh (same_new n _) n)⟩
theorem pu_tup {t : UA} {x1} (h : PUA X es t) : PU X (.Tuple es x1 pos) (uTup t) :=
  PEimp (pe_tup h) fun σ H Q ⟨C, ρ, Q0, I, h, k⟩ => ⟨C, ρ, _, I, h, fun l ρ1 vs H1 q f s r => by
    obtain ⟨hz, q⟩ := q
    refine ⟨by rw [← r.length]; exact hz, fun p n => ?_⟩
    have I1 := (I.frz f).same s
    exact k _ ρ1 _ _ q f (s.trans (same_new n _)) (rep_new_tup (fun a z => I1.avSome z) n r)⟩
theorem pu_lst {t : UA} (h : PUA X es t) : PU X (.List es pos) (uLst t) :=
  PEimp (pe_lst h) fun σ H Q ⟨C, ρ, Q0, I, h, k⟩ => ⟨C, ρ, _, I, h, fun l ρ1 vs H1 q f s r => by
    obtain ⟨hz, q⟩ := q
    refine ⟨by rw [← r.length]; exact hz, fun p n => ?_⟩
    exact k _ ρ1 _ _ q f (s.trans (same_new n _)) (rep_new_lst s n r)⟩
abbrev Φ := List D → (B → Prop) → Prop
def spP (K : PySem.W.Frag) (φ : Φ) : Sp := fun vs H Q _ => ∃ A ds Q0, (∀ a, A a → H a ≠ none) ∧ RepL K A H ds vs ∧ φ ds Q0 ∧ ∀ b v H', Q0 b → Same H H' → RepB K A H H' b v → Q v H'
def uCall (φ : Φ) (t : UA) : UE := fun ρ Q => t ρ fun ds ρ1 => φ ds fun b => Q b ρ1
theorem lCall {φ : Φ} {t : UA} {E : XK} (σ : L2.St) (H : Hp) (Q : VK) (h : lE X.K (uCall φ t) σ H Q) : tCall (spP X.K φ) [] E (lA X.K t) σ H Q := by
  obtain ⟨C, ρ, Q0, I, h, k⟩ := h
  refine ⟨C, ρ, _, I, h, fun ds ρ1 vs H1 q f s r => ?_⟩
  have I1 := (I.frz f).same s
  show spP X.K φ (vs ++ []) H1 Q E
  rw [List.append_nil]
  exact ⟨Av C ρ1 σ, ds, _, fun a z => I1.avSome z, r, q, fun b v H' q' s' r' => k b ρ1 v H' q' f (s.trans s') (r'.from s)⟩
theorem pu_call {CX : CXT} {k : Nat} {f : Addr} {fd : FuncData} {ps : List Str} {φ : Φ} {E : XK} {x : Str} {p : Pos} {t : UA} (F : FnOk X.prog X.w X.K X.mg X.base CX k f fd ps (spP X.K φ)) (hr : Room k X.A) (hg : Gl X x) (hm : X.mg x = some (.ref f))
    (hk : PySem.W.keepIn X.K (.ref f) = true) (hb : Binds X.K fd ps []) (hx : Passes CX X E) (ha : PUA X (e :: es) t) (hdb : (x == ("__debug__" : Str)) = false := by decide) (he : starEach (e :: es) X.env = (false, eval e X.env) :: starEach es X.env := by rfl)
    (hpl : (backTo pos (starEach es X.env)).any (·.1) = false := by rfl) : PU X (.Call (.Name x p) (e :: es) [] pos) (uCall φ t) :=
  PEimp (pe_call F hr hg hm hk hb .nil hx ha hdb he hpl) lCall
theorem pu_call0 {CX : CXT} {k : Nat} {f : Addr} {fd : FuncData} {ps : List Str} {φ : Φ} {E : XK} {x : Str} {p : Pos} (F : FnOk X.prog X.w X.K X.mg X.base CX k f fd ps (spP X.K φ)) (hr : Room k X.A) (hg : Gl X x) (hm : X.mg x = some (.ref f))
    (hk : PySem.W.keepIn X.K (.ref f) = true) (hb : Binds X.K fd ps []) (hx : Passes CX X E) (hdb : (x == ("__debug__" : Str)) = false := by decide) : PU X (.Call (.Name x p) [] [] pos) (uCall φ uNil) :=
  PEimp (pe_call0 F hr hg hm hk hb .nil hx hdb) fun σ H Q ⟨C, ρ, Q0, I, h, k⟩ => ⟨Av C ρ σ, [], _, fun a z => I.avSome z, .nil, h, fun b v H' q' s' r' => k b ρ v H' q' (.refl _) s' r'⟩
def CallU (X : Cx) (f : Value) (g : List D → (B → Prop) → Prop) : Prop :=
  ∀ (A : AS) (H : Hp) (ds : List D) (vs : List V) (Q0 : B → Prop) (Q : VK), (∀ a, A a → H a ≠ none) → RepL X.K A H ds vs → g ds Q0 →
    (∀ b v' H', Q0 b → Same H H' → RepB X.K A H H' b v' → Q v' H') → ∃ r, CallR X f r ∧ r vs H Q
theorem callAny {f : Value} : CallR X f (fun xs H Q => ∃ r, CallR X f r ∧ r xs H Q) := fun pins s σ H xs us Q I rx ⟨r, hr, q⟩ => hr pins s σ H xs us Q I rx q
theorem lCB {f : Value} {g : List D → (B → Prop) → Prop} {t : UA} (hc : CallU X f g) (σ : L2.St) (H : Hp) (Q : VK) (h : lE X.K (uCall g t) σ H Q) : tCB (fun xs H Q => ∃ r, CallR X f r ∧ r xs H Q) (lA X.K t) σ H Q := by
  obtain ⟨C, ρ, Q0, I, h, k⟩ := h
  refine ⟨C, ρ, _, I, h, fun ds ρ1 vs H1 q f s r => ?_⟩
  have I1 := (I.frz f).same s
  exact hc (Av C ρ1 σ) H1 ds vs _ Q (fun a z => I1.avSome z) r q fun b v H' q' s' r' => k b ρ1 v H' q' f (s.trans s') (r'.from s)
theorem pu_callB {id : String} {g : List D → (B → Prop) → Prop} {x : Str} {p : Pos} {t : UA} (hc : CallU X (.builtin id) g) (hg : Gl X x) (hm : X.mg x = none) (hv : bootBuiltins x = some (.builtin id)) (ha : PUA X (e :: es) t) (hn : x ≠ "__name__" := by decide) (hdb : (x == ("__debug__" : Str)) = false := by decide)
    (he : starEach (e :: es) X.env = (false, eval e X.env) :: starEach es X.env := by rfl) (hpl : (backTo pos (starEach es X.env)).any (·.1) = false := by rfl) : PU X (.Call (.Name x p) (e :: es) [] pos) (uCall g t) :=
  PEimp (pe_callB callAny hg hm hv ha hn hdb he hpl) (lCB hc)
theorem pu_callTy {T : String} {g : List D → (B → Prop) → Prop} {x : Str} {p : Pos} {t : UA} (hc : CallU X (.type T) g) (hg : Gl X x) (hm : X.mg x = none) (hv : bootBuiltins x = some (.type T)) (ha : PUA X (e :: es) t) (hn : x ≠ "__name__" := by decide) (hdb : (x == ("__debug__" : Str)) = false := by decide)
    (he : starEach (e :: es) X.env = (false, eval e X.env) :: starEach es X.env := by rfl) (hpl : (backTo pos (starEach es X.env)).any (·.1) = false := by rfl) : PU X (.Call (.Name x p) (e :: es) [] pos) (uCall g t) :=
  PEimp (pe_callTy callAny hg hm hv ha hn hdb he hpl) (lCB hc)
end
end M
end
section
set_option Elab.async false
set_option linter.all false
set_option maxRecDepth 100000
namespace M
open PySem PySem.Spec PyProof.Rows L2
structure UD where
  nx : Ev → Prop
  rt : B → Prop
  bk : Ev → Prop := fun _ => False
  ct : Ev → Prop := fun _ => False
abbrev US := UD → Ev → Prop
structure DOk (K : PySem.W.Frag) (C : C0) (D0 : UD) (D : Ends) : Prop where
  nx : ∀ ρ σ H, D0.nx ρ → EOk K C ρ σ H → D.nx σ H
  rt : ∀ b v H, D0.rt b → Same C.H0 H → RepB K C.A0 C.H0 H b v → D.rt v H
  bk : ∀ ρ σ H, D0.bk ρ → EOk K C ρ σ H → D.bk σ H
  ct : ∀ ρ σ H, D0.ct ρ → EOk K C ρ σ H → D.ct σ H
def lS (K : PySem.W.Frag) (t : US) : TS := fun D σ H => ∃ C ρ D0, EOk K C ρ σ H ∧ t D0 ρ ∧ DOk K C D0 D
def PUS (X : Cx) (st : Stmt) (t : US) : Prop := PS X st (lS X.K t)
def PUSs (X : Cx) (sts : List Stmt) (t : US) : Prop := PSs X sts (lS X.K t)
theorem PSimp {X : Cx} {st : Stmt} {t t' : TS} (h : PS X st t) (i : ∀ D σ H, t' D σ H → t D σ H) : PS X st t' := fun pins s σ H D I q => h pins s σ H D I (i D σ H q)
theorem PSsimp {X : Cx} {st : List Stmt} {t t' : TS} (h : PSs X st t) (i : ∀ D σ H, t' D σ H → t D σ H) : PSs X st t' := fun pins s σ H D I q => h pins s σ H D I (i D σ H q)
section
variable {X : Cx} {st : Stmt} {sts : List Stmt} {e : Expr} {pos : Pos} {t u : US} {te : UE} {tc : UT} {K : PySem.W.Frag}
def uNext : US := fun D ρ => D.nx ρ
def uSeq (t u : US) : US := fun D ρ => t { D with nx := u D } ρ
theorem us_nil : PUSs X [] uNext := PSsimp pss_nil fun D σ H ⟨C, ρ, D0, I, h, k⟩ => k.nx ρ σ H h I
theorem us_cons (h1 : PUS X st t) (h2 : PUSs X sts u) : PUSs X (st :: sts) (uSeq t u) :=
  PSsimp (pss_cons h1 h2) fun D σ H ⟨C, ρ, D0, I, h, k⟩ => ⟨C, ρ, { D0 with nx := u D0 }, I, h, ⟨fun ρ' σ' H' q I' => ⟨C, ρ', D0, I', q, k⟩, k.rt, k.bk, k.ct⟩⟩
theorem us_one (h1 : PUS X st t) : PUSs X [st] t := pss_one h1
def uRet (t : UE) : US := fun D ρ => t ρ fun b _ => D.rt b
theorem RepB.back {A A' : AS} {H0 H H' : Hp} (s : Same H0 H) (h : ∀ a, A' a → A a) : ∀ {b : B} {v : V}, RepB K A H H' b v → RepB K A' H0 H' b v
  | .pu _, _, r => Rep.mono (.sub (.refl _) h) r
  | .ow _, _, ⟨a, vs, e, n, h1, r⟩ => ⟨a, vs, e, s.free n, h1, r.mono (fun b o nb q => ⟨fun z => nb (z.imp (h b) id), q⟩)⟩
  | .bo _, _, r => r.elim
theorem us_ret (he : PU X e te) : PUS X (.Return (some e) pos) (uRet te) :=
  PSimp (ps_ret he) fun D σ H ⟨C, ρ, D0, I, h, k⟩ => ⟨C, ρ, _, I, h, fun b ρ' v H' q f s r => k.rt b v H' q (I.ext.trans s) (r.back I.ext fun a z => .inl z)⟩
def uRetN : US := fun D _ => D.rt (.pu .non)
def uRetV (i : Nat) : US := fun D ρ => match ρ[i]? with
  | some (some (.pu d)) => D.rt (.pu d)
  | some (some (.ow l)) => D.rt (.ow l)
  | _ => False
theorem us_retV (i : Nat) {x : Str} {p : Pos} (h : PE X (.Name x p) (tVar i)) : PUS X (.Return (some (.Name x p)) pos) (uRetV i) :=
  PSimp (ps_ret h) fun D σ H ⟨C, ρ, D0, I, h, k⟩ => by
    unfold uRetV at h
    split at h
    · rename_i d e
      obtain ⟨v, h1, h2⟩ := I.pu i d e
      exact ⟨v, h1, k.rt _ v H h I.ext (Rep.mono (.sub (.refl _) fun a z => .inl z) h2)⟩
    · rename_i l e
      obtain ⟨a, vs, h1, h2, h3, h4⟩ := I.ow i l e
      refine ⟨_, h1, k.rt _ _ H h I.ext ⟨a, vs, rfl, h3, h2, h4.mono (fun b o nb q => ⟨fun z => nb (z.elim .inl fun z => .inr ?_), q⟩)⟩⟩
      subst z
      exact ⟨i, l, e, h1⟩
    · exact h.elim
def uIfS (c : UT) (t u : US) : US := fun D ρ => c ρ fun b ρ1 => if b = true then t D ρ1 else u D ρ1
theorem us_if {c : Expr} {a b : List Stmt} (hc : PUT X c tc) (ha : PUSs X a t) (hb : PUSs X b u) : PUS X (.If c a b pos) (uIfS tc t u) :=
  PSimp (ps_if hc ha hb) fun D σ H ⟨C, ρ, D0, I, h, k⟩ => ⟨C, ρ, _, I, h, fun c ρ1 H1 q f s => by
    have I1 := (I.frz f).same s
    cases c with
    | true =>
      dsimp only at q ⊢
      rw [if_pos rfl] at q ⊢
      exact ⟨C, ρ1, D0, I1, q, k⟩
    | false =>
      dsimp only at q ⊢
      rw [if_neg Bool.false_ne_true] at q ⊢
      exact ⟨C, ρ1, D0, I1, q, k⟩⟩
theorem us_never : PUS X st (fun _ _ => False) := PSimp ps_never fun D σ H ⟨C, ρ, D0, I, h, k⟩ => h
abbrev UG := B → Ev → (Ev → Prop) → Prop
def lG (K : PySem.W.Frag) (T : List Nat) (g : UG) : TG := fun v σ H Q => ∃ C ρ b H00 Q0, EOk K C ρ σ H00 ∧ Same H00 H ∧ RepB K (Av C ρ σ) H00 H b v ∧ g b ρ Q0 ∧ ∀ ρ' σ' H', Q0 ρ' → EOk K C ρ' σ' H' → (∀ j : Nat, j ∉ T → σ'[j]? = σ[j]?) → Q σ' H'
def PUG (X : Cx) (e : Expr) (T : List Nat) (g : UG) : Prop := PG X e (lG X.K T g)
theorem PGimp {t t' : TG} (h : PG X e t) (i : ∀ v σ H Q, t' v σ H Q → t v σ H Q) : PG X e t' := fun pins s σ H v u Q I r q => h pins s σ H v u Q I r (i v σ H Q q)
def uName (i : Nat) : UG := fun b ρ Q => i < ρ.length ∧ Q (ρ.set i (some b))
theorem ug_name (i : Nat) (h : PG X e (gName i)) : PUG X e [i] (uName i) := PGimp h fun v σ H Q ⟨C, ρ, b, H00, Q0, I, s, r, ⟨hi, q⟩, k⟩ =>
  k _ _ _ q (I.store s r (by rw [← I.len]; exact hi)) fun j hj => get_set_ne fun z => hj (by simp [z])
abbrev UGs := List D → Ev → (Ev → Prop) → Prop
def lGs (K : PySem.W.Frag) (T : List Nat) (g : UGs) : TGs := fun vs σ H Q => ∃ C ρ ds Q0, EOk K C ρ σ H ∧ RepL K (Av C ρ σ) H ds vs ∧ g ds ρ Q0 ∧ ∀ ρ' σ' H', Q0 ρ' → EOk K C ρ' σ' H' → (∀ j : Nat, j ∉ T → σ'[j]? = σ[j]?) → Q σ' H'
def PUGs (X : Cx) (es : List Expr) (T : List Nat) (g : UGs) : Prop := PGs X es (lGs X.K T g)
def uGNil : UGs := fun ds ρ Q => ds = [] ∧ Q ρ
theorem Av.store_pu {C : C0} {ρ : Ev} {σ : L2.St} {i : Nat} {d : D} {v : V} {a : Addr} (h : Av C (ρ.set i (some (.pu d))) (σ.set i (some v)) a) : Av C ρ σ a := by
  rcases h with z | ⟨j, l, h1, h2⟩
  · exact .inl z
  · rcases get_set_cases h1 with ⟨rfl, h3, _⟩ | ⟨ne, h3⟩
    · cases h3
    · rw [get_set_ne ne] at h2
      exact .inr ⟨j, l, h3, h2⟩
theorem PGsimp {es : List Expr} {t t' : TGs} (h : PGs X es t) (i : ∀ v σ H Q, t' v σ H Q → t v σ H Q) : PGs X es t' := fun pins s σ H v u Q I r q => h pins s σ H v u Q I r (i v σ H Q q)
theorem ugs_nil : PUGs X [] [] uGNil := PGsimp pgs_nil fun vs σ H Q ⟨C, ρ, ds, Q0, I, r, ⟨e, q⟩, k⟩ => by
  subst e
  exact ⟨r.unnil, k ρ σ H q I fun _ _ => rfl⟩
def uGCons (i : Nat) (u : UGs) : UGs := fun ds ρ Q => match ds with
  | d :: r => i < ρ.length ∧ u r (ρ.set i (some (.pu d))) Q
  | [] => False
theorem ugs_cons {es : List Expr} {u : UGs} {T : List Nat} (i : Nat) (h1 : PG X e (gName i)) (h2 : PUGs X es T u)
    (hs : (assignEach (e :: es) X.env).map (·.2) = assign e X.env :: (assignEach es X.env).map (·.2) := by rfl) : PUGs X (e :: es) (i :: T) (uGCons i u) :=
  PGsimp (pgs_cons h1 h2 hs) fun vs σ H Q ⟨C, ρ, ds, Q0, I, r, g, k⟩ => by
    cases ds with
    | nil => exact (show False from g).elim
    | cons d dr =>
      obtain ⟨hi, g⟩ : i < ρ.length ∧ u dr (ρ.set i (some (.pu d))) Q0 := g
      obtain ⟨v, vr, rfl, rv, rr⟩ := r.uncons
      have I1 : EOk X.K C (ρ.set i (some (.pu d))) (σ.set i (some v)) H := I.store (b := .pu d) (.refl _) rv (by rw [← I.len]; exact hi)
      exact ⟨v, vr, rfl, C, _, dr, Q0, I1, rr.mono (.sub (.refl _) fun a z => Av.store_pu z), g, fun ρ' σ' H' q I' hT => k ρ' σ' H' q I' fun j hj => (hT j fun z => hj (List.mem_cons_of_mem _ z)).trans (get_set_ne fun z => hj (by simp [z]))⟩
def uTupG (u : UGs) : UG := fun b ρ Q => match b.d with
  | .tup ds => u ds ρ Q
  | _ => False
theorem ug_tup {es : List Expr} {u : UGs} {T : List Nat} {n k : Nat} (hc : X.calm = true) (h : PUGs X es T u) (hu : ∀ ds ρ Q, u ds ρ Q → ds.length = n)
    (hn : (assignEach es X.env).length = n := by rfl) (hst : (assignEach es X.env).findIdx? (·.1) = none := by rfl) : PUG X (.Tuple es k pos) T (uTupG u) :=
  PGimp (pg_tup hc h hn hst) fun v σ H Q ⟨C, ρ, b, H00, Q0, I, s, r, g, k⟩ => by
    have R := r.rep fun a z => I.avSome z
    unfold uTupG at g
    split at g
    · rename_i ds e
      rw [e] at R
      simp only [Rep] at R
      obtain ⟨a, vs, rfl, c, rs⟩ := R
      exact ⟨a, vs, rfl, c.imp And.right id, by rw [← rs.length]; exact hu _ _ _ g, C, ρ, ds, Q0, I.same s, rs, g, k⟩
    · exact g.elim
def uAsg (t : UE) (g : UG) : US := fun D ρ => t ρ fun b ρ1 => g b ρ1 D.nx
theorem us_asg {tg : Expr} {g : UG} {T : List Nat} (he : PU X e te) (hg : PUG X tg T g) (hs : swapsWithSole [tg] e pos.line X.env = pure false := by rfl) (hw : swappedStores [tg] e X.env = pure none := by rfl)
    (h1 : (assignEach [tg] X.env).map (·.2) = [assign tg X.env] := by rfl) : PUS X (.Assign [tg] e pos) (uAsg te g) :=
  PSimp (ps_asg he hg hs hw h1) fun D σ H ⟨C, ρ, D0, I, h, k⟩ => ⟨C, ρ, _, I, h, fun b ρ1 v H1 q f s r => ⟨C, ρ1, b, H, D0.nx, I.frz f, s, r, q, fun ρ' σ' H' q I' _ => k.nx ρ' σ' H' q I'⟩⟩
def uSet (i : Nat) (t : UE) : US := fun D ρ => t ρ fun b ρ1 => D.nx (ρ1.set i (some b))
theorem us_set {x : Str} {pos' : Pos} (i : Nat) (hN : X.N.Nodup) (hi : X.N[i]? = some x) (hx : Loc X.env.scope x) (he : PU X e te) (hs : swapsWith e (some (.Name x pos')) pos.line X.env = pure false := by rfl) (hf : X.fn x = true ∨ X.env.scope.names.lookup x = some .local := by first | exact .inl rfl | exact .inr rfl | assumption)
    (hl : ∀ pins σ H s, Inv X pins σ H s → i < σ.length := by intro pins σ H s I; rw [I.len]; decide) : PUS X (.Assign [.Name x pos'] e pos) (uSet i te) := by
  intro pins s σ H D I q
  refine ps_set hN hi hx he hs hf pins s σ H D I ?_
  obtain ⟨C, ρ, D0, J, h, k⟩ := q
  exact ⟨C, ρ, _, J, h, fun b ρ1 v H1 q f s1 r => k.nx _ _ _ q ((J.frz f).store s1 r (hl pins σ H s I))⟩
def uPar (i j : Nat) (ta : UA) : US := fun D ρ => ta ρ fun ds ρ1 => match ds with
  | [d, d'] => D.nx ((ρ1.set i (some (.pu d))).set j (some (.pu d')))
  | _ => False
def IpU (X : Cx) (op : Operator) (g : D → D → (B → Prop) → Prop) : Prop :=
  ∀ (A : AS) (H : Hp) (d e : D) (v w : V) (Q0 : B → Prop) (Q : VK), (∀ a, A a → H a ≠ none) → Rep X.K A H d v → Rep X.K A H e w → g d e Q0 →
    (∀ b v' H', Q0 b → Same H H' → RepB X.K A H H' b v' → Q v' H') → ∃ r, PIp X op r ∧ r v w H Q
theorem ipAny {op : Operator} : PIp X op (fun x y H Q => ∃ r, PIp X op r ∧ r x y H Q) := fun pins s σ H x y v u Q I rx ry ⟨r, hr, q⟩ => hr pins s σ H x y v u Q I rx ry q
def uAug (i : Nat) (g : D → D → (B → Prop) → Prop) (te : UE) : US := fun D ρ => slotE ρ i fun x ρ0 => te ρ0 fun y ρ1 => g x.d y.d fun b => D.nx (ρ1.set i (some b))
theorem us_aug {x : Str} {pos' : Pos} {op : Operator} {g : D → D → (B → Prop) → Prop} (i : Nat) (hN : X.N.Nodup) (hi : X.N[i]? = some x) (hx : Loc X.env.scope x) (he : PU X e te) (ho : IpU X op g) (hf : X.fn x = true ∨ X.env.scope.names.lookup x = some .local := by first | exact .inl rfl | exact .inr rfl | assumption)
    (hl : ∀ pins σ H s, Inv X pins σ H s → i < σ.length := by intro pins σ H s I; rw [I.len]; decide) : PUS X (.AugAssign (.Name x pos') op e pos) (uAug i g te) := by
  intro pins s σ H D I q
  refine ps_aug hN hi hx he ipAny hf pins s σ H D I ?_
  obtain ⟨C, ρ, D0, J, h, k⟩ := q
  have go : ∀ (d : M.D) (ρ0 : Ev) (v : V), Frz ρ ρ0 → σ[i]? = some (some v) → Rep X.K (Av C ρ0 σ) H d v → (te ρ0 fun y ρ1 => g d y.d fun b => D0.nx (ρ1.set i (some b))) →
      tAug i (lE X.K te) (fun x y H Q => ∃ r, PIp X op r ∧ r x y H Q) D σ H := fun d ρ0 v f0 h1 r0 h => by
    have J0 := J.frz f0
    refine ⟨v, h1, C, ρ0, _, J0, h, fun y ρ1 w H1 q1 f1 s1 r1 => ?_⟩
    have J1 := (J0.frz f1).same s1
    refine ho (Av C ρ1 σ) H1 d y.d v w _ _ (fun a z => J1.avSome z) (r0.mono (.sub s1 fun a => f1.av)) (r1.rep fun a z => J0.avF f1 z) q1 fun b v' H' q s r => ?_
    exact k.nx _ _ _ q (J1.store s r (hl pins σ _ _ I))
  unfold uAug slotE at h
  split at h
  · rename_i d e
    obtain ⟨v, h1, h2⟩ := J.pu i d e
    exact go d ρ v (.refl _) h1 h2 h
  · rename_i l e
    obtain ⟨_, _, v, h1, h2⟩ := J.freeze e
    exact go (.lst l) _ v (.set e) h1 h2 h
  · exact h.elim
def uWhile (c : UT) (tb : US) : US := fun D ρ => ∃ W : Nat → Ev → Prop, (∃ m, W m ρ) ∧ ∀ m ρ, W m ρ →
  c ρ fun b ρ1 => if b = true then tb { D with nx := fun ρ' => ∃ m', m' < m ∧ W m' ρ', ct := fun ρ' => ∃ m', m' < m ∧ W m' ρ', bk := D.nx } ρ1 else D.nx ρ1
theorem us_while {c : Expr} {body : List Stmt} {tb : US} (hp : PassesOwn (model X.prog X.w) X.A X.env X.xe) (hc : PUT X c tc) (hb : PUSs X body tb) : PUS X (.While c body [] pos) (uWhile tc tb) :=
  PSimp (ps_while hp hc hb) fun D σ H ⟨C, ρ, D0, I, ⟨W, ⟨m0, w0⟩, turn⟩, k⟩ => by
    refine ⟨fun m σ H => ∃ ρ, EOk X.K C ρ σ H ∧ W m ρ, ⟨m0, ρ, I, w0⟩, ?_⟩
    rintro m σ H ⟨ρ, I, w⟩
    refine ⟨C, ρ, _, I, turn m ρ w, fun b ρ1 H1 q f s => ?_⟩
    have I1 := (I.frz f).same s
    cases b with
    | true =>
      dsimp only at q ⊢
      rw [if_pos rfl] at q ⊢
      refine ⟨fun σ' H' => ∃ m', m' < m ∧ ∃ ρ', EOk X.K C ρ' σ' H' ∧ W m' ρ', fun σ' H' z => z, C, ρ1, _, I1, q, ⟨?_, k.rt, k.nx, ?_⟩⟩
      · rintro ρ' σ' H' ⟨m', hm, w'⟩ I'
        exact ⟨m', hm, ρ', I', w'⟩
      · rintro ρ' σ' H' ⟨m', hm, w'⟩ I'
        exact ⟨m', hm, ρ', I', w'⟩
    | false =>
      dsimp only at q ⊢
      rw [if_neg Bool.false_ne_true] at q ⊢
      exact k.nx _ _ _ q I1
end
end M
end
section
set_option Elab.async false
set_option linter.all false
set_option maxRecDepth 100000
namespace M
open PySem PySem.Spec PyProof.Rows L2
abbrev UI := Ev → (Nat → (Nat → D) → Ev → Prop) → Prop
structure ItOk (K : PySem.W.Frag) (A : AS) (H : Hp) (J : It) (n : Nat) (it : Nat → D) : Prop where
  go : ∀ A' H' i, Pres A H A' H' → i < n → J.go i H'
  yld : ∀ A' H' i x H'', Pres A H A' H' → (∀ a, A' a → H' a ≠ none) → i < n → J.yld i H' x H'' → Same H' H'' ∧ Rep K A' H'' (it i) x
  stop : ∀ A' H', Pres A H A' H' → J.stop n H'
def lI (K : PySem.W.Frag) (t : UI) : TI := fun σ H R => ∃ C ρ Q0, EOk K C ρ σ H ∧ t ρ Q0 ∧
  ∀ n it ρ' J H', Q0 n it ρ' → Frz ρ ρ' → Same H H' → ItOk K (Av C ρ' σ) H' J n it → R J H'
def PUI (X : Cx) (tg iter : Expr) (t : UI) : Prop := PI X tg iter (lI X.K t)
def uFor (ui : UI) (g : UG) (tb : US) : US := fun D ρ => ui ρ fun n it ρ1 => ∃ Pv : Nat → Ev → Prop, Pv 0 ρ1 ∧
  (∀ i ρ, i < n → Pv i ρ → g (.pu (it i)) ρ fun ρ2 => tb { D with nx := Pv (i + 1), ct := Pv (i + 1), bk := D.nx } ρ2) ∧ ∀ ρ, Pv n ρ → D.nx ρ
noncomputable def C0.rz (C : C0) (ρ : Ev) (σ : L2.St) (H : Hp) : C0 := C.raise ρ σ H fun _ => Classical.propDecidable _
section
variable {X : Cx} {e : Expr} {pos : Pos} {te : UE} {K : PySem.W.Frag} {C : C0} {ρ ρ' : Ev} {σ σ' : L2.St} {H H' : Hp}
theorem EOk.rz (I : EOk K C ρ σ H) : EOk K (C.rz ρ σ H) ρ σ H ∧ Same C.H0 (C.rz ρ σ H).H0 := I.raise
theorem rz_pres (I' : EOk K (C.rz ρ σ H) ρ' σ' H') : Pres (Av C ρ σ) H (Av (C.rz ρ σ H) ρ' σ') H' := fun b o nb e => by
  have e0 : (C.rz ρ σ H).H0 b = some o := by
    show @ite _ (Own ρ σ b) (Classical.propDecidable _) none (H b) = some o
    rw [if_neg (fun z => nb (.inr z))]
    exact e
  refine ⟨?_, I'.ext b o e0⟩
  rintro (z | ⟨i, l, h1, h2⟩)
  · exact nb (.inl z)
  · obtain ⟨a, vs, h3, h4, h5, _⟩ := I'.ow i l h1
    rw [h2] at h3; cases h3
    rw [e0] at h5; cases h5
theorem us_for {tg iter : Expr} {body : List Stmt} {ui : UI} {g : UG} {T : List Nat} {tb : US} (hp : PassesOwn (model X.prog X.w) X.A X.env X.xe) (hc : X.calm = true) (hi : PUI X tg iter ui) (hg : PUG X tg T g) (hb : PUSs X body tb)
    (hs : ∀ x, foldedSetIterable iter X.env x = pure x := by intro _; rfl) : PUS X (.For tg iter body [] pos) (uFor ui g tb) :=
  PSimp (ps_for hp hc hi hg hb hs) fun D σ H ⟨C, ρ, D0, I, h, k⟩ => ⟨C, ρ, _, I, h, fun n it ρ1 J H1 q f s ok => by
    obtain ⟨Pv, p0, turn, fin⟩ := q
    have I1 := (I.frz f).same s
    obtain ⟨Ir, sub⟩ := I1.rz
    refine ⟨fun i m σ' H' => m = n - i ∧ i ≤ n ∧ ∃ ρ', EOk X.K (C.rz ρ1 σ H1) ρ' σ' H' ∧ Pv i ρ', ⟨n, rfl, Nat.zero_le _, ρ1, Ir, p0⟩, ?_⟩
    rintro i m σ' H' ⟨rfl, hi, ρ', I', p'⟩
    have P := rz_pres I'
    have lo : ∀ ρ2 σ2 H2, EOk X.K (C.rz ρ1 σ H1) ρ2 σ2 H2 → EOk X.K C ρ2 σ2 H2 := fun ρ2 σ2 H2 J2 => J2.lower sub rfl I.a0
    by_cases hlt : i < n
    · refine .inr ⟨ok.go _ _ i P hlt, fun σ2 H2 => ∃ ρ2, EOk X.K (C.rz ρ1 σ H1) ρ2 σ2 H2 ∧ Pv (i + 1) ρ2, fun σ2 H2 z => ⟨n - (i + 1), by omega, rfl, hlt, z⟩, fun x H2 y => ?_⟩
      obtain ⟨s2, r2⟩ := ok.yld _ _ i x H2 P (fun a z => I'.avSome z) hlt y
      refine ⟨C.rz ρ1 σ H1, ρ', .pu (it i), H', _, I', s2, r2, turn i ρ' hlt p', fun ρ2 σ2 H3 q I3 _ => ⟨C.rz ρ1 σ H1, ρ2, _, I3, q, ⟨?_, ?_, ?_, ?_⟩⟩⟩
      · exact fun ρ3 σ3 H4 q I4 => ⟨ρ3, I4, q⟩
      · exact fun b v H4 q s4 r4 => k.rt b v H4 q (sub.trans s4) (r4.from sub)
      · exact fun ρ3 σ3 H4 q I4 => k.nx ρ3 σ3 H4 q (lo _ _ _ I4)
      · exact fun ρ3 σ3 H4 q I4 => ⟨ρ3, I4, q⟩
    · have e : i = n := by omega
      subst e
      exact .inl ⟨ok.stop _ _ P, k.nx _ _ _ (fin ρ' p') (lo _ _ _ I')⟩⟩
def seqOf : D → Option (List D)
  | .tup l => some l
  | .lst l => some l
  | .rol l => some l
  | _ => none
def uSeqI (t : UE) : UI := fun ρ Q => t ρ fun b ρ1 => match seqOf b.d with
  | some l => Q l.length (fun i => l.getD i .non) ρ1
  | none => False
theorem pi_any {l : Expr} {tl : TE} {tg : Expr} (hl : PE X l tl) : PI X tg l (fun σ H R => tl σ H fun x H1 => ∃ a, x = .ref a ∧ ((∃ xs, SqL X.K H1 a xs ∧ R (Itl X.K a) H1) ∨ ∃ xs, SqT X.K H1 a xs ∧ R (Itt X.K a) H1)) := by
  intro pins s σ H R I h
  refine thn (hl pins s σ H _ I h) fun v s1 ⟨x, H1, I1, r1, q1⟩ => ?_
  obtain ⟨a, e, q⟩ := q1
  subst e
  cases r1
  rcases q with ⟨xs, hq, q⟩ | ⟨xs, hq, q⟩
  · obtain ⟨its, rv, p, hz⟩ := I1.list hq
    refine wpAny_pyIter_list p.isList ?_
    refine ⟨s1.heap.objs.size, [s1.heap.objs.size], _, _, H1, rfl, I1.kept (t' := s1.toks) fun b o e => Heap.get?_push_of_some _ e, turn_list a _, ⟨_, Heap.get?_push_size _ rfl, rfl, rfl⟩, fun b hb => ?_, q⟩
    have e : b = s1.heap.objs.size := by simpa using hb
    subst e
    exact I1.fpOk (Nat.le_refl _) (I1.hok.fresh (Nat.le_refl _))
  · obtain ⟨its, rv, p, hz⟩ := I1.tuple hq
    refine wpAny_pyIter_tuple (show s1.heap.IsTuple a its.toArray from p) ?_
    refine ⟨s1.heap.objs.size, [s1.heap.objs.size], _, _, H1, rfl, I1.kept (t' := s1.toks) fun b o e => Heap.get?_push_of_some _ e, turn_tuple a _, ⟨_, Heap.get?_push_size _ rfl, rfl, rfl⟩, fun b hb => ?_, q⟩
    have e : b = s1.heap.objs.size := by simpa using hb
    subst e
    exact I1.fpOk (Nat.le_refl _) (I1.hok.fresh (Nat.le_refl _))
theorem PIimp {tg iter : Expr} {t t' : TI} (h : PI X tg iter t) (i : ∀ σ H R, t' σ H R → t σ H R) : PI X tg iter t' := fun pins s σ H R I q => h pins s σ H R I (i σ H R q)
theorem itok_list {A : AS} {a : Addr} {vs : List V} {l : List D} (c : (¬ A a ∧ Rd H a (.lst vs)) ∨ KL K a vs) (r : RepL K A H l vs) : ItOk K A H (Itl K a) l.length (fun i => l.getD i .non) := by
  have sq : ∀ A' H', Pres A H A' H' → SqL K H' a vs := fun A' H' P => by
    rcases c with ⟨n, c⟩ | c
    · exact .inl (Rd.pres P n c).2
    · exact .inr c
  have get : ∀ i, i < l.length → ∃ x, vs[i]? = some x ∧ Rep K A H (l.getD i .non) x := fun i hi => r.get (by rw [List.getD_eq_getElem?_getD, List.getElem?_eq_getElem hi]; rfl)
  refine ⟨fun A' H' i P hi => ?_, fun A' H' i x H'' P hA hi y => ?_, fun A' H' P => ⟨vs, sq _ _ P, by rw [r.length]; exact Nat.le_refl _⟩⟩
  · obtain ⟨x, e, _⟩ := get i hi
    exact ⟨vs, x, sq _ _ P, e⟩
  · obtain ⟨x', e, r'⟩ := get i hi
    obtain ⟨rfl, y⟩ := y
    have := y vs (sq _ _ P)
    rw [e] at this; cases this
    exact ⟨.refl _, r'.mono P⟩
theorem itok_tup {A : AS} {a : Addr} {vs : List V} {l : List D} (c : (¬ A a ∧ Rd H a (.tup vs)) ∨ KT K a vs) (r : RepL K A H l vs) : ItOk K A H (Itt K a) l.length (fun i => l.getD i .non) := by
  have sq : ∀ A' H', Pres A H A' H' → SqT K H' a vs := fun A' H' P => by
    rcases c with ⟨n, c⟩ | c
    · exact .inl (Rd.pres P n c).2
    · exact .inr c
  have get : ∀ i, i < l.length → ∃ x, vs[i]? = some x ∧ Rep K A H (l.getD i .non) x := fun i hi => r.get (by rw [List.getD_eq_getElem?_getD, List.getElem?_eq_getElem hi]; rfl)
  refine ⟨fun A' H' i P hi => ?_, fun A' H' i x H'' P hA hi y => ?_, fun A' H' P => ⟨vs, sq _ _ P, by rw [r.length]; exact Nat.le_refl _⟩⟩
  · obtain ⟨x, e, _⟩ := get i hi
    exact ⟨vs, x, sq _ _ P, e⟩
  · obtain ⟨x', e, r'⟩ := get i hi
    obtain ⟨rfl, y⟩ := y
    have := y vs (sq _ _ P)
    rw [e] at this; cases this
    exact ⟨.refl _, r'.mono P⟩
theorem ui_seq {tg : Expr} (h : PU X e te) : PUI X tg e (uSeqI te) := PIimp (pi_any h) fun σ H R ⟨C, ρ, Q0, I, h, k⟩ => ⟨C, ρ, _, I, h, fun b ρ1 v H1 q f s r => by
  have rr := r.rep fun a z => I.avF f z
  generalize b.d = d at q rr
  cases d with
  | tup l =>
    simp only [Rep] at rr
    obtain ⟨a, vs, rfl, c, rs⟩ := rr
    exact ⟨a, rfl, .inr ⟨vs, c.imp And.right id, k _ _ ρ1 _ H1 q f s (itok_tup c rs)⟩⟩
  | lst l =>
    simp only [Rep] at rr
    obtain ⟨a, vs, rfl, n, c, rs⟩ := rr
    exact ⟨a, rfl, .inl ⟨vs, .inl (.inl c), k _ _ ρ1 _ H1 q f s (itok_list (.inl ⟨n, .inl c⟩) rs)⟩⟩
  | rol l =>
    simp only [Rep] at rr
    obtain ⟨a, vs, rfl, c, rs⟩ := rr
    exact ⟨a, rfl, .inl ⟨vs, c.imp And.right id, k _ _ ρ1 _ H1 q f s (itok_list c rs)⟩⟩
  | _ => exact (show False from q).elim⟩
theorem itok_range {A : AS} {lo : Int} {n : Nat} : ItOk K A H (Itr lo n) n (fun i => .int (lo + i)) :=
  ⟨fun _ _ _ _ h => h, fun _ _ i x H'' _ _ _ ⟨e, y⟩ => by subst e; subst y; exact ⟨.refl _, by simp only [Rep]⟩, fun _ _ _ => Nat.le_refl n⟩
def uRng1 (ta : UA) : UI := fun ρ Q => ta ρ fun ds ρ1 => match ds with
  | [.int j] => (-(2 ^ 62) ≤ j ∧ j < 2 ^ 62) ∧ Q j.toNat (fun i => .int (0 + i)) ρ1
  | _ => False
def uRng2 (ta : UA) : UI := fun ρ Q => ta ρ fun ds ρ1 => match ds with
  | [.int i, .int j] => (-(2 ^ 62) ≤ i ∧ i < 2 ^ 62 ∧ -(2 ^ 62) ≤ j ∧ j < 2 ^ 62) ∧ Q (j - i).toNat (fun k => .int (i + k)) ρ1
  | _ => False
theorem rep_int {A : AS} {i : Int} {v : V} (h : Rep K A H (.int i) v) : v = .int i := by simpa only [Rep] using h
theorem ui_range1 {tg a : Expr} {ta : UA} {p : Pos} (hg : Gl X "range") (hm : X.mg "range" = none) (ha : PUA X [a] ta) (hs : starEach [a] X.env = [(false, eval a X.env)] := by rfl) : PUI X tg (.Call (.Name "range" p) [a] [] pos) (uRng1 ta) :=
  PIimp (pi_range1 hg hm ha hs) fun σ H R ⟨C, ρ, Q0, I, h, k⟩ => ⟨C, ρ, _, I, h, fun ds ρ1 vs H1 q f s r => by
    split at q
    · rename_i j
      obtain ⟨v, vr, rfl, rv, rr⟩ := r.uncons
      have := rr.unnil
      subst this
      have := rep_int rv
      subst this
      obtain ⟨⟨h1, h2⟩, q⟩ := q
      exact ⟨j, rfl, h1, h2, k _ _ ρ1 _ H1 q f s itok_range⟩
    · exact q.elim⟩
theorem ui_range2 {tg a b : Expr} {ta : UA} {p : Pos} (hg : Gl X "range") (hm : X.mg "range" = none) (ha : PUA X [a, b] ta) (hs : starEach [a, b] X.env = [(false, eval a X.env), (false, eval b X.env)] := by rfl) (hs2 : starEach [b] X.env = [(false, eval b X.env)] := by rfl) :
    PUI X tg (.Call (.Name "range" p) [a, b] [] pos) (uRng2 ta) :=
  PIimp (pi_range2 hg hm ha hs hs2) fun σ H R ⟨C, ρ, Q0, I, h, k⟩ => ⟨C, ρ, _, I, h, fun ds ρ1 vs H1 q f s r => by
    split at q
    · rename_i i j
      obtain ⟨v, vr, rfl, rv, rr⟩ := r.uncons
      obtain ⟨w, wr, rfl, rw', rr'⟩ := rr.uncons
      have := rr'.unnil
      subst this
      have := rep_int rv
      subst this
      have := rep_int rw'
      subst this
      obtain ⟨hb, q⟩ := q
      exact ⟨i, j, rfl, hb, k _ _ ρ1 _ H1 q f s itok_range⟩
    · exact q.elim⟩
end
end M
end
section
set_option Elab.async false
set_option linter.all false
set_option maxRecDepth 100000
namespace M
open PySem PySem.Spec PyProof.Rows L2
section
variable {X : Cx} {a b e o : Expr} {es : List Expr} {pos : Pos} {ta tb te ti : UE} {K : PySem.W.Frag} {C : C0} {ρ ρ' : Ev} {σ σ' : L2.St} {H H' : Hp} {A : AS}
theorem Frz.ow {i : Nat} {l : List D} (f : Frz ρ ρ') (h : ρ'[i]? = some (some (.ow l))) : ρ[i]? = some (some (.ow l)) := by
  rcases f.2 i with q | ⟨l', _, q⟩
  · exact q ▸ h
  · rw [q] at h; cases h
def ownAt (ρ : Ev) (i : Nat) (Q : List D → Prop) : Prop := match ρ[i]? with
  | some (some (.ow l)) => Q l
  | _ => False
theorem ownAt_inv {i : Nat} {Q : List D → Prop} (h : ownAt ρ i Q) : ∃ l, ρ[i]? = some (some (.ow l)) ∧ Q l := by
  unfold ownAt at h
  split at h
  · rename_i l e
    exact ⟨l, e, h⟩
  · exact h.elim
def uApp (i : Nat) (t : UE) : US := fun D ρ => ownAt ρ i fun _ => t ρ fun b ρ1 => ownAt ρ1 i fun l => l.length < sizeLine ∧ D.nx (ρ1.set i (some (.ow (l ++ [b.d]))))
theorem us_append {x : Str} {p apos cpos : Pos} (i : Nat) (hx : PE X (.Name x p) (tVar i)) (he : PU X e te)
    (hbase : attributeBase (.Name x p) "append" X.env (eval (.Name x p) X.env) = eval (.Name x p) X.env := by rfl)
    (hfew : ((backTo cpos (starEach [e] X.env)).all (fun x => !x.1) && (backToKw cpos (keywordEach [] X.env)).all (fun x => x.1.isSome)
      && decide ([e].length + ([] : List Keyword).length + (if ([] : List Keyword).isEmpty then 0 else 1) < 30)) = true := by rfl)
    (hline : (apos.endLine == cpos.line) = true := by rfl) (hs : starEach [e] X.env = (false, eval e X.env) :: starEach [] X.env := by rfl) (hplain : (backTo cpos (starEach [] X.env)).any (·.1) = false := by rfl)
    (hw : swapsWith (.Call (.Attribute (.Name x p) "append" apos) [e] [] cpos) none pos.line X.env = pure false := by rfl) :
    PUS X (.Expr (.Call (.Attribute (.Name x p) "append" apos) [e] [] cpos) pos) (uApp i te) :=
  PSimp (ps_expr (pe_bm PySem.F.plainAttrs_list PySem.F.slot_list_append PySem.F.type_list_append mt_append hx (pa_cons he pa_nil hs) hbase hfew hline hs hplain) hw) fun D σ H ⟨C, ρ, D0, I, h, k⟩ => by
    obtain ⟨l, hl, h⟩ := ownAt_inv h
    obtain ⟨a, vs, h1, h2, h3, h4⟩ := I.ow i l hl
    refine ⟨.ref a, h1, .inl ⟨rfl, vs, SqL.of h2⟩, C, ρ, _, I, h, fun b ρ1 v H1 q f s r => ?_⟩
    obtain ⟨l', hl', hz, q⟩ := ownAt_inv q
    have e := f.ow hl'
    rw [hl] at e; cases e
    have I1 := (I.frz f).same s
    obtain ⟨a', vs', g1, g2, g3, g4⟩ := I1.ow i l hl'
    rw [h1] at g1; cases g1
    refine ⟨a, vs', v, rfl, rfl, g2, by rw [← g4.length]; exact hz, k.nx _ _ _ q ?_⟩
    exact I1.write hl' h1 (g4.append (.cons (r.rep fun a z => I.avF f z) .nil))
def uSetI (i : Nat) (t ti : UE) : US := fun D ρ => t ρ fun b ρ1 => ownAt ρ1 i fun _ => ti ρ1 fun j ρ2 => ownAt ρ2 i fun l => match j.d with
  | .int k => (match ixN l.length k with
    | some n => D.nx (ρ2.set i (some (.ow (l.set n b.d))))
    | none => False)
  | _ => False
theorem us_setItem {x : Str} {p tpos : Pos} {ix : Expr} (i : Nat) (hx : PE X (.Name x p) (tVar i)) (he : PU X e te) (hi : PU X ix ti)
    (ha : ∀ v, assign (.Subscript (.Name x p) ix tpos) X.env v = (do
      let ov ← holding [v] (eval (.Name x p) X.env)
      let iv ← holding [v, ov] (eval ix X.env)
      standAt tpos
      holding [v, ov, iv] (setItem ov iv v)
      release [v, ov, iv] []) := by intro _; rfl)
    (hs : swapsWithSole [.Subscript (.Name x p) ix tpos] e pos.line X.env = pure false := by rfl) (hw : swappedStores [.Subscript (.Name x p) ix tpos] e X.env = pure none := by rfl)
    (h1 : (assignEach [.Subscript (.Name x p) ix tpos] X.env).map (·.2) = [assign (.Subscript (.Name x p) ix tpos) X.env] := by rfl) : PUS X (.Assign [.Subscript (.Name x p) ix tpos] e pos) (uSetI i te ti) :=
  PSimp (ps_asg he (pg_sub hx hi set_list ha) hs hw h1) fun D σ H ⟨C, ρ, D0, I, h, k⟩ => ⟨C, ρ, _, I, h, fun b ρ1 v H1 q f s r => by
    obtain ⟨l, hl, q⟩ := ownAt_inv q
    have I1 := (I.frz f).same s
    obtain ⟨a, vs, h1, h2, h3, h4⟩ := I1.ow i l hl
    refine ⟨.ref a, h1, C, ρ1, _, I1, q, fun j ρ2 w H2 q2 f2 s2 r2 => ?_⟩
    obtain ⟨l', hl', q2⟩ := ownAt_inv q2
    have e := f2.ow hl'
    rw [hl] at e; cases e
    have I2 := (I1.frz f2).same s2
    obtain ⟨a', vs', g1, g2, g3, g4⟩ := I2.ow i l hl'
    rw [h1] at g1; cases g1
    have rj := r2.rep fun a z => I1.avF f2 z
    generalize j.d = dj at q2 rj
    split at q2
    · rename_i kk
      have := rep_int rj
      subst this
      split at q2
      · rename_i n hn
        refine ⟨a, vs', kk, n, rfl, rfl, g2, by rw [← g4.length]; exact hn, k.nx _ _ _ q2 ?_⟩
        exact I2.write hl' h1 (g4.set n ((r.rep fun a z => I.avF f z).mono (.sub s2 fun a => f2.av)))
      · exact q2.elim
    · exact q2.elim⟩
def gIx (d i : D) (Q : D → Prop) : Prop := match seqOf d, i with
  | some l, .int k => (match atI l k with
    | some x => Q x
    | none => False)
  | _, _ => False
def uIx (t : UV) (ti : UE) : UE := fun ρ Q => t ρ fun d ρ1 => ti ρ1 fun i ρ2 => gIx d i.d fun x => Q (.pu x) ρ2
theorem RepL.atI {l : List D} {vs : List V} {k : Int} {x : D} (r : RepL K A H l vs) (h : atI l k = some x) : ∃ v, L2.atI vs k = some v ∧ Rep K A H x v := by
  unfold L2.atI at h ⊢
  cases e : ixN l.length k with
  | none => rw [e] at h; cases h
  | some j =>
    rw [e] at h
    rw [← r.length, e]
    exact r.get h
theorem Rep1.mono {A' : AS} (s : Same H H') (h : ∀ a, A' a → A a) : ∀ {d : D} {v : V}, Rep1 K A H d v → Rep1 K A' H' d v
  | .non, _, r => Rep.mono (.sub s h) r
  | .bl _, _, r => Rep.mono (.sub s h) r
  | .int _, _, r => Rep.mono (.sub s h) r
  | .str _, _, r => Rep.mono (.sub s h) r
  | .ty _, _, r => Rep.mono (.sub s h) r
  | .tup _, _, ⟨a, vs, e, c, r⟩ => ⟨a, vs, e, c.imp (fun c => c.imp (s _ _) fun ⟨o, z⟩ => ⟨o, s _ _ z⟩) id, r.mono (.sub s h)⟩
  | .lst _, _, ⟨a, vs, e, c, r⟩ => ⟨a, vs, e, s _ _ c, r.mono (.sub s h)⟩
  | .rol _, _, ⟨a, vs, e, c, r⟩ => ⟨a, vs, e, s.seq c, r.mono (.sub s h)⟩
  | .obj _ _ _, _, r => Rep.mono (.sub s h) r
theorem Rep1.seq {d : D} {v : V} {l : List D} (r : Rep1 K A H d v) (h : seqOf d = some l) : ∃ a vs, v = .ref a ∧ (SqL K H a vs ∨ SqT K H a vs) ∧ RepL K A H l vs := by
  cases d with
  | tup l' => cases h; obtain ⟨a, vs, e, c, r⟩ := r; exact ⟨a, vs, e, .inr c, r⟩
  | lst l' => cases h; obtain ⟨a, vs, e, c, r⟩ := r; exact ⟨a, vs, e, .inl (SqL.of c), r⟩
  | rol l' => cases h; obtain ⟨a, vs, e, c, r⟩ := r; exact ⟨a, vs, e, .inl c, r⟩
  | _ => cases h
theorem gIx_inv {d i : D} {Q : D → Prop} (h : gIx d i Q) : ∃ l k x, seqOf d = some l ∧ i = .int k ∧ atI l k = some x ∧ Q x := by
  unfold gIx at h
  split at h
  · rename_i l k e
    split at h
    · rename_i x ex
      exact ⟨l, k, x, e, rfl, ex, h⟩
    · exact h.elim
  · exact h.elim
theorem pu_ix {t : UV} (ha : PUV X a t) (hb : PU X b ti) (hs : PlainIx b) : PU X (.Subscript a b pos) (uIx t ti) :=
  PEimp (pe_ix ix_seq ha hb hs) fun σ H Q ⟨C, ρ, Q0, I, h, k⟩ => ⟨C, ρ, _, I, h, fun d ρ1 v H1 q f s r => by
    have I1 := (I.frz f).same s
    refine ⟨C, ρ1, _, I1, q, fun i ρ2 w H2 q2 f2 s2 r2 => ?_⟩
    obtain ⟨l, kk, x, e1, e2, e3, q2⟩ := gIx_inv q2
    have ri := r2.rep fun a z => I1.avF f2 z
    rw [e2] at ri
    have := rep_int ri
    subst this
    obtain ⟨a, vs, rfl, c, rs⟩ := (r.mono (A' := Av C ρ2 σ) s2 fun a => f2.av).seq e1
    obtain ⟨u, e4, r4⟩ := rs.atI e3
    have fin := k (.pu x) ρ2 u H2 q2 (f.trans f2) (s.trans s2) r4
    rcases c with c | c
    · exact .inl ⟨a, vs, kk, u, rfl, rfl, c, e4, fin⟩
    · exact .inr (.inl ⟨a, vs, kk, u, rfl, rfl, c, e4, fin⟩)⟩
abbrev UO := Ev → (Option Int → Ev → Prop) → Prop
def lO (K : PySem.W.Frag) (t : UO) : TO := fun σ H Q => ∃ C ρ Q0, EOk K C ρ σ H ∧ t ρ Q0 ∧ ∀ i ρ' H', Q0 i ρ' → Frz ρ ρ' → Same H H' → Q i H'
def PUO (X : Cx) (e : Option Expr) (t : UO) : Prop := PO X e (lO X.K t)
theorem POimp {e : Option Expr} {t t' : TO} (h : PO X e t) (i : ∀ σ H Q, t' σ H Q → t σ H Q) : PO X e t' := fun pins s σ H Q I q => h pins s σ H Q I (i σ H Q q)
def uNoPart : UO := fun ρ Q => Q none ρ
def uPart (t : UE) : UO := fun ρ Q => t ρ fun b ρ1 => match b.d with
  | .int i => Q (some i) ρ1
  | _ => False
theorem puo_none : PUO X none uNoPart := POimp po_none fun σ H Q ⟨C, ρ, Q0, I, h, k⟩ => k _ _ _ h (.refl _) (.refl _)
theorem puo_some (h : PU X e te) : PUO X (some e) (uPart te) := POimp (po_some h) fun σ H Q ⟨C, ρ, Q0, I, h, k⟩ => ⟨C, ρ, _, I, h, fun b ρ1 v H1 q f s r => by
  have r' := r.rep fun a z => I.avF f z
  generalize b.d = d at q r'
  split at q
  · exact ⟨_, rep_int r', k _ _ _ q f s⟩
  · exact q.elim⟩
def cutD (l : List D) (lo hi : Option Int) : List D := (l.drop (HT.sIx l.length 0 lo)).take (HT.sIx l.length l.length hi - HT.sIx l.length 0 lo)
theorem RepL.cut {l : List D} {vs : List V} (r : RepL K A H l vs) (lo hi : Option Int) : RepL K A H (cutD l lo hi) (cutV vs lo hi) := by
  unfold cutD cutV
  rw [r.length]
  exact (r.drop _).take _
def gSl (d : D) (lo hi : Option Int) (Q : B → Prop) : Prop := match d with
  | .tup l => ¬ (HT.sIx l.length 0 lo = 0 ∧ HT.sIx l.length l.length hi = l.length) ∧ Q (.pu (.tup (cutD l lo hi)))
  | .lst l => Q (.ow (cutD l lo hi))
  | .rol l => Q (.ow (cutD l lo hi))
  | _ => False
def uSl (t : UV) (tl th : UO) : UE := fun ρ Q => t ρ fun d ρ1 => tl ρ1 fun lo ρ2 => th ρ2 fun hi ρ3 => gSl d lo hi fun b => Q b ρ3
theorem pu_slice {t : UV} {tl th : UO} {lo hi : Option Expr} {p2 : Pos} (he : PUV X e t) (hl : PUO X lo tl) (hu : PUO X hi th) : PU X (.Subscript e (.Slice lo hi none p2) pos) (uSl t tl th) :=
  PEimp (pe_slice (sl_list.or sl_tup) he hl hu) fun σ H Q ⟨C, ρ, Q0, I, h, k⟩ => ⟨C, ρ, _, I, h, fun d ρ1 v H1 q f s r => by
    have I1 := (I.frz f).same s
    refine ⟨C, ρ1, _, I1, q, fun l2 ρ2 H2 q2 f2 s2 => ?_⟩
    have I2 := (I1.frz f2).same s2
    refine ⟨C, ρ2, _, I2, q2, fun h3 ρ3 H3 q3 f3 s3 => ?_⟩
    have I3 := (I2.frz f3).same s3
    have s13 := s2.trans s3
    have sAll := s.trans s13
    have fAll := f.trans (f2.trans f3)
    have r' := r.mono (A' := Av C ρ3 σ) s13 fun a z => f2.av (f3.av z)
    cases d with
    | tup l =>
      obtain ⟨hw, q3⟩ := q3
      obtain ⟨a, vs, rfl, c, rs⟩ := r'
      exact .inr ⟨a, vs, rfl, c, by rw [← rs.length]; exact hw, fun p n => k _ ρ3 _ _ q3 fAll (sAll.trans (same_new n _)) (rep_new_tup (fun a z => I3.avSome z) n (rs.cut l2 h3))⟩
    | lst l =>
      obtain ⟨a, vs, rfl, c, rs⟩ := r'
      exact .inl ⟨a, vs, rfl, SqL.of c, fun p n => k _ ρ3 _ _ q3 fAll (sAll.trans (same_new n _)) (rep_new_lst sAll n (rs.cut l2 h3))⟩
    | rol l =>
      obtain ⟨a, vs, rfl, c, rs⟩ := r'
      exact .inl ⟨a, vs, rfl, c, fun p n => k _ ρ3 _ _ q3 fAll (sAll.trans (same_new n _)) (rep_new_lst sAll n (rs.cut l2 h3))⟩
    | _ => exact (show False from q3).elim⟩
def Sm (i : Int) : Prop := i.natAbs < 2 ^ 9000
theorem Sm.log {i : Int} (h : Sm i) : i.natAbs.log2 < 9000 := by
  by_cases z : i.natAbs = 0
  · rw [z]; decide
  · exact (Nat.log2_lt z).mpr h
def gAdd (d e : D) (Q : B → Prop) : Prop := match d, e with
  | .int i, .int j => Q (.pu (.int (i + j)))
  | .lst l, .lst m => l.length + m.length ≤ sizeLine ∧ Q (.ow (l ++ m))
  | .tup l, .tup m => l.length + m.length ≤ sizeLine ∧ Q (.pu (.tup (l ++ m)))
  | _, _ => False
theorem op_catT0 : OpR X (binaryOp .Add) (fun x y H Q => ∃ a b ys, x = .ref a ∧ y = .ref b ∧ SqT X.K H a [] ∧ SqT X.K H b ys ∧ Q (.ref b) H) := by
  intro pins s σ H x y v u Q I rx ry h
  obtain ⟨a, b, ys, rfl, rfl, ha, hb, q⟩ := h
  cases rx
  cases ry
  obtain ⟨its, r1, p1, _⟩ := I.tuple ha
  obtain ⟨its2, r2, p2, _⟩ := I.tuple hb
  have e : its = [] := by
    have := r1.length
    exact List.length_eq_zero_iff.mp this.symm
  subst e
  obtain ⟨⟨cls, dd, data, sl⟩, ho, hc, n, hd⟩ := id p1
  obtain ⟨⟨cls2, dd2, data2, sl2⟩, ho2, hc2, n2, hd2⟩ := id p2
  simp only at hc hd hc2 hd2
  subst hc hd hc2 hd2
  exact concat_meets ⟨_, ho, rfl⟩ ⟨_, ho2, rfl⟩ noFill_tuple_add seq_tuple_add PySem.F.slot_tuple_add PySem.F.entry_tuple_add (PySem.F.args_tuple_add_2 _ _) (tuple_addW0 a b _ its2.toArray n n2 dd dd2 sl sl2 rfl) ⟨ho, ho2, ⟨.ref b, H, I, rfl, q⟩⟩
theorem repI {i : Int} : RepB K A H H' (.pu (.int i)) (.int i) := by
  show Rep K A H' (.int i) (.int i)
  simp only [Rep]
theorem ou_add : OpU X (binaryOp .Add) gAdd := by
  intro A H d e v w Q0 Q hA r1 r2 g k
  unfold gAdd at g
  split at g
  · rename_i i j
    exact ⟨_, op_add, i, j, rep_int r1, rep_int r2, k _ _ H g (.refl _) repI⟩
  · rename_i l m
    simp only [Rep] at r1 r2
    obtain ⟨a, vs, rfl, n1, c1, rs1⟩ := r1
    obtain ⟨b, ws, rfl, n2, c2, rs2⟩ := r2
    exact ⟨_, op_cat, a, b, vs, ws, rfl, rfl, c1, c2, by rw [← rs1.length, ← rs2.length]; exact g.1, fun p n => k _ _ _ g.2 (same_new n _) (rep_new_lst (.refl _) n (rs1.append rs2))⟩
  · rename_i l m
    simp only [Rep] at r1 r2
    obtain ⟨a, vs, rfl, c1, rs1⟩ := r1
    obtain ⟨b, ws, rfl, c2, rs2⟩ := r2
    obtain ⟨hz, g⟩ := g
    by_cases hn : l = []
    · subst hn
      have e1 : vs = [] := rs1.unnil
      subst e1
      refine ⟨_, op_catT0, a, b, ws, rfl, rfl, c1.imp And.right id, c2.imp And.right id, k _ _ H g (.refl _) ?_⟩
      show Rep X.K A H (.tup m) (.ref b)
      simp only [Rep]
      exact ⟨b, ws, rfl, c2, rs2⟩
    refine ⟨_, op_catT, a, b, vs, ws, rfl, rfl, c1.imp And.right id, c2.imp And.right id, fun z => hn ?_, by rw [← rs1.length, ← rs2.length]; exact hz, fun z => ?_, fun z p n => ?_⟩
    · have := rs1.length
      rw [z] at this
      exact List.length_eq_zero_iff.mp this
    · have e2 := rs2.length
      rw [z] at e2
      have e3 : m = [] := List.length_eq_zero_iff.mp e2
      subst e3
      rw [List.append_nil] at g
      refine k _ _ H g (.refl _) ?_
      show Rep X.K A H (.tup l) (.ref a)
      simp only [Rep]
      exact ⟨a, vs, rfl, c1, rs1⟩
    · exact k _ _ _ g (same_new n _) (rep_new_tup hA n (rs1.append rs2))
  · exact g.elim
def gI2 (f : Int → Int → (B → Prop) → Prop) (d e : D) (Q : B → Prop) : Prop := match d, e with
  | .int i, .int j => f i j Q
  | _, _ => False
theorem gI2_inv {f : Int → Int → (B → Prop) → Prop} {d e : D} {Q : B → Prop} (h : gI2 f d e Q) : ∃ i j, d = .int i ∧ e = .int j ∧ f i j Q := by
  unfold gI2 at h
  split at h
  · exact ⟨_, _, rfl, rfl, h⟩
  · exact h.elim
def gSub : D → D → (B → Prop) → Prop := gI2 fun i j Q => Q (.pu (.int (i - j)))
theorem ou_sub : OpU X (binaryOp .Sub) gSub := by
  intro A H d e v w Q0 Q hA r1 r2 g k
  obtain ⟨i, j, rfl, rfl, g⟩ := gI2_inv g
  exact ⟨_, op_sub, i, j, rep_int r1, rep_int r2, k _ _ H g (.refl _) repI⟩
theorem bits_of {i : Int} (h : Sm i) : Builtin.Int.intBits i ≤ 2 ^ 20 := Nat.le_trans (PyProof.Rows.intBits_le h) (by decide)
def gMul (d e : D) (Q : B → Prop) : Prop := match d, e with
  | .int i, .int j => (CMul i j ∨ (Sm i ∧ Sm j)) ∧ Q (.pu (.int (i * j)))
  | .lst l, .int k => (-(2 ^ 63) ≤ k ∧ k < 2 ^ 63 ∧ l.length * k.toNat ≤ sizeLine) ∧ Q (.ow (List.replicate k.toNat l).flatten)
  | _, _ => False
theorem op_mulS : OpR X (binaryOp .Mult) (rI (fun i j => CMul i j ∨ (Sm i ∧ Sm j)) fun i j => .int (i * j)) := opI fun _ _ _ _ _ _ _ hc q => mul_int q (hc.elim CMul.ok fun h => .of_bits (bits_of h.1) (bits_of h.2))
theorem ou_mul : OpU X (binaryOp .Mult) gMul := by
  intro A H d e v w Q0 Q hA r1 r2 g k
  unfold gMul at g
  split at g
  · rename_i i j
    exact ⟨_, op_mulS, i, j, rep_int r1, rep_int r2, g.1, k _ _ H g.2 (.refl _) repI⟩
  · rename_i l kk
    have := rep_int r2
    subst this
    simp only [Rep] at r1
    obtain ⟨a, vs, rfl, n1, c1, rs1⟩ := r1
    obtain ⟨⟨h1, h2, h3⟩, g⟩ := g
    exact ⟨_, op_rep, a, kk, vs, rfl, rfl, c1, h1, h2, by rw [← rs1.length]; exact h3, fun p n => k _ _ _ g (same_new n _) (rep_new_lst (.refl _) n (rs1.rep _))⟩
  · exact g.elim
def gDiv : D → D → (B → Prop) → Prop := gI2 fun i j Q => (j ≠ 0 ∧ Sm j) ∧ Q (.pu (.int (i.fdiv j)))
def gMod : D → D → (B → Prop) → Prop := gI2 fun i j Q => j ≠ 0 ∧ Q (.pu (.int (i.fmod j)))
theorem op_divS : OpR X (binaryOp .FloorDiv) (rI (fun _ j => j ≠ 0 ∧ Sm j) fun i j => .int (i.fdiv j)) := opI fun _ _ _ _ _ _ _ hc q => floordiv_int hc.1 q (.inl (PyProof.noPylong_of_log2 hc.2.log))
theorem ou_div : OpU X (binaryOp .FloorDiv) gDiv := by
  intro A H d e v w Q0 Q hA r1 r2 g k
  obtain ⟨i, j, rfl, rfl, g⟩ := gI2_inv g
  exact ⟨_, op_divS, i, j, rep_int r1, rep_int r2, g.1, k _ _ H g.2 (.refl _) repI⟩
theorem ou_mod : OpU X (binaryOp .Mod) gMod := by
  intro A H d e v w Q0 Q hA r1 r2 g k
  obtain ⟨i, j, rfl, rfl, g⟩ := gI2_inv g
  exact ⟨_, op_modN, i, j, rep_int r1, rep_int r2, g.1, k _ _ H g.2 (.refl _) repI⟩
def gPow : D → D → (B → Prop) → Prop := gI2 fun i j Q => CPow i j ∧ Q (.pu (.int (i ^ j.toNat)))
theorem ou_pow : OpU X (binaryOp .Pow) gPow := by
  intro A H d e v w Q0 Q hA r1 r2 g k
  obtain ⟨i, j, rfl, rfl, g⟩ := gI2_inv g
  exact ⟨_, op_pow, i, j, rep_int r1, rep_int r2, g.1, k _ _ H g.2 (.refl _) repI⟩
def gCmp (p : Int → Int → Bool) : D → D → (B → Prop) → Prop := gI2 fun i j Q => Q (.pu (.bl (p i j)))
theorem ou_cmp {op : CmpOp} {p : Int → Int → Bool} (ho : OpR X (compareOp op) (rI0 fun i j => .bl (p i j))) : OpU X (compareOp op) (gCmp p) := by
  intro A H d e v w Q0 Q hA r1 r2 g k
  obtain ⟨i, j, rfl, rfl, g⟩ := gI2_inv g
  exact ⟨_, ho, i, j, rep_int r1, rep_int r2, k _ _ H g (.refl _) rep_bl⟩
theorem ou_lt : OpU X (compareOp .Lt) (gCmp fun i j => decide (i < j)) := ou_cmp op_lt
theorem ou_le : OpU X (compareOp .LtE) (gCmp fun i j => decide (i ≤ j)) := ou_cmp op_le
theorem ou_gt : OpU X (compareOp .Gt) (gCmp fun i j => decide (j < i)) := ou_cmp op_gt
theorem ou_ge : OpU X (compareOp .GtE) (gCmp fun i j => decide (j ≤ i)) := ou_cmp op_ge
def gEqB (neg : Bool) (d e : D) (Q : B → Prop) : Prop := match d, e with
  | .int i, .int j => Q (.pu (.bl (neg ^^ decide (i = j))))
  | .bl i, .bl j => Q (.pu (.bl (neg ^^ decide (i = j))))
  | .str i, .str j => Q (.pu (.bl (neg ^^ decide (i = j))))
  | _, _ => False
theorem rep_blv {b : Bool} {v : V} (h : Rep K A H (.bl b) v) : v = .bl b := by simpa only [Rep] using h
theorem rep_strv {b : Str} {v : V} (h : Rep K A H (.str b) v) : v = .str b := by simpa only [Rep] using h
theorem ou_eq : OpU X (compareOp .Eq) (gEqB false) := by
  intro A H d e v w Q0 Q hA r1 r2 g k
  unfold gEqB at g
  split at g
  · rw [rep_int r1, rep_int r2]
    exact ⟨_, op_eq, rfl, k _ _ H g (.refl _) (by rw [dec_int, Bool.false_xor, Bool.beq_eq_decide_eq]; exact rep_bl)⟩
  · rw [rep_blv r1, rep_blv r2]
    exact ⟨_, op_eq, rfl, k _ _ H g (.refl _) (by rw [dec_bl, Bool.false_xor, Bool.beq_eq_decide_eq]; exact rep_bl)⟩
  · rw [rep_strv r1, rep_strv r2]
    exact ⟨_, op_eq, rfl, k _ _ H g (.refl _) (by rw [dec_str, Bool.false_xor, Bool.beq_eq_decide_eq]; exact rep_bl)⟩
  · exact g.elim
theorem ou_ne : OpU X (compareOp .NotEq) (gEqB true) := by
  intro A H d e v w Q0 Q hA r1 r2 g k
  unfold gEqB at g
  split at g
  · rw [rep_int r1, rep_int r2]
    exact ⟨_, op_ne, rfl, k _ _ H g (.refl _) (by rw [dec_int, Bool.true_xor, Bool.beq_eq_decide_eq]; exact rep_bl)⟩
  · rw [rep_blv r1, rep_blv r2]
    exact ⟨_, op_ne, rfl, k _ _ H g (.refl _) (by rw [dec_bl, Bool.true_xor, Bool.beq_eq_decide_eq]; exact rep_bl)⟩
  · rw [rep_strv r1, rep_strv r2]
    exact ⟨_, op_ne, rfl, k _ _ H g (.refl _) (by rw [dec_str, Bool.true_xor, Bool.beq_eq_decide_eq]; exact rep_bl)⟩
  · exact g.elim
end
end M
end
section
set_option Elab.async false
set_option linter.all false
set_option maxRecDepth 100000
namespace M
open PySem PySem.Spec PyProof.Rows L2
section
variable {X : Cx} {a b e o : Expr} {es : List Expr} {pos : Pos} {ta tb te ti : UE} {K : PySem.W.Frag} {C : C0} {ρ ρ' : Ev} {σ σ' : L2.St} {H H' : Hp} {A : AS}
def uNeg (t : UE) : UE := fun ρ Q => t ρ fun b ρ1 => match b.d with
  | .int i => Q (.pu (.int (-i))) ρ1
  | _ => False
theorem pu_neg (h : PU X a ta) : PU X (.UnaryOp .USub a pos) (uNeg ta) :=
  PEimp (pe_un un_neg h) fun σ H Q ⟨C, ρ, Q0, I, h, k⟩ => ⟨C, ρ, _, I, h, fun b ρ1 v H1 q f s r => by
    have r' := r.rep fun a z => I.avF f z
    generalize b.d = d at q r'
    split at q
    · exact ⟨_, rep_int r', k _ _ _ _ q f s repI⟩
    · exact q.elim⟩
theorem iu_add : IpU X .Add (gI2 fun i j Q => Q (.pu (.int (i + j)))) := by
  intro A H d e v w Q0 Q hA r1 r2 g k
  obtain ⟨i, j, rfl, rfl, g⟩ := gI2_inv g
  exact ⟨_, ip_add, i, j, rep_int r1, rep_int r2, k _ _ H g (.refl _) repI⟩
theorem iu_sub : IpU X .Sub (gI2 fun i j Q => Q (.pu (.int (i - j)))) := by
  intro A H d e v w Q0 Q hA r1 r2 g k
  obtain ⟨i, j, rfl, rfl, g⟩ := gI2_inv g
  exact ⟨_, ip_sub, i, j, rep_int r1, rep_int r2, k _ _ H g (.refl _) repI⟩
def g1 (f : D → (B → Prop) → Prop) (ds : List D) (Q : B → Prop) : Prop := match ds with
  | [d] => f d Q
  | _ => False
def g2 (f : D → D → (B → Prop) → Prop) (ds : List D) (Q : B → Prop) : Prop := match ds with
  | [d, e] => f d e Q
  | _ => False
theorem g1_inv {f : D → (B → Prop) → Prop} {ds : List D} {Q : B → Prop} {vs : List V} (h : g1 f ds Q) (r : RepL K A H ds vs) : ∃ d v, ds = [d] ∧ vs = [v] ∧ Rep K A H d v ∧ f d Q := by
  unfold g1 at h
  split at h
  · obtain ⟨v, vr, rfl, rv, rr⟩ := r.uncons
    have := rr.unnil
    subst this
    exact ⟨_, v, rfl, rfl, rv, h⟩
  · exact h.elim
theorem g2_inv {f : D → D → (B → Prop) → Prop} {ds : List D} {Q : B → Prop} {vs : List V} (h : g2 f ds Q) (r : RepL K A H ds vs) : ∃ d e v w, ds = [d, e] ∧ vs = [v, w] ∧ Rep K A H d v ∧ Rep K A H e w ∧ f d e Q := by
  unfold g2 at h
  split at h
  · obtain ⟨v, vr, rfl, rv, rr⟩ := r.uncons
    obtain ⟨w, wr, rfl, rw', rr'⟩ := rr.uncons
    have := rr'.unnil
    subst this
    exact ⟨_, _, v, w, rfl, rfl, rv, rw', h⟩
  · exact h.elim
def gInt (f : Int → (B → Prop) → Prop) (d : D) (Q : B → Prop) : Prop := match d with
  | .int i => f i Q
  | _ => False
def gAbs : List D → (B → Prop) → Prop := g1 (gInt fun i Q => Q (.pu (.int (if i < 0 then -i else i))))
def gMax : List D → (B → Prop) → Prop := g2 (gI2 fun i j Q => Q (.pu (.int (if j > i then j else i))))
theorem cu_max (hc : X.calm = true) : CallU X (.builtin "max") gMax := by
  intro A H ds vs Q0 Q hA r g k
  obtain ⟨d, e, v, w, rfl, rfl, rv, rw', g⟩ := g2_inv g r
  obtain ⟨i, j, rfl, rfl, g⟩ := gI2_inv g
  exact ⟨_, call_max2 hc, i, j, by rw [rep_int rv, rep_int rw'], k _ _ H g (.refl _) repI⟩
def gMin : List D → (B → Prop) → Prop := g2 (gI2 fun i j Q => Q (.pu (.int (if j < i then j else i))))
theorem cu_min (hc : X.calm = true) : CallU X (.builtin "min") gMin := by
  intro A H ds vs Q0 Q hA r g k
  obtain ⟨d, e, v, w, rfl, rfl, rv, rw', g⟩ := g2_inv g r
  obtain ⟨i, j, rfl, rfl, g⟩ := gI2_inv g
  exact ⟨_, call_min2 hc, i, j, by rw [rep_int rv, rep_int rw'], k _ _ H g (.refl _) repI⟩
def gToInt : List D → (B → Prop) → Prop := g1 fun d Q => match d with
  | .int i => Q (.pu (.int i))
  | .bl k => Q (.pu (.int (if k then 1 else 0)))
  | _ => False
def gTupleOf : List D → (B → Prop) → Prop := g1 fun d Q => match seqOf d with
  | some l => Q (.pu (.tup l))
  | none => False
theorem cu_tuple : CallU X (.type "tuple") gTupleOf := by
  intro A H ds vs Q0 Q hA r g k
  obtain ⟨d, v, rfl, rfl, rv, g⟩ := g1_inv g r
  cases d with
  | tup l =>
    have rv' := rv
    simp only [Rep] at rv
    obtain ⟨a, vs, rfl, c, rs⟩ := rv
    exact ⟨_, call_tuple_of, a, vs, rfl, .inr ⟨c.imp And.right id, k _ _ H g (.refl _) rv'⟩⟩
  | lst l =>
    simp only [Rep] at rv
    obtain ⟨a, vs, rfl, n, c, rs⟩ := rv
    exact ⟨_, call_tuple_of, a, vs, rfl, .inl ⟨SqL.of c, fun p n => k _ _ _ g (same_new n _) (rep_new_tup hA n rs)⟩⟩
  | rol l =>
    simp only [Rep] at rv
    obtain ⟨a, vs, rfl, c, rs⟩ := rv
    exact ⟨_, call_tuple_of, a, vs, rfl, .inl ⟨c.imp And.right id, fun p n => k _ _ _ g (same_new n _) (rep_new_tup hA n rs)⟩⟩
  | _ => exact (show False from g).elim
def gListOf : List D → (B → Prop) → Prop := g1 fun d Q => match seqOf d with
  | some l => Q (.ow l)
  | none => False
theorem cu_list : CallU X (.type "list") gListOf := by
  intro A H ds vs Q0 Q hA r g k
  obtain ⟨d, v, rfl, rfl, rv, g⟩ := g1_inv g r
  cases e : seqOf d with
  | none => simp only [e] at g
  | some l =>
    simp only [e] at g
    obtain ⟨a, vs, rfl, c, rs⟩ := rv.one.seq e
    exact ⟨_, call_list_of, a, vs, rfl, c, fun p n => k _ _ _ g (same_new n _) (rep_new_lst (.refl _) n rs)⟩
def uLen (t : UV) : UE := fun ρ Q => t ρ fun d ρ1 => match seqOf d with
  | some l => Q (.pu (.int l.length)) ρ1
  | none => False
theorem pu_len {t : UV} {p : Pos} (ha : PUV X e t) (hg : Gl X "len") (hm : X.mg "len" = none) (hs : starEach [e] X.env = (false, eval e X.env) :: starEach [] X.env := by rfl)
    (hpl : (backTo pos (starEach [] X.env)).any (·.1) = false := by rfl) : PU X (.Call (.Name "len" p) [e] [] pos) (uLen t) :=
  PEimp (pe_callB call_len_seq hg hm PySem.boot_len (pa_cons ha pa_nil hs) (by decide) (by decide) hs hpl) fun σ H Q ⟨C, ρ, Q0, I, h, k⟩ => ⟨C, ρ, _, I, h, fun d ρ1 v H1 q f s r => by
    cases e : seqOf d with
    | none => simp only [e] at q
    | some l =>
      simp only [e] at q
      obtain ⟨a, vs, rfl, c, rs⟩ := r.seq e
      exact ⟨a, vs, rfl, c, k _ _ _ _ q f s (by rw [rs.length]; exact repI)⟩⟩
theorem isi_no {x : Value} {T : String} {prog : Program} {w : World} {A : Around} {E : Value → Shared → Prop} {s : Shared} {Q : Value → Shared → Prop}
    {P : (Result → Shared → Prop) → Shared → Prop} (hm : Meets (Builtin.«isinstance» ⟨[x, .type T], []⟩) (fun _ R s => P R s)) (h : P (fun r s' => match r with | .ok (.ret v) => Q v s' | .ok _ => False | .error e => E e s') s) :
    wpAny (model prog w) A (call (.builtin "isinstance") [x, .type T]) Q E s :=
  call_function_any kind_isinstance plain_isinstance entry_isinstance (args_isinstance _ _) (hm _ _ _ _ _ h)
theorem rep_ty {T : String} {v : V} (h : Rep K A H (.ty T) v) : v = .ty T := by simpa only [Rep] using h
def rIsi (K : PySem.W.Frag) : List V → Hp → VK → Prop := fun xs H Q => ∃ x T k, xs = [x, .ty T] ∧ Q (.bl k) H ∧
  ((∃ i, x = .int i ∧ ((T = "int" ∧ k = true) ∨ ((T = "bool" ∨ T = "tuple" ∨ T = "list") ∧ k = false))) ∨ (∃ c, x = .bl c ∧ (T = "int" ∨ T = "bool") ∧ k = true) ∨
   (∃ a ys, x = .ref a ∧ SqT K H a ys ∧ ((T = "tuple" ∧ k = true) ∨ ((T = "int" ∨ T = "list") ∧ k = false))) ∨ (∃ a ys, x = .ref a ∧ SqL K H a ys ∧ ((T = "list" ∧ k = true) ∨ ((T = "int" ∨ T = "tuple") ∧ k = false))))
theorem tyT (T : String) (h : T = "int" ∨ T = "bool" ∨ T = "tuple" ∨ T = "list") : typeOf (.type T) = pure (.type "type") := by
  rcases h with rfl | rfl | rfl | rfl <;> first | rfl | decide
theorem call_isi : CallR X (.builtin "isinstance") (rIsi X.K) := by
  intro pins s σ H xs us Q I r h
  obtain ⟨x, T, k, rfl, q, h⟩ := h
  obtain ⟨u, w', rfl, rx, ry⟩ := vals2 r
  have e : w' = Value.type T := ry
  subst e
  rcases h with ⟨i, rfl, h⟩ | ⟨c, rfl, h, rfl⟩ | ⟨a, ys, rfl, hs, h⟩ | ⟨a, ys, rfl, hs, h⟩
  · obtain ⟨t, rfl⟩ := rx
    rcases h with ⟨rfl, rfl⟩ | ⟨h, rfl⟩
    · exact call_isinstance_yes (typeIs_int s i t) (tyT _ (by simp)) PyProof.Rows.sub_int_int ⟨.bl true, H, I, rfl, q⟩
    · rcases h with rfl | rfl | rfl
      · exact isi_no (isinstance_false_int (by decide) (tyT _ (by simp)) PyProof.Rows.sub_int_bool) ⟨.bl false, H, I.tok _, rfl, q⟩
      · exact isi_no (isinstance_false_int (by decide) (tyT _ (by simp)) PyProof.Rows.sub_int_tuple) ⟨.bl false, H, I.tok _, rfl, q⟩
      · exact isi_no (isinstance_false_int (by decide) (tyT _ (by simp)) PyProof.Rows.sub_int_list) ⟨.bl false, H, I.tok _, rfl, q⟩
  · cases rx
    rcases h with rfl | rfl
    · exact call_isinstance_yes (PySem.typeIs_bool s c) (tyT _ (by simp)) PyProof.Rows.sub_bool_int ⟨.bl true, H, I, rfl, q⟩
    · exact call_isinstance_yes (PySem.typeIs_bool s c) (tyT _ (by simp)) PyProof.Rows.sub_bool_bool ⟨.bl true, H, I, rfl, q⟩
  · cases rx
    obtain ⟨its, rv, p, hz⟩ := I.tuple hs
    obtain ⟨o, ho, hc, _⟩ := id p
    rcases h with ⟨rfl, rfl⟩ | ⟨h, rfl⟩
    · exact call_isinstance_yes p.typeIs (tyT _ (by simp)) PyProof.Rows.sub_tuple_tuple ⟨.bl true, H, I, rfl, q⟩
    · rcases h with rfl | rfl
      · exact isi_no (isinstance_false_tuple (by decide) (tyT _ (by simp)) PyProof.Rows.sub_tuple_int) ⟨⟨o, ho, hc⟩, .bl false, H, I.tok _, rfl, q⟩
      · exact isi_no (isinstance_false_tuple (by decide) (tyT _ (by simp)) PyProof.Rows.sub_tuple_list) ⟨⟨o, ho, hc⟩, .bl false, H, I.tok _, rfl, q⟩
  · cases rx
    obtain ⟨its, rv, p, hz⟩ := I.list hs
    obtain ⟨o, n, ho, hc, _⟩ := id p
    rcases h with ⟨rfl, rfl⟩ | ⟨h, rfl⟩
    · exact call_isinstance_yes p.isList.typeIs (tyT _ (by simp)) PyProof.Rows.sub_list_list ⟨.bl true, H, I, rfl, q⟩
    · rcases h with rfl | rfl
      · exact isi_no (isinstance_false_list (by decide) (tyT _ (by simp)) PyProof.Rows.sub_list_int) ⟨⟨o, ho, hc⟩, .bl false, H, I.tok _, rfl, q⟩
      · exact isi_no (isinstance_false_list (by decide) (tyT _ (by simp)) PyProof.Rows.sub_list_tuple) ⟨⟨o, ho, hc⟩, .bl false, H, I.tok _, rfl, q⟩
def gIsi : List D → (B → Prop) → Prop := g2 fun d e Q => match e with
  | .ty T => (match d with
    | .int _ => if T = "int" then Q (.pu (.bl true)) else if T = "bool" ∨ T = "tuple" ∨ T = "list" then Q (.pu (.bl false)) else False
    | .bl _ => if T = "int" ∨ T = "bool" then Q (.pu (.bl true)) else False
    | .tup _ => if T = "tuple" then Q (.pu (.bl true)) else if T = "int" ∨ T = "list" then Q (.pu (.bl false)) else False
    | .lst _ => if T = "list" then Q (.pu (.bl true)) else if T = "int" ∨ T = "tuple" then Q (.pu (.bl false)) else False
    | _ => False)
  | _ => False
theorem cu_isi : CallU X (.builtin "isinstance") gIsi := by
  intro A H ds vs Q0 Q hA r g k
  obtain ⟨d, e, v, w, rfl, rfl, rv, rw', g⟩ := g2_inv g r
  have no : ∀ {c : Bool}, Q0 (.pu (.bl c)) → Q (.bl c) H := fun z => k _ _ H z (.refl _) rep_bl
  cases e with
  | ty T =>
    rw [rep_ty rw']
    cases d with
    | int i =>
      rw [rep_int rv]
      by_cases h1 : T = "int"
      · simp only [h1, if_true] at g
        exact ⟨_, call_isi, _, T, true, rfl, no g, .inl ⟨i, rfl, .inl ⟨h1, rfl⟩⟩⟩
      · by_cases h2 : T = "bool" ∨ T = "tuple" ∨ T = "list"
        · simp only [h1, h2, if_true, if_false] at g
          exact ⟨_, call_isi, _, T, false, rfl, no g, .inl ⟨i, rfl, .inr ⟨h2, rfl⟩⟩⟩
        · simp only [h1, h2, if_false] at g
    | bl c =>
      rw [rep_blv rv]
      by_cases h1 : T = "int" ∨ T = "bool"
      · simp only [h1, if_true] at g
        exact ⟨_, call_isi, _, T, true, rfl, no g, .inr (.inl ⟨c, rfl, h1, rfl⟩)⟩
      · simp only [h1, if_false] at g
    | tup l =>
      obtain ⟨a, vs, rfl, c, rs⟩ := rv.one
      by_cases h1 : T = "tuple"
      · simp only [h1, if_true] at g
        exact ⟨_, call_isi, _, T, true, rfl, no g, .inr (.inr (.inl ⟨a, vs, rfl, c, .inl ⟨h1, rfl⟩⟩))⟩
      · by_cases h2 : T = "int" ∨ T = "list"
        · simp only [h1, h2, if_true, if_false] at g
          exact ⟨_, call_isi, _, T, false, rfl, no g, .inr (.inr (.inl ⟨a, vs, rfl, c, .inr ⟨h2, rfl⟩⟩))⟩
        · simp only [h1, h2, if_false] at g
    | lst l =>
      obtain ⟨a, vs, rfl, c, rs⟩ := rv.one
      by_cases h1 : T = "list"
      · simp only [h1, if_true] at g
        exact ⟨_, call_isi, _, T, true, rfl, no g, .inr (.inr (.inr ⟨a, vs, rfl, SqL.of c, .inl ⟨h1, rfl⟩⟩))⟩
      · by_cases h2 : T = "int" ∨ T = "tuple"
        · simp only [h1, h2, if_true, if_false] at g
          exact ⟨_, call_isi, _, T, false, rfl, no g, .inr (.inr (.inr ⟨a, vs, rfl, SqL.of c, .inr ⟨h2, rfl⟩⟩))⟩
        · simp only [h1, h2, if_false] at g
    | _ => exact (show False from g).elim
  | _ => exact (show False from g).elim
theorem pu_ty {x : Str} {T : String} {p : Pos} (hg : Gl X x) (hm : X.mg x = none) (hv : bootBuiltins x = some (.type T)) (hn : x ≠ "__name__" := by decide) (hd : (x == ("__debug__" : Str)) = false := by decide) : PU X (.Name x p) (uC (.ty T)) :=
  pu_glob (pe_bltn (v := .ty T) hg hm hv rfl hn hd) fun A H => by simp only [Rep]
def init (N : List Str) (ds : List D) : Ev := ds.map (fun d => some (.pu d)) ++ List.replicate (N.length - ds.length) none
theorem init_get {N : List Str} {ds : List D} {i : Nat} {z : B} (h : (init N ds)[i]? = some (some z)) : ∃ d, z = .pu d ∧ ds[i]? = some d := by
  unfold init at h
  by_cases hi : i < ds.length
  · rw [List.getElem?_append_left (by simpa using hi), List.getElem?_map] at h
    cases e : ds[i]? with
    | none => rw [e] at h; cases h
    | some d => rw [e] at h; cases h; exact ⟨d, rfl, rfl⟩
  · rw [List.getElem?_append_right (by simpa using hi), List.getElem?_replicate] at h
    split at h <;> cases h
theorem init_ok {N : List Str} {ds : List D} {vs : List V} (hA : ∀ a, A a → H a ≠ none) (r : RepL K A H ds vs) : EOk K ⟨H, A⟩ (init N ds) (L2.start N vs) H := by
  have own : ∀ a, ¬ Own (init N ds) (L2.start N vs) a := fun a ⟨i, l, h1, _⟩ => by
    obtain ⟨d, e, _⟩ := init_get h1
    cases e
  refine ⟨?_, fun i d h => ?_, fun i l h => ?_, fun i j l l' a h => ?_, fun i l h => ?_, .refl _, hA⟩
  · unfold init L2.start
    simp [r.length]
  · obtain ⟨d', e, e2⟩ := init_get h
    cases e
    obtain ⟨v, h1, h2⟩ := r.get e2
    refine ⟨v, ?_, h2.mono (.sub (.refl _) fun a z => z.elim id fun z => absurd z (own a))⟩
    unfold L2.start
    have hv : i < vs.length := (List.getElem?_eq_some_iff.mp h1).1
    rw [List.getElem?_append_left (by simpa using hv), List.getElem?_map, h1]
    rfl
  · obtain ⟨d', e, _⟩ := init_get h
    cases e
  · obtain ⟨d', e, _⟩ := init_get h
    cases e
  · obtain ⟨d', e, _⟩ := init_get h
    cases e
theorem fn_pure {P : Program} {w : World} {K : PySem.W.Frag} {mg : Str → Option Value} {base : Heap} {x qual : Str} {st : Stmt} {f : Addr} {fd : FuncData} {N ps : List Str} {k : Nat} {φ : Φ} (F : Fun K x qual st f fd) (S : FnScope N ps (defScope st))
    (len : ∀ ds Q, φ ds Q → ds.length = ps.length)
    (body : ∀ (cdv : Value) (A : Around) (outer : List Env) (s : Shared) (H : Hp) (E : XK), Room k (A.deeper (envOfC qual (defScope st) s.heap.objs.size f cdv)) →
      ∃ t, PUSs (cxOf CX0 P w K mg base N qual (defScope st) f cdv A outer s H E).nox (defBody st) t ∧ ∀ ds Q, φ ds Q → t { nx := fun _ => Q (.pu .non), rt := Q } (init N ds)) :
    FnOk P w K mg base CX0 (k + 1) f fd ps (spP K φ) := by
  refine F.ok S (fun vs H Q E h => ?_) (fun cdv A outer s H vs Q E hr h => ?_)
  · obtain ⟨A, ds, Q0, _, r, h, _⟩ := h
    rw [← r.length]
    exact len ds Q0 h
  · obtain ⟨A', ds, Q0, hA, r, h, q⟩ := h
    obtain ⟨t, ht, hq⟩ := body cdv A outer s H E hr
    refine ⟨_, ht, ⟨H, A'⟩, init N ds, _, init_ok hA r, hq ds Q0 h, ⟨fun ρ σ H' z I => ?_, fun b v H' z s r => q b v H' z s r, fun _ _ _ z => z.elim, fun _ _ _ z => z.elim⟩⟩
    exact q _ _ H' z I.ext (show Rep _ _ _ _ _ by simp only [Rep])
end
end M
end
section
set_option Elab.async false
set_option linter.all false
set_option maxRecDepth 100000
namespace M
open PySem PySem.Spec PyProof.Rows L2
structure Fn (P : Program) (w : World) (K : PySem.W.Frag) (mg : Str → Option Value) (base : Heap) (x : Str) (ps : List Str) (k : Nat) (φ : Φ) : Prop where
  ex : ∃ f fd, FnOk P w K mg base CX0 k f fd ps (spP K φ) ∧ Binds K fd ps [] ∧ PySem.W.keepIn K (.ref f) = true ∧ mg x = some (.ref f)
section
variable {X : Cx} {e : Expr} {es : List Expr} {pos : Pos}
theorem pu_fn {k k' : Nat} {ps : List Str} {φ : Φ} {x : Str} {p : Pos} {t : UA} (F : Fn X.prog X.w X.K X.mg X.base x ps k φ) (hr : Room k' X.A) (hk : k ≤ k') (hg : Gl X x) (ha : PUA X (e :: es) t) (hdb : (x == ("__debug__" : Str)) = false := by decide)
    (he : starEach (e :: es) X.env = (false, eval e X.env) :: starEach es X.env := by rfl) (hpl : (backTo pos (starEach es X.env)).any (·.1) = false := by rfl) : PU X (.Call (.Name x p) (e :: es) [] pos) (uCall φ t) := by
  obtain ⟨f, fd, G, b, kp, m⟩ := F.ex
  exact pu_call (E := E0) G (hr.mono hk) hg m kp b (fun _ _ _ _ _ _ _ h => h.elim) ha hdb he hpl
theorem pu_fn0 {k k' : Nat} {ps : List Str} {φ : Φ} {x : Str} {p : Pos} (F : Fn X.prog X.w X.K X.mg X.base x ps k φ) (hr : Room k' X.A) (hk : k ≤ k') (hg : Gl X x) (hdb : (x == ("__debug__" : Str)) = false := by decide) : PU X (.Call (.Name x p) [] [] pos) (uCall φ uNil) := by
  obtain ⟨f, fd, G, b, kp, m⟩ := F.ex
  exact pu_call0 (E := E0) G (hr.mono hk) hg m kp b (fun _ _ _ _ _ _ _ h => h.elim) hdb
theorem il {n i : Nat} (hn : X.N.length = n) (h : i < n) : ∀ pins σ H s, Inv X pins σ H s → i < σ.length := fun _ _ _ _ I => by rw [I.len, hn]; exact h
end
theorem Fn.mk' {P : Program} {w : World} {K : PySem.W.Frag} {mg : Str → Option Value} {base : Heap} {x qual : Str} {st : Stmt} {f : Addr} {fd : FuncData} {N ps : List Str} {k : Nat} {φ : Φ} (F : Fun K x qual st f fd) (m : mg x = some (.ref f)) (b : Binds K fd ps []) (S : FnScope N ps (defScope st))
    (len : ∀ ds Q, φ ds Q → ds.length = ps.length) {t : US}
    (der : ∀ (cdv : Value) (A : Around) (outer : List Env) (s : Shared) (H : Hp) (E : XK), Room k (A.deeper (envOfC qual (defScope st) s.heap.objs.size f cdv)) → PUSs (cxOf CX0 P w K mg base N qual (defScope st) f cdv A outer s H E).nox (defBody st) t)
    (rd : ∀ ds Q, φ ds Q → t { nx := fun _ => Q (.pu .non), rt := Q } (init N ds)) : Fn P w K mg base x ps (k + 1) φ :=
  ⟨f, fd, fn_pure F S len fun cdv A outer s H E hr => ⟨t, der cdv A outer s H E hr, rd⟩, b, F.kp, m⟩
def φLaw : Φ := fun ds Q => ∃ ns : List Int, ds = [.rol (ns.map .int)] ∧ ns.length ≤ 63 ∧ Q (.pu (.bl true))
theorem repL_ints {K : PySem.W.Frag} {A : AS} {H : Hp} : ∀ ns : List Int, RepL K A H (ns.map .int) (ns.map V.int)
  | [] => .nil
  | n :: ns => .cons (by simp only [Rep]) (repL_ints ns)
theorem law_sp {K : PySem.W.Frag} {H : Hp} {a : Addr} {ns : List Int} (hl : ns.length ≤ 63) (hS : SqL K H a (ns.map V.int)) : spP K φLaw [.ref a] H (fun v _ => v = .bl true) (fun _ _ _ => False) := by
  refine ⟨fun _ => False, [.rol (ns.map .int)], fun b => b = .pu (.bl true), fun _ z => z.elim, .cons ?_ .nil, ⟨ns, rfl, hl, rfl⟩, fun b v H' q s r => ?_⟩
  · simp only [Rep]
    exact ⟨a, _, rfl, hS.imp (fun z => ⟨fun z => z, z⟩) id, repL_ints ns⟩
  · subst q
    have r' : Rep K (fun _ => False) H' (.bl true) v := r
    exact rep_blv r'
theorem walkM {l : PySem.W.OpenLaw} {k : Nat} {x : Str} {q : Program} {loose : List Str} {XP : (Str → Option Value) → Heap → Prop} {YP : World → Heap → Prop} {d : DefRec} {K : Params → PySem.W.Frag} (hn : l.most = some 63) (hdf : d.params.defaults = []) (hr : Room k callerA)
    (hY : ∀ (w : World) (h : Heap), YP w h → (K w.params).In h)
    (F : ∀ (w : World) (mg : Str → Option Value) (fa : Addr) (h : Heap), (K w.params).In h → h.Ns mainGlobals mg → mg d.name = some (.ref fa) →
      ∃ fd : FuncData, (∀ (s : Shared) (u : Value), BindsTo s fd ⟨[u], []⟩ [(x, u)]) ∧ ∀ base : Heap, (K w.params).In base → base.Ns mainGlobals mg → FnOk l.prog w (K w.params) mg base CX0 k fa fd [x] (spP (K w.params) φLaw)) :
    PySem.W.WalkO q loose XP YP l.row.toRowW d [] (fun f vs => PySem.call f vs) :=
  L2.walk_of (n := 63) (k := k) (x := x) (CX := fun _ => CX0) (sp := fun w => spP (K w.params) φLaw) hn (by decide) hdf hr hY F (fun _ _ a ns hl _ hS => law_sp hl hS) fun _ _ _ _ _ z => z
end M
end
section
set_option Elab.async false
set_option linter.all false
set_option maxRecDepth 100000
namespace L2
open PySem PySem.Spec PyProof.Rows
def blockCx (X : Cx) (N : List Str) (scope : Scope) (cl : List (Str × Addr)) (C : Addr) (s : Shared) (H : Hp) (fp : List Addr) (pins : List (Addr × Obj)) : Cx where
  prog := X.prog
  w := X.w
  K := X.K
  mg := X.mg
  base := X.base
  A := X.A
  N := N
  s₀ := s
  H₀ := H
  env := compEnvC scope cl C X.env
  outer := X.stack
  stack := X.stack
  ex := fp
  fn := fun x => scope.names.lookup x == some .cell
  calm := X.calm
  pn := X.pn ++ pins
  xe := fun _ _ => False
theorem closure_some {env : Env} : ∀ (names : List (Str × NameKind)), (∀ y ∈ names, y.2 = .free → ∃ c, env.cells.lookup y.1 = some c) → ∀ cs : List (Str × Addr), (∀ x c, cs.lookup x = some c → env.cells.lookup x = some c) →
    ∃ cl, (forIn names cs fun (x : Str × NameKind) r => (do if (x.2 == NameKind.free) = true then do let c ← cellOf env x.1; pure (ForInStep.yield ((x.1, c) :: r)) else pure (ForInStep.yield r)) : Sem (List (Str × Addr))) = pure cl ∧
      (∀ x c, cl.lookup x = some c → env.cells.lookup x = some c) ∧ (∀ x c, cs.lookup x = some c → ∃ c', cl.lookup x = some c') ∧ ∀ y ∈ names, y.2 = .free → ∃ c, cl.lookup y.1 = some c
  | [], _, cs, hcs => ⟨cs, rfl, hcs, fun x c h => ⟨c, h⟩, fun y hy => by simp at hy⟩
  | (n, k) :: r, h, cs, hcs => by
    have hr : ∀ y ∈ r, y.2 = .free → ∃ c, env.cells.lookup y.1 = some c := fun y hy => h y (List.mem_cons_of_mem _ hy)
    by_cases hk : k = .free
    · subst hk
      obtain ⟨c, hc⟩ := h (n, .free) List.mem_cons_self rfl
      have e1 : cellOf env n = pure c := by unfold cellOf; rw [hc]
      have hcs' : ∀ x c', List.lookup x ((n, c) :: cs) = some c' → env.cells.lookup x = some c' := fun x c' q => by
        rw [List.lookup_cons] at q
        split at q
        · rename_i e
          have : x = n := by simpa using e
          subst this
          cases q; exact hc
        · exact hcs x c' q
      obtain ⟨cl, h1, h2, h3, h4⟩ := closure_some r hr ((n, c) :: cs) hcs'
      have hn : ∃ c', cl.lookup n = some c' := h3 n c (by rw [List.lookup_cons]; simp)
      refine ⟨cl, ?_, h2, fun x c' q => ?_, fun y hy hf => ?_⟩
      · rw [List.forIn_cons]
        show (do let c ← cellOf env n; pure (ForInStep.yield ((n, c) :: cs))) >>= _ = _
        rw [e1]
        exact h1
      · by_cases z : x = n
        · subst z; exact hn
        · refine h3 x c' ?_
          rw [List.lookup_cons]
          have : (x == n) = false := by simpa using z
          rw [this]; exact q
      · rcases List.mem_cons.mp hy with rfl | hy
        · exact hn
        · exact h4 y hy hf
    · obtain ⟨cl, h1, h2, h3, h4⟩ := closure_some r hr cs hcs
      refine ⟨cl, ?_, h2, h3, fun y hy hf => ?_⟩
      · rw [List.forIn_cons]
        have : (k == NameKind.free) = false := by simpa using hk
        show (if (k == NameKind.free) = true then _ else _) >>= _ = _
        rw [this]
        exact h1
      · rcases List.mem_cons.mp hy with rfl | hy
        · exact absurd hf hk
        · exact h4 y hy hf
structure BlockScope (env : Env) (XN N : List Str) (cap : List (Option Nat)) (scope : Scope) : Prop where
  kind : scope.kind = .function
  owns : ∀ y ∈ scope.names, y.2 = .cell → scope.names.lookup y.1 = some .cell
  freeK : ∀ y ∈ scope.names, y.2 = .free → scope.names.lookup y.1 = some .free
  names : ∀ y ∈ scope.names, y.2 = .local → scope.names.lookup y.1 = some .local
  frees : ∀ y ∈ scope.names, y.2 = .free → env.kindOf y.1 = some .cell ∨ env.kindOf y.1 = some .free
  caps : ∀ (i j : Nat) (x : Str), N[i]? = some x → cap[i]? = some (some j) → XN[j]? = some x ∧ (x, NameKind.free) ∈ scope.names ∧ scope.names.lookup x = some .free
  len : cap.length = N.length
def capSt (σ : L2.St) (cap : List (Option Nat)) (last : Nat) (D : Addr) : L2.St := (cap.map fun c => c.bind fun j => (σ[j]?).join).set last (some (.ref D))
theorem relabel_lookup {env : Env} {x : Str} {k : NameKind} : ∀ {names : List (Str × NameKind)}, names.lookup x = some k →
    (names.map fun (n, k) => if (k == NameKind.free && env.scope.kind == .function && env.kindOf n == some .cell) then (n, NameKind.cell) else (n, k)).lookup x =
      some (if (k == NameKind.free && env.scope.kind == .function && env.kindOf x == some .cell) then NameKind.cell else k)
  | [], h => by simp at h
  | (n, k') :: r, h => by
    rw [List.map_cons]
    rw [List.lookup_cons] at h
    dsimp only
    by_cases e : (x == n) = true
    · have e' : x = n := by simpa using e
      subst e'
      rw [e] at h
      cases h
      split <;> simp
    · have e2 : (x == n) = false := by simpa using e
      rw [e2] at h
      have ih := relabel_lookup (env := env) h
      split
      · rw [List.lookup_cons, e2]; exact ih
      · rw [List.lookup_cons, e2]; exact ih
theorem relabel_back {env : Env} {x : Str} {k : NameKind} : ∀ {names : List (Str × NameKind)}, (names.map fun (n, k) => if (k == NameKind.free && env.scope.kind == .function && env.kindOf n == some .cell) then (n, NameKind.cell) else (n, k)).lookup x = some k →
    ∃ k', names.lookup x = some k' ∧ (x, k') ∈ names ∧ (k = k' ∨ k' = .free)
  | [], h => by simp at h
  | (n, k') :: r, h => by
    rw [List.map_cons] at h
    dsimp only at h
    by_cases e : (x == n) = true
    · have e' : x = n := by simpa using e
      subst e'
      refine ⟨k', by rw [List.lookup_cons, e], List.mem_cons_self, ?_⟩
      split at h
      · rename_i c
        right
        simp only [Bool.and_eq_true, beq_iff_eq] at c
        exact c.1.1
      · rw [List.lookup_cons, e] at h
        cases h; exact .inl rfl
    · have e2 : (x == n) = false := by simpa using e
      have h' : (r.map fun (n, k) => if (k == NameKind.free && env.scope.kind == .function && env.kindOf n == some .cell) then (n, NameKind.cell) else (n, k)).lookup x = some k := by
        split at h
        · rw [List.lookup_cons, e2] at h; exact h
        · rw [List.lookup_cons, e2] at h; exact h
      obtain ⟨k2, h1, h2, h3⟩ := relabel_back h'
      exact ⟨k2, by rw [List.lookup_cons, e2]; exact h1, List.mem_cons_of_mem _ h2, h3⟩
theorem cells_src {x : Str} {c : Addr} : ∀ (names : List (Str × NameKind)) (h : Heap) (acc : List (Str × Addr)), (cellsFrom h.objs.size names acc).lookup x = some c →
    acc.lookup x = some c ∨ (h.objs.size ≤ c ∧ (x, NameKind.cell) ∈ names ∧ (pushCells h names).IsCell c none)
  | [], _, _, e => .inl e
  | (y, k) :: r, h, acc, e => by
    unfold cellsFrom at e
    unfold pushCells
    by_cases hk : (k == NameKind.cell) = true
    · rw [if_pos hk] at e ⊢
      have hk' : k = .cell := by simpa using hk
      have sz : (h.push { cls := .type "cell", data := .cell none }).objs.size = h.objs.size + 1 := Heap.size_push ..
      rw [← sz] at e
      rcases cells_src r _ _ e with q | ⟨q1, q2, q3⟩
      · rw [List.lookup_cons] at q
        split at q
        · rename_i e1
          have : x = y := by simpa using e1
          subst this
          cases q
          exact .inr ⟨Nat.le_refl _, by rw [hk']; exact List.mem_cons_self, ⟨_, pushCells_keeps _ _ _ _ (Heap.get?_push_size _ rfl), rfl⟩⟩
        · exact .inl q
      · exact .inr ⟨by omega, List.mem_cons_of_mem _ q2, q3⟩
    · rw [if_neg hk] at e ⊢
      rcases cells_src r h acc e with q | ⟨q1, q2, q3⟩
      · exact .inl q
      · exact .inr ⟨q1, List.mem_cons_of_mem _ q2, q3⟩
theorem cells_inj : ∀ (names : List (Str × NameKind)) (n : Nat) (acc : List (Str × Addr)), (∀ x c, acc.lookup x = some c → c < n) → (∀ x y c, acc.lookup x = some c → acc.lookup y = some c → x = y) →
    ∀ x y c, (cellsFrom n names acc).lookup x = some c → (cellsFrom n names acc).lookup y = some c → x = y
  | [], _, _, _, hi => hi
  | (z, k) :: r, n, acc, hl, hi => by
    unfold cellsFrom
    by_cases hk : (k == NameKind.cell) = true
    · rw [if_pos hk]
      refine cells_inj r (n + 1) _ (fun x c e => ?_) (fun x y c e1 e2 => ?_)
      · rw [List.lookup_cons] at e
        split at e
        · cases e; exact Nat.lt_succ_self n
        · exact Nat.lt_succ_of_lt (hl x c e)
      · rw [List.lookup_cons] at e1 e2
        split at e1
        · rename_i q1
          cases e1
          split at e2
          · rename_i q2
            exact (by simpa using q1 : x = z).trans (by simpa using q2 : y = z).symm
          · exact absurd (hl y _ e2) (Nat.lt_irrefl _)
        · split at e2
          · cases e2
            exact absurd (hl x _ e1) (Nat.lt_irrefl _)
          · exact hi x y c e1 e2
    · rw [if_neg hk]
      exact cells_inj r n acc hl hi
theorem cells_own {x : Str} {c : Addr} : ∀ (names : List (Str × NameKind)) (n : Nat) (acc : List (Str × Addr)), ((x, NameKind.cell) ∈ names ∨ ∀ c, acc.lookup x = some c → n ≤ c) → (cellsFrom n names acc).lookup x = some c → n ≤ c
  | [], _, _, h, e => by
    rcases h with h | h
    · simp at h
    · exact h c e
  | (z, k) :: r, n, acc, h, e => by
    unfold cellsFrom at e
    by_cases hk : (k == NameKind.cell) = true
    · rw [if_pos hk] at e
      have hk' : k = .cell := by simpa using hk
      rcases h with h | h
      · rcases List.mem_cons.mp h with h | h
        · cases h
          have : n ≤ c := by
            by_cases q : ∃ c', (cellsFrom (n + 1) r ((x, n) :: acc)).lookup x = some c' ∧ (x, NameKind.cell) ∈ r
            · obtain ⟨c', e', m⟩ := q
              have := cells_own (c := c) r (n + 1) _ (.inl m) e
              omega
            · have nm : (x, NameKind.cell) ∉ r := fun m => q ⟨c, e, m⟩
              have := cells_keep r (n + 1) ((x, n) :: acc) nm
              rw [this, List.lookup_cons] at e
              simp at e
              exact Nat.le_of_eq e
          exact this
        · have := cells_own (c := c) r (n + 1) _ (.inl h) e
          omega
      · by_cases q : (x, NameKind.cell) ∈ r
        · have := cells_own (c := c) r (n + 1) _ (.inl q) e
          omega
        · have := cells_keep r (n + 1) ((z, n) :: acc) q
          rw [this, List.lookup_cons] at e
          split at e
          · cases e; exact Nat.le_refl _
          · exact h c e
    · rw [if_neg hk] at e
      refine cells_own (c := c) r n acc (h.imp (fun m => ?_) id) e
      rcases List.mem_cons.mp m with m | m
      · cases m; exact absurd (by decide) hk
      · exact m
where
  cells_keep {x : Str} : ∀ (names : List (Str × NameKind)) (n : Nat) (acc : List (Str × Addr)), (x, NameKind.cell) ∉ names → (cellsFrom n names acc).lookup x = acc.lookup x
  | [], _, _, _ => rfl
  | (z, k) :: r, n, acc, h => by
    unfold cellsFrom
    by_cases hk : (k == NameKind.cell) = true
    · rw [if_pos hk]
      have hk' : k = .cell := by simpa using hk
      rw [cells_keep r (n + 1) _ fun m => h (List.mem_cons_of_mem _ m), List.lookup_cons]
      split
      · rename_i e
        have : x = z := by simpa using e
        subst this
        exact absurd (by rw [hk']; exact List.mem_cons_self) h
      · rfl
    · rw [if_neg hk]
      exact cells_keep r n acc fun m => h (List.mem_cons_of_mem _ m)
theorem cells_keep {x : Str} (names : List (Str × NameKind)) (n : Nat) (acc : List (Str × Addr)) (h : (x, NameKind.cell) ∉ names) : (cellsFrom n names acc).lookup x = acc.lookup x := cells_own.cells_keep names n acc h
theorem newEnv_block {M : Model} {A : Around} {E : Value → Shared → Prop} {s : Shared} {scope : Scope} {globals : Addr} {cl : List (Str × Addr)} {qual : Str} {env0 : Env} {Q : Env → Shared → Prop}
    (hQ : Q { scope := scope, locals := s.heap.objs.size, globals := globals, cells := cellsFrom (s.heap.objs.size + 1) scope.names cl, qual := qual, func := none, code := env0.code, frame := env0.frame, builtins := env0.builtins } { s with heap := pushCells (s.heap.push { cls := .type "dict", data := .dict #[] }) scope.names }) :
    wpAny M A (newFunctionEnv scope globals cl [] qual none .none (some env0)) Q E s := by
  simp only [newFunctionEnv, Option.isSome_some, if_true]
  refine wpAny_bind (wpAny_alloc ?_)
  refine wpAny_bind (wpAny_layCells _ (fun name kind cells => by cases hkc : kind == NameKind.cell <;> simp [hkc]) _ _ _ _ ?_)
  rw [show ({ s with heap := s.heap.push { cls := .type "dict", data := .dict #[] } } : Shared).heap.objs.size = s.heap.objs.size + 1 from Heap.size_push ..]
  rw [List.forIn_nil]
  exact wpAny_bind (wpAny_pure (wpAny_pure hQ))
section
variable {X : Cx} {pins : List (Addr × Obj)} {σ : L2.St} {H : Hp} {s : Shared} {N : List Str} {cap : List (Option Nat)} {scope : Scope}
theorem block_start {fp : List Addr} {last : Nat} {D : Addr} {cl0 cl : List (Str × Addr)} {h1 : Heap} {m0 : Str → Option Value} {tk : Nat} (S : BlockScope X.env X.N N cap scope) (I : Inv X pins σ H s) (hf : ∀ b ∈ fp, FpOk X pins H b) (hfs : ∀ b ∈ fp, b < s.heap.objs.size)
    (hcl : ∀ x c, cl0.lookup x = some c → X.env.cells.lookup x = some c) (hcl2 : ∀ y ∈ scope.names, y.2 = .free → ∃ c, cl0.lookup y.1 = some c) (hN : ∀ x, N[last]? = some x → scope.names.lookup x = none)
    (hns : h1.Ns s.heap.objs.size m0) (hk : ∀ b o, s.heap.get? b = some o → h1.get? b = some o)
    (c1 : ∀ x c, cl.lookup x = some c → cl0.lookup x = some c ∨ (s.heap.objs.size < c ∧ h1.IsCell c none)) (c2 : ∀ x y c, cl.lookup x = some c → cl.lookup y = some c → x = y)
    (c3 : ∀ x, (x, NameKind.free) ∈ scope.names → cl.lookup x = cl0.lookup x) (c4 : ∀ x, scope.names.lookup x = some .cell → ∃ c, cl.lookup x = some c) (c5 : ∀ x c, scope.names.lookup x = some .cell → cl.lookup x = some c → s.heap.objs.size ≤ c) :
    Inv (blockCx X N scope cl s.heap.objs.size s H fp pins) [] (capSt σ cap last D) H { s with heap := h1, toks := tk } := by
  have sz : X.base.objs.size ≤ s.heap.objs.size := Nat.le_trans I.ok.bsz I.sz
  have kindF : ∀ x, (blockCx X N scope cl s.heap.objs.size s H fp pins).env.kindOf x = some .cell ∨ (blockCx X N scope cl s.heap.objs.size s H fp pins).env.kindOf x = some .free → (x, NameKind.free) ∈ scope.names ∨ scope.names.lookup x = some .cell := fun x h => by
    have : ∃ k, (k = .cell ∨ k = .free) ∧ (relabel scope X.env).names.lookup x = some k := by
      rcases h with h | h
      · exact ⟨_, .inl rfl, h⟩
      · exact ⟨_, .inr rfl, h⟩
    obtain ⟨k, hk, h⟩ := this
    obtain ⟨k', h1, h2, h3⟩ := relabel_back h
    rcases h3 with rfl | rfl
    · rcases hk with rfl | rfl
      · exact .inr (S.owns _ h2 rfl)
      · exact .inl h2
    · exact .inl h2
  have cne : ∀ x c, cl.lookup x = some c → ∀ b ∈ fp, c ≠ b := fun x c h b hb => by
    rcases c1 x c h with q | ⟨q, _⟩
    · exact (hf b hb).2.2.2.2.1 x c (hcl x c q)
    · exact fun z => by subst z; exact absurd (Nat.lt_trans q (hfs c hb)) (Nat.lt_irrefl _)
  refine ⟨⟨I.ok.mod, S.kind, I.ok.glob, I.ok.blt, Nat.le_refl _, c2, fun x h => ?_, fun x c h e => ?_, I.ok.hd, I.ok.frames, .inl rfl, fun b hb => ?_, I.bs, sz, fun b o e hb => ?_, fun b hb => ?_, I.stack, I.stkFree⟩,
    rfl, I.bare, Un.kept hk, ⟨m0, hns, fun i x v e1 e2 e3 => ?_⟩, fun x c h => ?_, I.hok.fresh (Nat.le_refl _), fun x c h => ?_, fun p hp => ?_, I.hok.kept hk, ?_⟩
  · rcases kindF x h with q | q
    · obtain ⟨c, e⟩ := hcl2 _ q rfl
      exact ⟨c, (c3 x q).trans e⟩
    · exact c4 x q
  · exact c5 x c (by simpa using (show (scope.names.lookup x == some NameKind.cell) = true from h)) e
  · exact ⟨Nat.ne_of_lt (hfs b hb), fun x c h => cne x c h b hb⟩
  · rcases (hf b hb).2.2.2.1 with z | z
    · exact I.ok.noex b o e z
    · have := Heap.lt_size e
      exact absurd (Nat.lt_of_lt_of_le this (Nat.le_trans I.ok.bsz z)) (Nat.lt_irrefl _)
  · intro z
    rcases List.mem_cons.mp (I.stkSub b z) with z | z
    · exact (hf b hb).2.1 z
    · exact (hf b hb).2.2.1 z
  · have e1' : N[i]? = some x := e1
    unfold capSt at e2
    by_cases hl : last = i
    · subst hl
      have z := hN x e1'
      rcases e3 with e3 | e3 | e3
      · obtain ⟨k', h1, _⟩ := relabel_back (show (relabel scope X.env).names.lookup x = _ from e3)
        rw [z] at h1; cases h1
      · obtain ⟨k', h1, _⟩ := relabel_back (show (relabel scope X.env).names.lookup x = _ from e3)
        rw [z] at h1; cases h1
      · obtain ⟨k', h1, _⟩ := relabel_back (show (relabel scope X.env).names.lookup x = _ from e3)
        rw [z] at h1; cases h1
    · rw [M.get_set_ne hl, List.getElem?_map] at e2
      cases e4 : cap[i]? with
      | none => rw [e4] at e2; cases e2
      | some c =>
        rw [e4] at e2
        cases c with
        | none => cases e2
        | some j =>
          have e2' : (σ[j]?).join = some v := by simpa using e2
          have e5 : σ[j]? = some (some v) := by
            cases q : σ[j]? with
            | none => rw [q] at e2'; cases e2'
            | some w => rw [q] at e2'; cases w with
              | none => cases e2'
              | some w' => cases e2'; rfl
          obtain ⟨a1, a2, a3⟩ := S.caps i j x e1' e4
          have kx := S.frees _ a2 rfl
          obtain ⟨m, hn, hl'⟩ := I.loc
          have vis : Vis X.env.scope x := by
            rcases kx with kx | kx
            · exact .inr (.inl kx)
            · exact .inr (.inr kx)
          obtain ⟨u, r, l⟩ := hl' j x v a1 e5 vis
          refine ⟨u, r, .inr ⟨?_, ?_⟩⟩
          · have q := relabel_lookup (env := X.env) a3
            show (relabel scope X.env).names.lookup x = _ ∨ (relabel scope X.env).names.lookup x = _
            unfold relabel
            dsimp only
            rw [q]
            split
            · exact .inl rfl
            · exact .inr rfl
          · rcases l with ⟨l, _⟩ | ⟨_, c, hc, hcell⟩
            · rcases kx with kx | kx <;> · rw [kx] at l; cases l
            · obtain ⟨c', hc'⟩ := hcl2 _ a2 rfl
              have := hcl x c' hc'
              rw [hc] at this; cases this
              obtain ⟨o, ho, hd⟩ := hcell
              exact ⟨c, (c3 x a2).trans hc', o, hk _ _ ho, hd⟩
  · rcases c1 x c h with q | ⟨_, q⟩
    · obtain ⟨v, o, ho, hd⟩ := I.cell x c (hcl x c q)
      exact ⟨v, o, hk _ _ ho, hd⟩
    · exact ⟨_, q⟩
  · rcases c1 x c h with q | ⟨q, _⟩
    · exact I.freeC x c (hcl x c q)
    · exact I.hok.fresh (Nat.le_of_lt q)
  · have hp' : p ∈ X.pn ++ pins := by
      have : p ∈ (X.pn ++ pins) ++ [] := hp
      simpa using this
    obtain ⟨a1, a2, a3, a4, a5⟩ := I.pin p hp'
    refine ⟨hk _ _ a1, a2, Nat.ne_of_lt (Heap.lt_size a1), fun z => ?_, a5⟩
    rcases List.mem_cons.mp (I.stkSub p.1 z) with z | z
    · exact a3 z
    · exact a4 z
  · unfold capSt
    rw [List.length_set, List.length_map]
    exact S.len
theorem block_end {fp : List Addr} {cl : List (Str × Addr)} {C : Addr} {σ' : L2.St} {H' : Hp} {s' : Shared} {h2 : Heap} {pins' : List (Addr × Obj)} (I : Inv X pins σ H s) (hf : ∀ b ∈ fp, FpOk X pins H b) (hC : s.heap.objs.size ≤ C)
    (I' : Inv (blockCx X N scope cl C s H fp pins) pins' σ' H' s') (hs : Heap.SameBut C s'.heap h2) : Inv X pins σ H' { s' with heap := h2 } := by
  have nC : ∀ b o, s.heap.get? b = some o → b ≠ C := fun b o e z => by
    subst z
    exact absurd (Nat.lt_of_lt_of_le (Heap.lt_size e) hC) (Nat.lt_irrefl _)
  have get : ∀ b, b ≠ C → h2.get? b = s'.heap.get? b := fun b hb => hs.2 b hb
  have U := I'.base
  have u : Un (frs X.stack) fp H H' s.heap h2 := by
    refine ⟨fun b o e n h1 hx => ?_, fun b o e n h1 hx => ?_, U.free, fun b o e hx => ?_, U.tups, U.frzs, U.tbls⟩
    · rw [get b (nC b o e)]; exact U.keep b o e n h1 hx
    · rw [get b (nC b o e)]; exact U.slot b o e n h1 hx
    · rw [get b (nC b o e)]; exact U.there b o e hx
  have fC : H' C = none := I'.free
  have hok : HOk X.prog X.w H' h2 := fun a o e => by
    have na : a ≠ C := fun z => by subst z; rw [fC] at e; cases e
    refine (I'.hok a o e).stay (fun b u hb q => ?_) (fun _ q => q) fun _ _ q => q
    have nb : b ≠ C := by
      rcases hb with rfl | hb
      · exact na
      · exact fun z => by subst z; rw [fC] at hb; cases hb
    rw [get b nb]; exact q
  obtain ⟨hh, gg, dd, tt, oo⟩ := s'
  have eo : oo = s.os := I'.os
  subst eo
  have fin := I.call (h' := h2) (g' := gg) (d' := dd) (t' := tt) (ch := fp) u hok I'.bare fun b hb => ⟨(hf b hb).2.2.2.1, (hf b hb).2.1, (hf b hb).2.2.2.2.1, (hf b hb).2.2.2.2.2⟩
  exact fin
end
theorem codeAny_compLoop_any {prog : Program} {w : World} {A : Around} {R : Result → Shared → Prop} {s : Shared} {elt target iter : Expr} {ifs : List Expr} {scope : Scope} {pos : Pos} {it acc : Value} {env : Env} (I : Nat → Shared → Prop)
    (turn : ∀ n s, I n s → wpAny (model prog w) A (pyNext it) (fun r s₁ => match r with
      | none => R (.ok .next) s₁
      | some v => wpAny (model prog w) A (letOwnedTupleGo target it v) (fun _ s₂ => wpAny (model prog w) A (assign target env v) (fun _ s₂ =>
          wpAny (model prog w) A (forIn ifs true fun c r => if r = true then do let ok ← isTrue c env (eval c env); pure (ForInStep.yield ok) else pure (ForInStep.yield r)) (fun ok s₃ =>
            if ok = true then wpAny (model prog w) A (eval elt env) (fun x s₄ =>
              wpAny (model prog w) A (call (.builtin "list.append") [acc, x]) (fun _ s₅ => ∃ m, m < n ∧ I m s₅) (notedBy (model prog w) A env fun e s' => R (.error e) s') s₄) (notedBy (model prog w) A env fun e s' => R (.error e) s') s₃
            else ∃ m, m < n ∧ I m s₃) (notedBy (model prog w) A env fun e s' => R (.error e) s') s₂) (notedBy (model prog w) A env fun e s' => R (.error e) s') s₂) (notedBy (model prog w) A env fun e s' => R (.error e) s') s₁) (notedBy (model prog w) A env fun e s' => R (.error e) s') s)
    (n : Nat) (h : I n s) : codeAny (model prog w) A (.compLoop (.ListComp elt [⟨target, iter, ifs, 0⟩] scope pos) 0 it acc env) R s := by
  refine codeAny_loop rfl I (fun n s hI => ?_) n h
  show wpAny _ A ((compTurn (.ListComp elt [⟨target, iter, ifs, 0⟩] scope pos) 0 it acc env).onRaise (fun x => do noteFrame x env; theTreesLotGoes x)) _ _ s
  refine wpAny_noted ?_
  rw [compTurn_list]
  refine wpAny_bind (wpAny_standAt (wpAny_bind (wpAny_mono (turn n s hI) (fun r s₁ h₁ => ?_) fun _ _ h' => h')))
  cases r with
  | none => exact wpAny_pure h₁
  | some v =>
    refine wpAny_bind (wpAny_mono h₁ (fun _ s₂ h₂ => wpAny_bind (wpAny_mono h₂ (fun _ s₂ h₂ => wpAny_bind (wpAny_mono h₂ (fun ok s₃ h₃ => ?_) fun _ _ h' => h')) fun _ _ h' => h')) fun _ _ h' => h')
    cases ok with
    | false => exact wpAny_pure ⟨rfl, h₃⟩
    | true =>
      exact wpAny_bind (wpAny_bind (wpAny_mono h₃ (fun x s₄ h₄ => wpAny_bind (wpAny_mono h₄ (fun _ s₅ h₅ => wpAny_pure (wpAny_pure ⟨rfl, h₅⟩)) fun _ _ h' => h')) fun _ _ h' => h'))
def PTs (X : Cx) (ifs : List Expr) (t : TT) : Prop :=
  ∀ (pins : List (Addr × Obj)) (s : Shared) (σ : L2.St) (H : Hp) (Q : Bool → Hp → Prop), Inv X pins σ H s → t σ H Q →
    wpAny (model X.prog X.w) X.A (forIn ifs true fun c r => if r = true then do let ok ← isTrue c X.env (eval c X.env); pure (ForInStep.yield ok) else pure (ForInStep.yield r)) (TP X pins σ Q) X.xe s
theorem pts_nil {X : Cx} : PTs X [] (fun _ H Q => Q true H) := fun pins s σ H Q I h => wpAny_tests_nil ⟨H, I, h⟩
theorem pts_one {X : Cx} {c : Expr} {t : TT} (h : PT X c t) : PTs X [c] t := fun pins s σ H Q I q => wpAny_tests_one (h pins s σ H Q I q)
def tComp (cap : List (Option Nat)) (last : Nat) (wi : TI) (g : TG) (tt : TT) (te : TE) : TE := fun σ H Q => wi σ H fun J H1 => ∀ D, H1 D = none → ∃ W : Nat → Nat → L2.St → Hp → Prop, (∃ m, W 0 m (capSt σ cap last D) (upd H1 D (.lst []))) ∧ ∀ i m σ' H', W i m σ' H' →
  (J.stop i H' ∧ Q (.ref D) H') ∨ (J.go i H' ∧ ∃ Nx : L2.St → Hp → Prop, (∀ σ2 H2, Nx σ2 H2 → ∃ m', m' < m ∧ W (i + 1) m' σ2 H2) ∧ ∀ x H2, J.yld i H' x H2 → g x σ' H2 fun σ3 H3 => tt σ3 H3 fun c H4 =>
    if c = true then te σ3 H4 fun y H5 => ∃ ys, H5 D = some (.lst ys) ∧ ys.length < sizeLine ∧ Nx σ3 (upd H5 D (.lst (ys ++ [y]))) else Nx σ3 H4)
theorem comp_core {X : Cx} {RR : Value → Addr → Result → Shared → Prop} {elt iter tg : Expr} {ifs : List Expr} {scope : Scope} {pos : Pos} {N : List Str} {cap : List (Option Nat)} {last : Nat} {wi : TI} {g : TG} {tt : TT} {te : TE} (hc : X.calm = true) (hi : PI X tg iter wi) (S : BlockScope X.env X.N N cap scope)
    (hN : ∀ x, N[last]? = some x → scope.names.lookup x = none)
    (hg : ∀ cl C s H fp pins, PG (blockCx X N scope cl C s H fp pins) tg g) (ht : ∀ cl C s H fp pins, PTs (blockCx X N scope cl C s H fp pins) ifs tt) (he : ∀ cl C s H fp pins, PE (blockCx X N scope cl C s H fp pins) elt te)
    {pins : List (Addr × Obj)} {s : Shared} {σ : L2.St} {H : Hp} {Q : VK} {cl : List (Str × Addr)} (I : Inv X pins σ H s) (h : tComp cap last wi g tt te σ H Q) (hcl : ∀ x c, cl.lookup x = some c → X.env.cells.lookup x = some c) (hcl2 : ∀ y ∈ scope.names, y.2 = .free → ∃ c, cl.lookup y.1 = some c)
    (fin : ∀ (D : Addr) (fp : List Addr) (H3 : Hp) (s3 : Shared) (σ' : L2.St) (H' : Hp) (s' : Shared), Inv X pins σ H3 s3 → (∀ b ∈ fp, FpOk X pins H3 b) → Inv (blockCx X N scope (cellsFrom (s3.heap.objs.size + 1) scope.names cl) s3.heap.objs.size s3 H3 fp pins) [] σ' H' s' → Q (.ref D) H' → RR (.ref D) s3.heap.objs.size (.ok .next) s') :
    wpAny (model X.prog X.w) X.A (eval iter X.env) (fun x s₁ => wpAny (model X.prog X.w) X.A (pyIter x) (fun it s₂ => wpAny (model X.prog X.w) X.A (newList []) (fun acc s₃ =>
      wpAny (model X.prog X.w) X.A (newFunctionEnv scope X.env.globals cl [] X.env.qual none .none (some X.env)) (fun cenv s₄ =>
        codeAny (model X.prog X.w) X.A (.compStart (.ListComp elt [⟨tg, iter, ifs, 0⟩] scope pos) 0 it acc { cenv with scope := relabel scope X.env }) (RR acc cenv.locals) s₄) X.xe s₃) X.xe s₂) X.xe s₁) X.xe s := by
  refine thn (hi pins s σ H _ I h) fun xv s1 h1 => thn h1 fun it s2 h2 => ?_
  obtain ⟨ita, fp, tn, J, H2, rfl, I2, T, st2, f2, q⟩ := h2
  refine wpAny_newObj_type ?_ (by show 0 ≤ sizeLine; decide)
  have fD : H2 s2.heap.objs.size = none := I2.hok.fresh (Nat.le_refl _)
  obtain ⟨W, ⟨m0, w0⟩, turn⟩ := q s2.heap.objs.size fD
  have I3 : Inv X pins σ (upd H2 s2.heap.objs.size (.lst [])) { s2 with heap := s2.heap.push { cls := .type "list", data := .seq ([] : List Value).toArray } } := I2.lnew (t' := s2.toks) .nil (Nat.zero_le _)
  have fpne : ∀ b ∈ fp, b ≠ s2.heap.objs.size := fun b hb => by
    obtain ⟨o, ho, _⟩ := T.obj 0 _ st2 b hb
    exact Nat.ne_of_lt (Heap.lt_size ho)
  have f3 : ∀ b ∈ fp, FpOk X pins (upd H2 s2.heap.objs.size (.lst [])) b := fun b hb => ⟨by rw [upd_ne (fpne b hb)]; exact (f2 b hb).1, (f2 b hb).2⟩
  have k23 : ∀ b o, s2.heap.get? b = some o → (s2.heap.push { cls := .type "list", data := .seq ([] : List Value).toArray }).get? b = some o := fun b o e => Heap.get?_push_of_some _ e
  have st3 : tn 0 (s2.heap.push { cls := .type "list", data := .seq ([] : List Value).toArray }) := T.keep 0 _ _ st2 fun b hb o e => k23 b o e
  have fps : ∀ b ∈ fp, b < (s2.heap.push { cls := .type "list", data := .seq ([] : List Value).toArray }).objs.size := fun b hb => by
    obtain ⟨o, ho, _⟩ := T.obj 0 _ st3 b hb
    exact Heap.lt_size ho
  generalize hS3 : ({ s2 with heap := s2.heap.push { cls := .type "list", data := .seq ([] : List Value).toArray } } : Shared) = s3 at I3
  have hh3 : s3.heap = s2.heap.push { cls := .type "list", data := .seq ([] : List Value).toArray } := by rw [← hS3]
  rw [← hh3] at st3 fps
  refine newEnv_block ?_
  have sz3 : (s3.heap.push { cls := .type "dict", data := .dict #[] }).objs.size = s3.heap.objs.size + 1 := Heap.size_push ..
  have hns₁ : (pushCells (s3.heap.push { cls := .type "dict", data := .dict #[] }) scope.names).Ns s3.heap.objs.size (fun _ => none) := (Heap.Ns.new s3.heap (.type "dict")).keeps (pushCells_keeps _ _)
  have k34 : ∀ b o, s3.heap.get? b = some o → (pushCells (s3.heap.push { cls := .type "dict", data := .dict #[] }) scope.names).get? b = some o := fun b o e => pushCells_keeps _ _ _ _ (Heap.get?_push_of_some _ e)
  have I4 := block_start (tk := s3.toks) (last := last) (D := s2.heap.objs.size) (cl := cellsFrom (s3.heap.objs.size + 1) scope.names cl) S I3 f3 fps hcl hcl2 hN hns₁ k34
    (fun x c e => by
      rw [← sz3] at e
      rcases cells_src _ _ _ e with q | ⟨q1, _, q3⟩
      · exact .inl q
      · exact .inr ⟨by omega, q3⟩)
    (cells_inj _ _ _ (fun x c e => by
      obtain ⟨v, q⟩ := I3.cell x c (hcl x c e)
      exact Nat.lt_succ_of_lt q.lt) fun x y c e1 e2 => I3.ok.inj x y c (hcl x c e1) (hcl y c e2))
    (fun x m => cells_keep _ _ _ fun m' => by
      have h1 := S.owns _ m' rfl
      have h2 := S.freeK _ m rfl
      rw [h1] at h2; cases h2)
    (fun x e => Option.isSome_iff_exists.mp (PySem.W.cellsFrom_some _ _ _ (.inl e)))
    (fun x c e1 e2 => by
      have := cells_own scope.names (s3.heap.objs.size + 1) cl (.inl (PySem.mem_of_lookup e1)) e2
      omega)
  have st4 : tn 0 (pushCells (s3.heap.push { cls := .type "dict", data := .dict #[] }) scope.names) := T.keep 0 _ _ st3 fun b hb o e => k34 b o e
  generalize hcl' : cellsFrom (s3.heap.objs.size + 1) scope.names cl = cl' at I4
  -- the loop
  have loop : codeAny (model X.prog X.w) X.A (.compLoop (.ListComp elt [⟨tg, iter, ifs, 0⟩] scope pos) 0 (.ref ita) (.ref s2.heap.objs.size) (compEnvC scope cl' s3.heap.objs.size X.env))
      (RR (.ref s2.heap.objs.size) s3.heap.objs.size) { s3 with heap := pushCells (s3.heap.push { cls := .type "dict", data := .dict #[] }) scope.names, toks := s3.toks } := by
    have stat : ∀ {H' : Hp}, (∀ b ∈ fp, H' b = none) → ∀ b ∈ fp, FpOk (blockCx X N scope cl' s3.heap.objs.size s3 (upd H2 s2.heap.objs.size (.lst [])) fp pins) [] H' b := fun {H'} hn b hb => by
      refine ⟨hn b hb, Nat.ne_of_lt (fps b hb), fun z => ?_, .inl hb, fun x c e => (I4.ok.exf b hb).2 x c e, fun p hp => ?_⟩
      · rcases List.mem_cons.mp (I3.stkSub b z) with z | z
        · exact (f3 b hb).2.1 z
        · exact (f3 b hb).2.2.1 z
      · have : p ∈ (X.pn ++ pins) ++ [] := hp
        exact (f3 b hb).2.2.2.2.2 p (by simpa using this)
    have hcb : (blockCx X N scope cl' s3.heap.objs.size s3 (upd H2 s2.heap.objs.size (.lst [])) fp pins).calm = true := hc
    refine codeAny_compLoop_any (fun n s' => ∃ i σ' H', Inv (blockCx X N scope cl' s3.heap.objs.size s3 (upd H2 s2.heap.objs.size (.lst [])) fp pins) [] σ' H' s' ∧ tn i s'.heap ∧ (∀ b ∈ fp, H' b = none) ∧ W i n σ' H') ?_ m0 ⟨0, _, _, I4, st4, fun b hb => (f3 b hb).1, w0⟩
    rintro n s5 ⟨i, σ5, H5, I5, st5, fr5, w5⟩
    rcases turn i n σ5 H5 w5 with ⟨stop, qn⟩ | ⟨go, Nx, hNx, step⟩
    · refine wpAny_mono (T.done (blockCx X N scope cl' s3.heap.objs.size s3 (upd H2 s2.heap.objs.size (.lst [])) fp pins) rfl rfl rfl hcb i [] s5 σ5 H5 (fun _ _ => False) I5 (stat fr5) st5 stop) (fun r s6 hr => ?_) (fun _ _ z => z.elim)
      obtain ⟨rfl, I6⟩ := hr
      exact fin _ fp _ s3 σ5 H5 s6 I3 f3 (hcl' ▸ I6) qn
    · refine wpAny_mono (T.item (blockCx X N scope cl' s3.heap.objs.size s3 (upd H2 s2.heap.objs.size (.lst [])) fp pins) rfl rfl rfl hcb i [] s5 σ5 H5 (fun _ _ => False) I5 (stat fr5) st5 go) (fun r s6 hr => ?_) (fun _ _ z => z.elim)
      obtain ⟨u, rfl, h6⟩ := hr
      refine wpAny_mono h6 (fun _ s7 h7 => ?_) (fun _ _ z => z.elim)
      obtain ⟨x, H7, I7, r7, y7, st7, fr7⟩ := h7
      have I7' := I7.pinned (stat fr7) (T.obj _ _ st7)
      refine wpAny_mono (hg _ _ _ _ _ _ _ s7 σ5 H7 x u _ I7' r7 (step x H7 y7)) (fun _ s8 h8 => ?_) (fun _ _ z => False.elim z)
      obtain ⟨σ8, H8, I8, q8⟩ := h8
      have again : ∀ {σ9 : L2.St} {H9 : Hp} {s9 : Shared}, Inv (blockCx X N scope cl' s3.heap.objs.size s3 (upd H2 s2.heap.objs.size (.lst [])) fp pins) ([] ++ pinsAt fp s7.heap) σ9 H9 s9 → Nx σ9 H9 → ∃ m, m < n ∧ ∃ i σ' H', Inv (blockCx X N scope cl' s3.heap.objs.size s3 (upd H2 s2.heap.objs.size (.lst [])) fp pins) [] σ' H' s9 ∧ tn i s9.heap ∧ (∀ b ∈ fp, H' b = none) ∧ W i m σ' H' := fun {σ9 H9 s9} I9 n9 => by
        obtain ⟨m', hm, w9⟩ := hNx σ9 H9 n9
        refine ⟨m', hm, i + 1, σ9, H9, I9.unpinned, T.keep _ _ _ st7 fun b hb o e => (I9.pin (b, o) (List.mem_append_right _ (List.mem_append_right _ (mem_pinsAt hb e)))).1, fun b hb => ?_, w9⟩
        obtain ⟨o, e, d⟩ := T.obj _ _ st7 b hb
        exact (I9.pin (b, o) (List.mem_append_right _ (List.mem_append_right _ (mem_pinsAt hb e)))).2.1
      refine wpAny_mono (ht _ _ _ _ _ _ _ s8 σ8 H8 _ I8 q8) (fun c s9 h9 => ?_) (fun _ _ z => False.elim z)
      obtain ⟨H9, I9, q9⟩ := h9
      cases c with
      | false => exact again I9 q9
      | true =>
        rw [if_pos rfl] at q9 ⊢
        refine wpAny_mono (he _ _ _ _ _ _ _ s9 σ8 H9 _ I9 q9) (fun v s10 h10 => ?_) (fun _ _ z => False.elim z)
        obtain ⟨y, H10, I10, r10, ys, e10, z10, q10⟩ := h10
        refine wpAny_mono (mt_append (X := (blockCx X N scope cl' s3.heap.objs.size s3 (upd H2 s2.heap.objs.size (.lst [])) fp pins)) _ s10 σ8 H10 (.ref s2.heap.objs.size) [y] (.ref s2.heap.objs.size) [v] (fun v H => v = .non ∧ Nx σ8 H) I10 rfl (.cons r10 .nil) ⟨_, ys, y, rfl, rfl, e10, z10, rfl, q10⟩) (fun _ s11 h11 => ?_) (fun _ _ z => False.elim z)
        obtain ⟨_, H11, I11, _, _, q11⟩ := h11
        exact again I11 q11
  exact codeAny_compStart_list loop (T.self _ 0 _ _ _ st4 loop)
theorem block_closure {X : Cx} {N : List Str} {cap : List (Option Nat)} {scope : Scope} {pins : List (Addr × Obj)} {s : Shared} {σ : L2.St} {H : Hp} (S : BlockScope X.env X.N N cap scope) (I : Inv X pins σ H s) :
    ∃ cl, closureFor scope X.env = pure cl ∧ (∀ x c, cl.lookup x = some c → X.env.cells.lookup x = some c) ∧ ∀ y ∈ scope.names, y.2 = .free → ∃ c, cl.lookup y.1 = some c := by
  obtain ⟨cl, h1, h2, _, h4⟩ := closure_some (env := X.env) scope.names (fun y hy hf => I.ok.has y.1 (S.frees y hy hf)) [] (fun x c q => by simp at q)
  refine ⟨cl, ?_, h2, h4⟩
  have e : closureFor scope X.env = (forIn scope.names [] fun (x : Str × NameKind) r => (do if (x.2 == NameKind.free) = true then do let c ← cellOf X.env x.1; pure (ForInStep.yield ((x.1, c) :: r)) else pure (ForInStep.yield r)) : Sem (List (Str × Addr))) >>= fun r => pure r := by
    rfl
  rw [e, h1]
  rfl
theorem pe_comp {X : Cx} {elt iter tg : Expr} {ifs : List Expr} {scope : Scope} {pos : Pos} {N : List Str} {cap : List (Option Nat)} {last : Nat} {wi : TI} {g : TG} {tt : TT} {te : TE} (hc : X.calm = true) (hi : PI X tg iter wi) (S : BlockScope X.env X.N N cap scope)
    (hN : ∀ x, N[last]? = some x → scope.names.lookup x = none)
    (hg : ∀ cl C s H fp pins, PG (blockCx X N scope cl C s H fp pins) tg g) (ht : ∀ cl C s H fp pins, PTs (blockCx X N scope cl C s H fp pins) ifs tt) (he : ∀ cl C s H fp pins, PE (blockCx X N scope cl C s H fp pins) elt te)
    (hs : ∀ x, foldedSetIterable iter X.env x = pure x := by intro _; rfl) : PE X (.ListComp elt [⟨tg, iter, ifs, 0⟩] scope pos) (tComp cap last wi g tt te) := by
  intro pins s σ H Q I h
  rw [eval_ListComp]
  obtain ⟨cl, hcl0, hcl, hcl2⟩ := block_closure S I
  refine wpAny_comprehension_free (use := none) rfl hs hcl0 S.kind S.names ?_
  refine comp_core (RR := fun acc C => compPost (model X.prog X.w) X.A X.xe none (EP X pins σ Q) acc C) hc hi S hN hg ht he I h hcl hcl2 fun D fp H3 s3 σ' H' s' I3 f3 I' q => ?_
  obtain ⟨m6, hn6, _⟩ := I'.loc
  exact ⟨m6, hn6, fun h' hs' => ⟨.ref D, H', block_end I3 f3 (Nat.le_refl _) I' hs', rfl, q⟩⟩
end L2
namespace M
open PySem PySem.Spec PyProof.Rows L2
def lend : B → B
  | .pu d => .pu d
  | .ow l => .bo l
  | .bo l => .bo l
def capEv (ρ : Ev) (cap : List (Option Nat)) (last : Nat) : Ev := (cap.map fun c => c.bind fun j => ((ρ[j]?).join).map lend).set last (some (.ow []))
def frz1 (ρ : Ev) (j : Nat) : Ev := match ρ[j]? with
  | some (some (.ow l)) => ρ.set j (some (.pu (.lst l)))
  | _ => ρ
def frzL : Ev → List Nat → Ev
  | ρ, [] => ρ
  | ρ, j :: js => frzL (frz1 ρ j) js
theorem frz1_frz (ρ : Ev) (j : Nat) : Frz ρ (frz1 ρ j) := by
  unfold frz1
  split
  · rename_i l e
    exact .set e
  · exact .refl _
theorem frzL_frz : ∀ (js : List Nat) (ρ : Ev), Frz ρ (frzL ρ js)
  | [], ρ => .refl _
  | j :: js, ρ => (frz1_frz ρ j).trans (frzL_frz js _)
def uComp (js : List Nat) (cap : List (Option Nat)) (last : Nat) (ui : UI) (g : UG) (tt : UT) (te : UE) : UE := fun ρ Q => ui ρ fun n it ρ1 => ∃ Pv : Nat → Ev → Prop, Pv 0 (capEv (frzL ρ1 js) cap last) ∧
  (∀ i ρ', i < n → Pv i ρ' → g (.pu (it i)) ρ' fun ρ2 => tt ρ2 fun c ρ3 => if c = true then te ρ3 fun b ρ4 => ownAt ρ4 last fun l => l.length < sizeLine ∧ Pv (i + 1) (ρ4.set last (some (.ow (l ++ [b.d])))) else Pv (i + 1) ρ3) ∧
  ∀ ρ', Pv n ρ' → ownAt ρ' last fun l => Q (.ow l) (frzL ρ1 js)
section
variable {X : Cx} {K : PySem.W.Frag} {C : C0} {ρ ρ' : Ev} {σ σ' : L2.St} {H H' : Hp}
theorem cap_ok {cap : List (Option Nat)} {last : Nat} {Dn : Addr} (I : EOk K C ρ σ H) (hl : last < cap.length) (n : H Dn = none) :
    EOk K ⟨H, Av C ρ σ⟩ (capEv ρ cap last) (capSt σ cap last Dn) (upd H Dn (.lst [])) := by
  have pu : ∀ (i : Nat) (z : B), last ≠ i → (capEv ρ cap last)[i]? = some (some z) → ∃ (j : Nat) (z' : B), cap[i]? = some (some j) ∧ z = lend z' ∧ ρ[j]? = some (some z') := fun i z ne h => by
    unfold capEv at h
    rw [get_set_ne ne, List.getElem?_map] at h
    cases e4 : cap[i]? with
    | none => rw [e4] at h; cases h
    | some c =>
      rw [e4] at h
      cases c with
      | none => cases h
      | some j =>
        have h' : ((ρ[j]?).join).map lend = some z := by simpa using h
        cases q : ρ[j]? with
        | none => rw [q] at h'; cases h'
        | some w =>
          rw [q] at h'
          cases w with
          | none => cases h'
          | some w' => cases h'; exact ⟨j, w', rfl, rfl, q⟩
  have sgm : ∀ (i j : Nat) (v : V), last ≠ i → cap[i]? = some (some j) → σ[j]? = some (some v) → (capSt σ cap last Dn)[i]? = some (some v) := fun i j v e e1 h1 => by
    unfold capSt
    rw [get_set_ne e, List.getElem?_map, e1]
    show some ((σ[j]?).join) = _
    rw [h1]
    rfl
  have atl : (capEv ρ cap last)[last]? = some (some (.ow [])) := by
    unfold capEv
    exact get_set_eq (by rw [List.length_map]; exact hl)
  have sal : (capSt σ cap last Dn)[last]? = some (some (.ref Dn)) := by
    unfold capSt
    exact get_set_eq (by rw [List.length_map]; exact hl)
  have noOw : ∀ (i : Nat) (l : List D), last ≠ i → (capEv ρ cap last)[i]? ≠ some (some (.ow l)) := fun i l e h => by
    obtain ⟨j, z', _, z, _⟩ := pu i _ e h
    cases z' <;> cases z
  have own : ∀ a, Own (capEv ρ cap last) (capSt σ cap last Dn) a → a = Dn := fun a ⟨i, l, h1, h2⟩ => by
    by_cases e : last = i
    · subst e
      rw [sal] at h2; cases h2; rfl
    · exact absurd h1 (noOw i l e)
  have P : Pres (Av C ρ σ) H (Av ⟨H, Av C ρ σ⟩ (capEv ρ cap last) (capSt σ cap last Dn)) (upd H Dn (.lst [])) := fun b o nb e => by
    have ne : b ≠ Dn := fun z => by subst z; rw [n] at e; cases e
    refine ⟨?_, by rw [upd_ne ne]; exact e⟩
    rintro (z | z)
    · exact nb z
    · exact ne (own b z)
  refine ⟨by unfold capEv capSt; rw [List.length_set, List.length_set, List.length_map, List.length_map], fun i d h => ?_, fun i l h => ?_, fun i j l l' a h1 h2 h3 h4 => ?_, fun i l h => ?_, same_new n _, fun a z => I.avSome z⟩
  · by_cases e : last = i
    · subst e
      rw [atl] at h; cases h
    · obtain ⟨j, z', e1, z, e2⟩ := pu i _ e h
      cases z' with
      | pu d' =>
        cases z
        obtain ⟨v, h1, h2⟩ := I.pu j d e2
        exact ⟨v, sgm i j v e e1 h1, h2.mono P⟩
      | ow l => cases z
      | bo l => cases z
  · by_cases e : last = i
    · subst e
      rw [atl] at h; cases h
      exact ⟨Dn, [], sal, upd_same, n, .nil⟩
    · exact absurd h (noOw i l e)
  · have e1 : last = i := Decidable.byContradiction fun e => absurd h1 (noOw i l e)
    have e2 : last = j := Decidable.byContradiction fun e => absurd h2 (noOw j l' e)
    exact e1.symm.trans e2
  · by_cases e : last = i
    · subst e
      rw [atl] at h; cases h
    · obtain ⟨j, z', e1, z, e2⟩ := pu i _ e h
      cases z' with
      | pu d' => cases z
      | ow l' =>
        cases z
        obtain ⟨a, vs, h1, h2, h3, h4⟩ := I.ow j l e2
        exact ⟨a, vs, sgm i j _ e e1 h1, .inr ⟨j, l, e2, h1⟩, h2, h4.mono P⟩
      | bo l' =>
        cases z
        obtain ⟨a, vs, h1, h2, h3, h4⟩ := I.bo j l e2
        exact ⟨a, vs, sgm i j _ e e1 h1, .inl h2, I.ext _ _ h3, h4.mono P⟩
theorem lComp {js : List Nat} {cap : List (Option Nat)} {last : Nat} {ui : UI} {g : UG} {T : List Nat} {tt : UT} {te : UE} (hl : last < cap.length) (hT : last ∉ T) (σ : L2.St) (H : Hp) (Q : VK) (h : lE K (uComp js cap last ui g tt te) σ H Q) :
    tComp cap last (lI K ui) (lG K T g) (lT K tt) (lE K te) σ H Q := by
  obtain ⟨C, ρ, Q0, I, h, k⟩ := h
  refine ⟨C, ρ, _, I, h, fun n it ρ1 J H1 q f s ok Dn nD => ?_⟩
  obtain ⟨Pv, p0, turn, fin⟩ := q
  have fz := frzL_frz js ρ1
  have I1 : EOk K C (frzL ρ1 js) σ H1 := ((I.frz f).same s).frz fz
  generalize frzL ρ1 js = ρ2 at fz I1 p0 fin
  have P12 : ∀ {A' : AS} {H' : Hp}, Pres (Av C ρ2 σ) H1 A' H' → Pres (Av C ρ1 σ) H1 A' H' := fun p b o nb e => p b o (fun z => nb (fz.av z)) e
  have I2 := cap_ok I1 hl nD
  have own0 : ∀ {ρ' : Ev} {σ' : L2.St} {H' : Hp}, EOk K ⟨H1, Av C ρ2 σ⟩ ρ' σ' H' → Pres (Av C ρ2 σ) H1 (Av ⟨H1, Av C ρ2 σ⟩ ρ' σ') H' := fun {ρ' σ' H'} J' b o nb e => by
    refine ⟨?_, J'.ext b o e⟩
    rintro (z | ⟨i, l, h1, h2⟩)
    · exact nb z
    · obtain ⟨a, vs, h3, h4, h5, _⟩ := J'.ow i l h1
      rw [h2] at h3; cases h3
      have e' : (⟨H1, Av C ρ2 σ⟩ : C0).H0 b = some o := e
      rw [h5] at e'; cases e'
  have sal : (capSt σ cap last Dn)[last]? = some (some (.ref Dn)) := by
    unfold capSt
    exact get_set_eq (by rw [List.length_map]; exact hl)
  refine ⟨fun i m σ' H' => m = n - i ∧ i ≤ n ∧ σ'[last]? = some (some (.ref Dn)) ∧ ∃ ρ', EOk K ⟨H1, Av C ρ2 σ⟩ ρ' σ' H' ∧ Pv i ρ', ⟨n, rfl, Nat.zero_le _, sal, _, I2, p0⟩, ?_⟩
  rintro i m σ' H' ⟨rfl, hi, hlast, ρ', J', p'⟩
  have P := P12 (own0 J')
  by_cases hlt : i < n
  · refine .inr ⟨ok.go _ _ i P hlt, fun σ2 H2 => σ2[last]? = some (some (.ref Dn)) ∧ ∃ ρ3, EOk K ⟨H1, Av C ρ2 σ⟩ ρ3 σ2 H2 ∧ Pv (i + 1) ρ3, fun σ2 H2 z => ⟨n - (i + 1), by omega, rfl, hlt, z⟩, fun x H2 y => ?_⟩
    obtain ⟨s2, r2⟩ := ok.yld _ _ i x H2 P (fun a z => J'.avSome z) hlt y
    refine ⟨_, ρ', .pu (it i), H', _, J', s2, r2, turn i ρ' hlt p', fun ρ3 σ3 H3 q3 J3 same3 => ?_⟩
    have l3 : σ3[last]? = some (some (.ref Dn)) := (same3 last hT).trans hlast
    refine ⟨_, ρ3, _, J3, q3, fun c ρ4 H4 q4 f4 s4 => ?_⟩
    have J4 := (J3.frz f4).same s4
    cases c with
    | false =>
      dsimp only at q4 ⊢
      rw [if_neg Bool.false_ne_true] at q4 ⊢
      exact ⟨l3, ρ4, J4, q4⟩
    | true =>
      dsimp only at q4 ⊢
      rw [if_pos rfl] at q4 ⊢
      refine ⟨_, ρ4, _, J4, q4, fun b ρ5 v H5 q5 f5 s5 r5 => ?_⟩
      have J5 := (J4.frz f5).same s5
      obtain ⟨l, hl5, hz, q5⟩ := ownAt_inv q5
      obtain ⟨a, vs, g1, g2, g3, g4⟩ := J5.ow last l hl5
      rw [l3] at g1; cases g1
      refine ⟨vs, g2, by rw [← g4.length]; exact hz, l3, _, J5.write hl5 l3 (g4.append (.cons (r5.rep fun a z => J4.avF f5 z) .nil)), q5⟩
  · have e : i = n := by omega
    subst e
    obtain ⟨l, hl5, q5⟩ := ownAt_inv (fin ρ' p')
    obtain ⟨a, vs, g1, g2, g3, g4⟩ := J'.ow last l hl5
    rw [hlast] at g1; cases g1
    refine .inl ⟨ok.stop _ _ P, k _ _ _ _ q5 (f.trans fz) (s.trans J'.ext) ⟨Dn, vs, rfl, s.free nD, g2, ?_⟩⟩
    refine g4.mono fun b o nb e => ⟨?_, e⟩
    rintro (z | z)
    · exact nb (.inl z)
    · subst z
      exact nb (.inr ⟨last, l, hl5, hlast⟩)
theorem put_nil : ∀ {X : Cx}, PTs X [] (lT X.K fun ρ Q => Q true ρ) := fun {X} pins s σ H Q I ⟨C, ρ, Q0, J, h, k⟩ => pts_nil pins s σ H Q I (k _ ρ H h (.refl _) (.refl _))
theorem put_one {c : Expr} {t : UT} (h : PUT X c t) : PTs X [c] (lT X.K t) := pts_one h
theorem pu_comp {elt iter tg : Expr} {ifs : List Expr} {scope : Scope} {pos : Pos} {N : List Str} {js : List Nat} {cap : List (Option Nat)} {last : Nat} {ui : UI} {g : UG} {T : List Nat} {tt : UT} {te : UE} (hc : X.calm = true) (hi : PUI X tg iter ui) (S : BlockScope X.env X.N N cap scope)
    (hN : ∀ x, N[last]? = some x → scope.names.lookup x = none) (hl : last < cap.length) (hT : last ∉ T)
    (hg : ∀ cl C s H fp pins, PUG (blockCx X N scope cl C s H fp pins) tg T g) (ht : ∀ cl C s H fp pins, PTs (blockCx X N scope cl C s H fp pins) ifs (lT X.K tt)) (he : ∀ cl C s H fp pins, PU (blockCx X N scope cl C s H fp pins) elt te)
    (hs : ∀ x, foldedSetIterable iter X.env x = pure x := by intro _; rfl) : PU X (.ListComp elt [⟨tg, iter, ifs, 0⟩] scope pos) (uComp js cap last ui g tt te) :=
  PEimp (pe_comp (g := lG X.K T g) (tt := lT X.K tt) (te := lE X.K te) hc hi S hN hg ht he hs) (lComp hl hT)
end
end M
end
section
set_option Elab.async false
set_option linter.all false
set_option maxRecDepth 100000
namespace L2
open PySem PySem.Spec PyProof.Rows
section
variable {X : Cx}
theorem boolsOf {bs : List Bool} : ∀ {its : List Value}, Vals (bs.map V.bl) its → LSm.BoolsAre its bs := by
  induction bs with
  | nil => intro its r; cases r; exact .nil
  | cons b bs ih =>
    intro its r
    cases r with
    | cons r1 r2 =>
      cases r1
      exact .cons b (ih r2)
theorem call_all_l (hc : X.calm = true) : CallR X (.builtin "all") (fun xs H Q => ∃ (p : Addr) (bs : List Bool), xs = [.ref p] ∧ SqL X.K H p (bs.map V.bl) ∧ Q (.bl (bs.all id)) H) := by
  intro pins s σ H xs us Q I r h
  obtain ⟨p, bs, rfl, hq, q⟩ := h
  obtain ⟨u, rfl, rx⟩ := vals1 r
  cases rx
  obtain ⟨its, rv, pl, hz⟩ := I.list hq
  have ba := boolsOf rv
  refine call_all_walk (wpAny_pyIter_list pl.isList ?_)
  have hne : p ≠ s.heap.objs.size := by
    obtain ⟨o, n, e, _⟩ := pl
    exact Nat.ne_of_lt (Heap.lt_size e)
  refine ⟨s.heap.objs.size, _, _, _, _, _, fun i => (bs[i]?).getD true, rfl, Walks.list (A := X.A.in1) (I.ok.hd hc) s.heap.objs.size p (fun z => hne z) its.toArray, ⟨⟨_, Heap.get?_push_size _ rfl, rfl, rfl⟩, pl.isList.push _⟩, ?_, fun h' tk hk => ?_⟩
  · intro i v s' Q' E' hP hQ
    obtain ⟨b, hb, rfl⟩ := ba.get i v (by simpa using hP)
    refine wpAny_truthy_bool ?_
    have e : (fun i => (bs[i]?).getD true) i = b := by simp [hb]
    dsimp only at hQ
    rw [hb] at hQ
    exact hQ
  · have e := LSm.range_all bs
    have hl := ba.length
    have e2 : its.toArray.size = bs.length := by rw [List.size_toArray, hl]
    rw [e2, e]
    exact ⟨.bl (bs.all id), H, I.kept fun b o e => hk b o (by simpa using Nat.ne_of_lt (Heap.lt_size e)) (Heap.get?_push_of_some _ e), rfl, q⟩
def blockLook (esc : List (Str × NameKind)) (XN N : List Str) (cap : List (Option Nat)) (scope : Scope) (last : Nat) : Bool :=
  (scope.kind == .function) && scope.names.all (fun y => y.2 != .cell || scope.names.lookup y.1 == some .cell) && scope.names.all (fun y => y.2 != .free || scope.names.lookup y.1 == some .free) && scope.names.all (fun y => y.2 != .local || scope.names.lookup y.1 == some .local) &&
  scope.names.all (fun y => y.2 != .free || esc.lookup y.1 == some .cell || esc.lookup y.1 == some .free) &&
  (N.zip cap).all (fun z => match z.2 with | none => true | some j => XN[j]? == some z.1 && scope.names.contains (z.1, .free) && scope.names.lookup z.1 == some .free) &&
  (cap.length == N.length) && (match N[last]? with | some x => (scope.names.lookup x).isNone | none => true)
theorem BlockScope.of {env : Env} {esc : List (Str × NameKind)} {XN N : List Str} {cap : List (Option Nat)} {scope : Scope} {last : Nat} (he : env.scope.names = esc) (h : blockLook esc XN N cap scope last = true) :
    BlockScope env XN N cap scope ∧ ∀ x, N[last]? = some x → scope.names.lookup x = none := by
  unfold blockLook at h
  simp only [Bool.and_eq_true, List.all_eq_true, beq_iff_eq] at h
  obtain ⟨⟨⟨⟨⟨⟨⟨h1, h2⟩, h2'⟩, h3⟩, h4⟩, h5⟩, h6⟩, h7⟩ := h
  have hk : ∀ x, env.kindOf x = esc.lookup x := fun x => by unfold Env.kindOf; rw [he]
  refine ⟨⟨h1, fun y hy hl => by have := h2 y hy; rw [hl] at this; simpa using this, fun y hy hl => by have := h2' y hy; rw [hl] at this; simpa using this, fun y hy hl => ?_, fun y hy hf => ?_, fun i j x e1 e2 => ?_, h6⟩, fun x e => ?_⟩
  · have := h3 y hy
    rw [hl] at this
    simpa using this
  · have := h4 y hy
    rw [hf] at this
    rw [hk]
    simpa using this
  · have hm : (x, some j) ∈ N.zip cap := by
      refine List.mem_of_getElem? (i := i) ?_
      rw [List.getElem?_zip_eq_some]
      exact ⟨e1, e2⟩
    have := h5 _ hm
    simp only [Bool.and_eq_true, beq_iff_eq] at this
    obtain ⟨⟨a, b⟩, c⟩ := this
    exact ⟨a, by simpa using b, c⟩
  · rw [e] at h7
    simpa using h7
end
end L2
namespace M
open PySem PySem.Spec PyProof.Rows L2
section
variable {X : Cx} {K : PySem.W.Frag} {A : AS} {H : Hp}
def boolsL : List D → Option (List Bool)
  | [] => some []
  | .bl b :: r => (boolsL r).map (b :: ·)
  | _ => none
def intsL : List D → Option (List Int)
  | [] => some []
  | .int b :: r => (intsL r).map (b :: ·)
  | _ => none
theorem boolsL_map (bs : List Bool) : boolsL (bs.map .bl) = some bs := by
  induction bs with
  | nil => rfl
  | cons b bs ih => rw [List.map_cons]; show (boolsL (bs.map .bl)).map _ = _; rw [ih]; rfl
theorem boolsL_rep : ∀ {l : List D} {bs : List Bool} {vs : List V}, boolsL l = some bs → RepL K A H l vs → vs = bs.map V.bl
  | [], bs, vs, h, r => by cases h; exact r.unnil
  | d :: r, bs, vs, h, q => by
    obtain ⟨v, vr, rfl, rv, rr⟩ := q.uncons
    cases d with
    | bl b =>
      have h' : (boolsL r).map (b :: ·) = some bs := h
      cases e : boolsL r with
      | none => rw [e] at h'; cases h'
      | some bs' =>
        rw [e] at h'; cases h'
        rw [rep_blv rv, boolsL_rep e rr]; rfl
    | _ => cases h
def gAll : List D → (B → Prop) → Prop := g1 fun d Q => match d with
  | .lst l => (match boolsL l with
    | some bs => Q (.pu (.bl (bs.all id)))
    | none => False)
  | _ => False
theorem cu_all (hc : X.calm = true) : CallU X (.builtin "all") gAll := by
  intro A H ds vs Q0 Q hA r g k
  obtain ⟨d, v, rfl, rfl, rv, g⟩ := g1_inv g r
  cases d with
  | lst l =>
    dsimp only at g
    cases e : boolsL l with
    | none => rw [e] at g; exact g.elim
    | some bs =>
      rw [e] at g
      simp only [Rep] at rv
      obtain ⟨a, vs, rfl, n, c, rs⟩ := rv
      rw [boolsL_rep e rs] at c
      exact ⟨_, call_all_l hc, a, bs, rfl, SqL.of c, k _ _ H g (.refl _) rep_bl⟩
  | _ => exact (show False from g).elim
def gSum : List D → (B → Prop) → Prop := g1 fun d Q => match d with
  | .lst l => (match intsL l with
    | some ns => Q (.pu (.int ns.sum))
    | none => False)
  | _ => False
theorem bt_all : bootBuiltins "all" = some (.builtin "all") := by decide +kernel
theorem pu_compL {elt iter tg : Expr} {ifs : List Expr} {scope : Scope} {pos : Pos} {esc : List (Str × NameKind)} {N : List Str} {js : List Nat} {cap : List (Option Nat)} {last : Nat} {ui : UI} {g : UG} {T : List Nat} {tt : UT} {te : UE} {XN : List Str} (he0 : X.env.scope.names = esc) (hx0 : X.N = XN) (lk : blockLook esc XN N cap scope last = true) (hl : last < cap.length) (hT : last ∉ T) (hc : X.calm = true) (hi : PUI X tg iter ui)
    (hg : ∀ cl C s H fp pins, PUG (blockCx X N scope cl C s H fp pins) tg T g) (ht : ∀ cl C s H fp pins, PTs (blockCx X N scope cl C s H fp pins) ifs (lT X.K tt)) (he : ∀ cl C s H fp pins, PU (blockCx X N scope cl C s H fp pins) elt te)
    (hs : ∀ x, foldedSetIterable iter X.env x = pure x := by intro _; rfl) : PU X (.ListComp elt [⟨tg, iter, ifs, 0⟩] scope pos) (uComp js cap last ui g tt te) :=
  pu_comp hc hi (BlockScope.of he0 (hx0 ▸ lk)).1 (BlockScope.of he0 (hx0 ▸ lk)).2 hl hT hg ht he hs
def uDrop (te : UE) : US := fun D ρ => te ρ fun _ ρ1 => D.nx ρ1
theorem glen_nil : ∀ ds ρ Q, uGNil ds ρ Q → ds.length = 0 := fun ds ρ Q h => by rw [h.1]; rfl
theorem glen_cons {i n : Nat} {u : UGs} (h : ∀ ds ρ Q, u ds ρ Q → ds.length = n) : ∀ ds ρ Q, uGCons i u ds ρ Q → ds.length = n + 1 := fun ds ρ Q q => by
  cases ds with
  | nil => exact (show False from q).elim
  | cons d r => rw [List.length_cons, h r _ Q q.2]
end
end M
end
section
set_option Elab.async false
set_option linter.all false
set_option maxRecDepth 100000
namespace HT
open PySem PyProof.Rows
end HT
namespace L2
open PySem PySem.Spec PyProof.Rows
end L2
namespace M
open PySem PySem.Spec PyProof.Rows L2
section
variable {X : Cx} {K : PySem.W.Frag} {A : AS} {H : Hp} {e e3 : Expr} {t3 : UE} {pos p2 : Pos}
def gRev (d : D) (Q : B → Prop) : Prop := match d with
  | .tup l => Q (.pu (.tup l.reverse))
  | _ => False
def uRev (t : UV) (t3 : UE) : UE := fun ρ Q => t ρ fun d ρ1 => t3 ρ1 fun b ρ2 => b.d = .int (-1) ∧ gRev d fun b => Q b ρ2
def gIn (neg : Bool) (d e : D) (Q : B → Prop) : Prop := ∃ (i : Int) (js : List Int), d = .int i ∧ (e = .tup (js.map D.int) ∨ e = .lst (js.map D.int) ∨ e = .rol (js.map D.int)) ∧ Q (.pu (.bl (neg ^^ decide (i ∈ js))))
theorem RepL.unints : ∀ {js : List Int} {vs : List V}, RepL K A H (js.map D.int) vs → vs = js.map V.int
  | [], _, h => by simp only [List.map_nil, RepL] at h; exact h
  | j :: js, vs, h => by
    simp only [List.map_cons, RepL] at h
    obtain ⟨v, vr, rfl, r, rs⟩ := h
    rw [rep_int r, RepL.unints rs]
    rfl
theorem inV_ints (i : Int) (js : List Int) : inV (.int i) (js.map V.int) = decide (i ∈ js) := by
  unfold inV
  induction js with
  | nil => rfl
  | cons j js ih =>
    rw [List.map_cons, List.any_cons, ih]
    show ((j == i) || decide (i ∈ js)) = decide (i ∈ j :: js)
    by_cases h : j = i
    · subst h; simp
    · have h' : ¬ i = j := fun z => h z.symm
      simp [h, h']
theorem flat_ints (js : List Int) : (js.map V.int).all flatV = true := by
  induction js with
  | nil => rfl
  | cons j js ih => rw [List.map_cons, List.all_cons, ih]; rfl
theorem ou_inG {neg : Bool} {op : Value → Value → Sem Value} (ho : OpR X op (rIn X.K neg)) : OpU X op (gIn neg) := by
  intro A H d e v w Q0 Q hA r1 r2 g k
  obtain ⟨i, js, rfl, he, g⟩ := g
  have e1 := rep_int r1
  subst e1
  have fin : Q (.bl (if neg = true then !inV (.int i) (js.map V.int) else inV (.int i) (js.map V.int))) H := by
    rw [inV_ints]
    refine k _ _ H g (.refl _) ?_
    cases neg
    · rw [if_neg (by decide), Bool.false_xor]; exact rep_bl
    · rw [if_pos rfl, Bool.true_xor]; exact rep_bl
  rcases he with rfl | rfl | rfl
  · simp only [Rep] at r2
    obtain ⟨a, vs, rfl, c, rs⟩ := r2
    have := rs.unints
    subst this
    exact ⟨_, ho, a, _, rfl, .inr (c.imp And.right id), rfl, flat_ints js, fin⟩
  · simp only [Rep] at r2
    obtain ⟨a, vs, rfl, n, c, rs⟩ := r2
    have := rs.unints
    subst this
    exact ⟨_, ho, a, _, rfl, .inl (SqL.of c), rfl, flat_ints js, fin⟩
  · simp only [Rep] at r2
    obtain ⟨a, vs, rfl, c, rs⟩ := r2
    have := rs.unints
    subst this
    exact ⟨_, ho, a, _, rfl, .inl (c.imp And.right id), rfl, flat_ints js, fin⟩
theorem ou_notin : OpU X (compareOp .NotIn) (gIn true) := ou_inG op_notIn_seq
end
end M
end
section
set_option Elab.async false
set_option linter.all false
set_option maxRecDepth 100000
namespace L2
open PySem PySem.Spec PyProof.Rows
def Itd (lo : Int) (n : Nat) : It := { go := fun i _ => i < n, yld := fun i H x H' => H' = H ∧ x = V.int (lo - (i : Int)), stop := fun i _ => n ≤ i }
theorem turn_down {P : Program} {w : World} {K : PySem.W.Frag} {tg : Expr} (it : Addr) (lo : Int) (n : Nat) : Turn P w K tg (Itd lo n) [it] it (fun i h => IsRangeIter h it (lo + (i : Nat) * (-1)) ((n : Int) - (i : Nat)) (-1)) where
  mem := by simp
  obj := fun i h st b hb => by
    have e : b = it := by simpa using hb
    subst e
    exact ⟨_, st, fun v z => by
      have z' : Data.fields _ = Data.cell v := z
      cases z'⟩
  keep := fun i h h' st k => k it (by simp) _ st
  item := by
    intro X hP hw hK hc i pins s σ H E I hf st hg
    subst hP hw hK
    obtain ⟨f0, f1, f2, f3, f4, f5⟩ := hf it (by simp)
    have W := Walks.range (prog := X.prog) (w := X.w) (I.ok.hd hc) it lo (-1) n
    refine W.item i s _ _ hg st fun v h' tk hv st' kk => ?_
    obtain ⟨t, rfl⟩ := hv
    have I1 : Inv X pins σ H { s with heap := h', toks := tk } := I.turned (fun b o hb e => kk b o (by simpa using hb) e) f0 f1 f3 f4 f5
    refine ⟨_, rfl, go_of (s := { s with heap := h', toks := tk }) (n := "range_iterator") st' rfl rfl (by decide) ⟨.int (lo - i), H, I1, ⟨t, ?_⟩, ⟨rfl, rfl⟩, st', fun b hb => (hf b hb).1⟩⟩
    rw [show lo + ((i : Nat) : Int) * (-1) = lo - (i : Int) by omega]
  done := by
    intro X hP hw hK hc i pins s σ H E I hf st hg
    subst hP hw hK
    obtain ⟨f0, f1, f2, f3, f4, f5⟩ := hf it (by simp)
    exact wpAny_pyNext_range_end (I.ok.hd hc) st (by have : n ≤ i := hg; omega) fun h' eb => ⟨rfl, I.turned (t' := s.toks) (fun b o hb e => eb b o hb e) f0 f1 f3 f4 f5⟩
  self := fun _ _ _ _ _ st h => wpAny_pyIter_rangeiter st h
end L2
namespace M
open PySem PySem.Spec PyProof.Rows L2
section
variable {X : Cx} {K : PySem.W.Frag} {H : Hp} {pos : Pos}
theorem itok_down {A : AS} {lo : Int} {n : Nat} : ItOk K A H (Itd lo n) n (fun i => .int (lo - i)) :=
  ⟨fun _ _ _ _ h => h, fun _ _ i x H'' _ _ _ ⟨e, y⟩ => by subst e; subst y; exact ⟨.refl _, by simp only [Rep]⟩, fun _ _ _ => Nat.le_refl n⟩
def uRngD (ta : UA) : UI := fun ρ Q => ta ρ fun ds ρ1 => match ds with
  | [.int i, .int j, .int m] => m = -1 ∧ (-(2 ^ 31) ≤ i ∧ i < 2 ^ 31 ∧ -(2 ^ 31) ≤ j ∧ j < 2 ^ 31) ∧ Q (i - j).toNat (fun k => .int (i - k)) ρ1
  | _ => False
end
end M
end
section
set_option Elab.async false
set_option linter.all false
set_option maxRecDepth 100000
namespace L2
open PySem PySem.Spec PyProof.Rows
section
variable {X : Cx} {pins : List (Addr × Obj)} {σ : St} {H : Hp} {s : Shared} {h' : Heap}
theorem Inv.turnedNew {t' : Nat} {ch : List Addr} {a : Addr} {o : HO} (I : Inv X pins σ H s) (k : ∀ b u, b ∉ ch → s.heap.get? b = some u → h'.get? b = some u) (hf : ∀ b ∈ ch, FpOk X pins H b)
    (hp : s.heap.objs.size ≤ a) (new : ObjOk X.prog X.w (upd H a o) h' a o) : Inv X pins σ (upd H a o) { s with heap := h', toks := t' } := by
  have hn : H a = none := I.hok.fresh hp
  have nch : ∀ b u, H b = some u → b ∉ ch := fun b u e z => by have := (hf b z).1; rw [e] at this; cases this
  refine I.step (g' := s.gens) (d' := s.drawn) (ch := ch) (fun b hb => ⟨(hf b hb).2.2.2.1, (hf b hb).2.1, (hf b hb).2.2.2.2.1, (hf b hb).2.2.2.2.2⟩) (fun b u _ _ hc e _ => k b u hc e) (fun b u _ _ hc e _ => ⟨u.slots, k b u hc e⟩)
    (fun b u _ e n => by rw [upd_ne (Nat.ne_of_lt (Nat.lt_of_lt_of_le (Heap.lt_size e) hp))]; exact n) (fun b u hc e => ⟨u, k b u hc e⟩)
    (fun b xs e => by rw [upd_ne (ne_of_none e hn)]; exact e) (fun b ob u e => by rw [upd_ne (ne_of_none e hn)]; exact e) (fun b ps e => ⟨#[], by rw [upd_ne (ne_of_none e hn), e]; simp⟩) (fun m hm => ?_) (fun b u e => ?_) I.bare
  · obtain ⟨ob, es, ep, ho, r⟩ := hm
    exact ⟨ob, es, ep, k _ ob (fun z => (hf _ z).2.1 rfl) ho, r⟩
  · by_cases hb : b = a
    · subst hb
      rw [upd_same] at e
      cases e
      exact new
    · rw [upd_ne hb] at e
      refine (I.hok b u e).stay (fun c v hc q => k c v ?_ q) (fun c q => by rw [upd_ne (ne_of_none q hn)]; exact q) fun c xs q => by rw [upd_ne (ne_of_none q hn)]; exact q
      rcases hc with z | z
      · rw [z]; exact nch b u e
      · exact nch c _ z
theorem Inv.turnedL {t' : Nat} {ch : List Addr} (I : Inv X pins σ H s) (k : ∀ b u, b ∉ ch → s.heap.get? b = some u → h'.get? b = some u) (hf : ∀ b ∈ ch, FpOk X pins H b) : Inv X pins σ H { s with heap := h', toks := t' } := by
  have nch : ∀ b u, H b = some u → b ∉ ch := fun b u e z => by have := (hf b z).1; rw [e] at this; cases this
  refine I.step (g' := s.gens) (d' := s.drawn) (ch := ch) (fun b hb => ⟨(hf b hb).2.2.2.1, (hf b hb).2.1, (hf b hb).2.2.2.2.1, (hf b hb).2.2.2.2.2⟩) (fun b u _ _ hc e _ => k b u hc e) (fun b u _ _ hc e _ => ⟨u.slots, k b u hc e⟩)
    (fun b u _ e n => n) (fun b u hc e => ⟨u, k b u hc e⟩) (fun b xs e => e) (fun b ob u e => e) (fun b ps e => ⟨#[], by rw [e]; simp⟩) (fun m hm => ?_) (fun b u e => ?_) I.bare
  · obtain ⟨ob, es, ep, ho, r⟩ := hm
    exact ⟨ob, es, ep, k _ ob (fun z => (hf _ z).2.1 rfl) ho, r⟩
  · refine (I.hok b u e).stay (fun c v hc q => k c v ?_ q) (fun c q => q) fun c xs q => q
    rcases hc with z | z
    · rw [z]; exact nch b u e
    · exact nch c _ z
end
def IsSq (T : Bool) (h : Heap) (a : Addr) (xs : Array Value) : Prop := match T with
  | false => h.IsList a xs
  | true => h.IsTuple a xs
def SqIt (T : Bool) (h : Heap) (it a : Addr) (i : Nat) : Prop := match T with
  | false => h.IsListIter it a i
  | true => h.IsTupleIter it a i
def sqObj (T : Bool) (a : Addr) : Obj := match T with
  | false => { cls := .type "list_iterator", data := .fields #[.ref a, .int 0 0] }
  | true => { cls := .type "tuple_iterator", data := .fields #[.ref a, .int 0 0] }
def SqV (K : PySem.W.Frag) (T : Bool) (H : Hp) (a : Addr) (xs : List V) : Prop := match T with
  | false => SqL K H a xs
  | true => SqT K H a xs
theorem IsSq.at {T : Bool} {h h' : Heap} {a : Addr} {xs : Array Value} (x : IsSq T h a xs) (e : ∀ o, h.get? a = some o → h'.get? a = some o) : IsSq T h' a xs := by
  cases T <;> (obtain ⟨o, ho, r⟩ := x; exact ⟨o, e o ho, r⟩)
theorem SqIt.at {T : Bool} {h h' : Heap} {it a : Addr} {i : Nat} (x : SqIt T h it a i) (e : ∀ o, h.get? it = some o → h'.get? it = some o) : SqIt T h' it a i := by
  cases T <;> (obtain ⟨o, ho, r⟩ := x; exact ⟨o, e o ho, r⟩)
theorem IsSq.lt {T : Bool} {h : Heap} {a : Addr} {xs : Array Value} (x : IsSq T h a xs) : a < h.objs.size := by
  cases T <;> (obtain ⟨o, ho, r⟩ := x; exact Heap.lt_size ho)
theorem SqIt.lt {T : Bool} {h : Heap} {it a : Addr} {i : Nat} (x : SqIt T h it a i) : it < h.objs.size := by
  cases T <;> (obtain ⟨o, ho, r⟩ := x; exact Heap.lt_size ho)
theorem SqIt.rec' {T : Bool} {h : Heap} {it a : Addr} {i : Nat} (x : SqIt T h it a i) : ∃ o, h.get? it = some o ∧ ∀ v, o.data ≠ .cell v := by
  cases T <;> (obtain ⟨o, ho, hc, hd⟩ := x; exact ⟨o, ho, fun v z => by rw [hd] at z; cases z⟩)
theorem SqIt.new {T : Bool} (h : Heap) (a : Addr) : SqIt T (h.push (sqObj T a)) h.objs.size a 0 := by
  cases T <;> exact ⟨_, Heap.get?_push_size _ rfl, rfl, rfl⟩
section
variable {X : Cx} {pins : List (Addr × Obj)} {σ : St} {H : Hp} {s : Shared}
theorem Inv.sq {T : Bool} {a : Addr} {xs : List V} (I : Inv X pins σ H s) (h : SqV X.K T H a xs) : ∃ its : List Value, Vals xs its ∧ IsSq T s.heap a its.toArray ∧ xs.length ≤ sizeLine := by
  cases T with
  | false => obtain ⟨its, rv, p, hz⟩ := I.list h; exact ⟨its, rv, p.isList, hz⟩
  | true => obtain ⟨its, rv, p, hz⟩ := I.tuple h; exact ⟨its, rv, p, hz⟩
theorem Inv.sq_inj {T : Bool} {a : Addr} {xs ys : List V} (I : Inv X pins σ H s) (h : SqV X.K T H a xs) (h' : SqV X.K T H a ys) : xs = ys := by
  cases T with
  | false => exact I.list_inj h h'
  | true => exact I.tuple_inj h h'
end
section
variable {prog : Program} {w : World} {A : Around} {E : Value → Shared → Prop} {s : Shared}
theorem sq_pyIter {T : Bool} {a : Addr} {xs : Array Value} {Q : Value → Shared → Prop} (hl : IsSq T s.heap a xs) (hQ : Q (.ref s.heap.objs.size) { s with heap := s.heap.push (sqObj T a) }) :
    wpAny (model prog w) A (pyIter (.ref a)) Q E s := by
  cases T with
  | false => exact wpAny_pyIter_list hl hQ
  | true => exact wpAny_pyIter_tuple hl hQ
theorem tup_next {it t : Addr} {i : Nat} {items : Array Value} {x : Value} {Q : Value → Shared → Prop} (hit : s.heap.IsTupleIter it t i) (ht : s.heap.IsTuple t items) (hx : items[i]? = some x)
    (hQ : ∀ h', h'.IsTupleIter it t (i + 1) → Heap.SameBut it s.heap h' → Q x { s with heap := h' }) : wpAny (model prog w) A (Builtin.SmallTypes.nextOf (.ref it)) Q E s := by
  obtain ⟨oi, hoi, hci, hdi⟩ := id hit
  obtain ⟨ot, hot, _, nt, hdt⟩ := ht
  unfold Builtin.SmallTypes.nextOf; refine wpAny_bind (wpAny_callSpecial?_slot (name := Str.ofString "__next__") hit.typeIs PySem.F.slot_tuple_iterator_next (wpAny_call_entry PySem.F.slot_tuple_iterator_next hit.typeIs PySem.F.entry_tuple_iterator_next ?_ (PySem.F.args_tuple_iterator_next_1 _)))
  show wpAny _ _ (field (.ref it) 0 >>= _) _ _ s; refine wpAny_bind (wpAny_field hoi hdi (x := .ref t) rfl ?_)
  show wpAny _ _ (if (Value.ref t == Value.none) = true then _ else _) _ _ s; rw [if_neg (show ¬ ((Value.ref t == Value.none) = true) from Bool.false_ne_true)]
  show wpAny _ _ (field (.ref it) 1 >>= _) _ _ s; refine wpAny_bind (wpAny_field hoi hdi (x := .int i 0) rfl ?_)
  show wpAny _ _ (seqItems? (.ref t) >>= _) _ _ s; refine wpAny_bind (wpAny_seqItems hot hdt ?_)
  simp only [Int.toNat_natCast, hx]
  refine wpAny_bind (wpAny_setField hoi hdi (by simp) (wpAny_pure ⟨x, rfl, wpAny_pure (hQ _ ⟨_, Heap.get?_update_self _ hoi (Obj.isFreed_of_fields (Obj.data_mapFields hdi _)), (Obj.cls_mapFields ..).trans hci, ?_⟩ (Heap.SameBut.update ..))⟩))
  rw [Obj.data_mapFields hdi]; simp [rawInt]
theorem tup_ended {it t : Addr} {i : Nat} {items : Array Value} {Q : Value → Shared → Prop} (hh : A.handled = none) (hit : s.heap.IsTupleIter it t i) (ht : s.heap.IsTuple t items) (hx : items[i]? = none)
    (hE : ∀ h' e, Heap.ExtBut it s.heap h' → (∃ o, h'.get? e = some o ∧ o.cls = .type "StopIteration") → E (.ref e) { s with heap := h' }) : wpAny (model prog w) A (Builtin.SmallTypes.nextOf (.ref it)) Q E s := by
  obtain ⟨oi, hoi, hci, hdi⟩ := id hit
  obtain ⟨ot, hot, _, nt, hdt⟩ := ht
  unfold Builtin.SmallTypes.nextOf; refine wpAny_bind (wpAny_callSpecial?_slot (name := Str.ofString "__next__") hit.typeIs PySem.F.slot_tuple_iterator_next (wpAny_call_entry PySem.F.slot_tuple_iterator_next hit.typeIs PySem.F.entry_tuple_iterator_next ?_ (PySem.F.args_tuple_iterator_next_1 _)))
  show wpAny _ _ (field (.ref it) 0 >>= _) _ _ s; refine wpAny_bind (wpAny_field hoi hdi (x := .ref t) rfl ?_)
  show wpAny _ _ (if (Value.ref t == Value.none) = true then _ else _) _ _ s; rw [if_neg (show ¬ ((Value.ref t == Value.none) = true) from Bool.false_ne_true)]
  show wpAny _ _ (field (.ref it) 1 >>= _) _ _ s; refine wpAny_bind (wpAny_field hoi hdi (x := .int i 0) rfl ?_)
  show wpAny _ _ (seqItems? (.ref t) >>= _) _ _ s; refine wpAny_bind (wpAny_seqItems hot hdt ?_)
  simp only [Int.toNat_natCast, hx]
  refine wpAny_bind (wpAny_rule (wpAny_bind (wpAny_setField hoi hdi (by simp) ?_)))
  show wpAny _ _ (newExc (.type "StopIteration") [] >>= _) _ _ _; refine wpAny_bind ?_; simp only [newExc, newTuple]; refine wpAny_bind (wpAny_newObj_type ?_ (by size_fits))
  refine wpAny_bind (m := firstArgMember _ _) (wpAny_of_eq (a := Value.none) (by first | rfl | (simp only [firstArgMember]; rfl)) ?_); refine wpAny_newObj_type ?_ (by size_fits)
  simp only [raiseNew]; refine wpAny_bind (wpAny_handled ?_); first | rw [show A.in1.handled = none from hh] | rw [hh]
  exact wpAny_bind (wpAny_pure (wpAny_throw (hE _ _ (((Heap.SameBut.update ..).extBut.push _).push _) ⟨_, Heap.get?_push_size _ rfl, rfl⟩)))
theorem sq_next {T : Bool} {it a : Addr} {i : Nat} {xs : Array Value} {x : Value} {Q : Value → Shared → Prop} (hit : SqIt T s.heap it a i) (hl : IsSq T s.heap a xs) (hx : xs[i]? = some x)
    (hQ : ∀ h', SqIt T h' it a (i + 1) → Heap.SameBut it s.heap h' → Q x { s with heap := h' }) : wpAny (model prog w) A (Builtin.SmallTypes.nextOf (.ref it)) Q E s := by
  cases T with
  | false => exact wpAny_nextOf_list_item hit hl hx hQ
  | true => exact tup_next hit hl hx hQ
theorem sq_ended {T : Bool} {it a : Addr} {i : Nat} {xs : Array Value} {Q : Value → Shared → Prop} (hh : A.handled = none) (hit : SqIt T s.heap it a i) (hl : IsSq T s.heap a xs) (hx : xs[i]? = none)
    (hE : ∀ h' e, Heap.ExtBut it s.heap h' → (∃ o, h'.get? e = some o ∧ o.cls = .type "StopIteration") → E (.ref e) { s with heap := h' }) : wpAny (model prog w) A (Builtin.SmallTypes.nextOf (.ref it)) Q E s := by
  cases T with
  | false => exact wpAny_nextOf_list_end hh hit hl hx hE
  | true => exact tup_ended hh hit hl hx hE
end
structure ZSt (T1 T2 : Bool) (z TI TO i1 i2 l1 l2 : Addr) (f0 : Value) (i : Nat) (h : Heap) : Prop where
  hz : IsZip h z TI TO f0
  hI : IsPair h TI (.ref i1) (.ref i2)
  hO : ∃ a b, IsPair h TO a b
  h1 : SqIt T1 h i1 l1 i
  h2 : SqIt T2 h i2 l2 i
structure ZAp (z TI TO i1 i2 : Addr) : Prop where
  a : TI ≠ z
  b : TO ≠ z
  c : i1 ≠ z
  d : i2 ≠ z
  e : TI ≠ TO
  f : TI ≠ i1
  g : TI ≠ i2
  h : TO ≠ i1
  i : TO ≠ i2
  j : i1 ≠ i2
section
variable {prog : Program} {w : World} {A : Around} {E : Value → Shared → Prop} {s : Shared} {T1 T2 : Bool} {z TI TO i1 i2 l1 l2 : Addr} {k : Nat} {xs ys : Array Value}
theorem zip_goes {x y : Value} {Q : Value → Shared → Prop} (D : ZAp z TI TO i1 i2) (n1 : l1 ∉ [z, TI, TO, i1, i2]) (n2 : l2 ∉ [z, TI, TO, i1, i2]) (st : ZSt T1 T2 z TI TO i1 i2 l1 l2 .none k s.heap)
    (hl1 : IsSq T1 s.heap l1 xs) (hl2 : IsSq T2 s.heap l2 ys) (hx : xs[k]? = some x) (hy : ys[k]? = some y)
    (hQ : ∀ h', ZSt T1 T2 z TI TO i1 i2 l1 l2 (rawInt s.heap.objs.size) (k + 1) h' → IsPair h' s.heap.objs.size x y → (∀ c o, c ∉ [z, TI, TO, i1, i2] → s.heap.get? c = some o → h'.get? c = some o) → Q (.ref s.heap.objs.size) { s with heap := h' }) :
    wpAny (model prog w) A (Builtin.«zip.__next__» ⟨[.ref z], []⟩) (fun fin s' => ∃ v, fin = .done (.ret v) ∧ Q v s') E s := by
  obtain ⟨hz, hI, ⟨a0, b0, hO⟩, h1, h2⟩ := st
  simp only [List.mem_cons, List.not_mem_nil, or_false, not_or] at n1 n2
  show wpAny _ _ (field (.ref z) 2 >>= _) _ _ _; refine wpAny_bind (wpAny_field hz rfl (x := .bool false) rfl ?_)
  show wpAny _ _ (field (.ref z) 3 >>= _) _ _ _; refine wpAny_bind (wpAny_field hz rfl (x := .ref TI) rfl ?_)
  refine wpAny_bind (wpAny_seqItems hI rfl ?_); show wpAny _ _ (Builtin.SmallTypes.ownedTupleIsFree (.ref z) >>= _) _ _ _
  refine wpAny_bind ?_; unfold Builtin.SmallTypes.ownedTupleIsFree; refine wpAny_bind (wpAny_field hz rfl (x := .none) rfl (wpAny_pure ?_))
  simp only [if_true]; refine wpAny_bind (wpAny_rule ?_); refine wpAny_bind (wpAny_field hz rfl (x := .ref TO) rfl ?_)
  refine wpAny_bind (wpAny_setField_rec hz (by simp) fun g1 z1 m1 => ?_); replace z1 : IsZip g1 z TI TO .ellipsis := z1
  refine wpAny_bind ?_; simp only [List.zipIdx_cons, List.zipIdx_nil, List.forIn_cons, List.forIn_nil]
  -- the first
  refine wpAny_bind (wpAny_bind (wpAny_onRaise ?_)); show wpAny _ _ (Builtin.SmallTypes.nextOf (.ref i1) >>= _) _ _ _
  refine wpAny_bind (sq_next (s := { s with heap := g1 }) (h1.at fun o e => m1.extBut _ _ D.c e) (hl1.at fun o e => m1.extBut _ _ n1.1 e) hx fun g2 p2 m2 => wpAny_pure ?_)
  have o2 : IsPair g2 TO a0 b0 := m2.extBut _ _ D.h (m1.extBut _ _ D.b hO)
  refine wpAny_bind (wpAny_seqItems o2 rfl ?_); refine wpAny_bind (wpAny_updateSeq_pair o2 fun g3 o3 m3 => ?_); replace o3 : IsPair g3 TO x b0 := o3
  refine wpAny_bind (wpAny_letGo (wpAny_pure ?_))
  -- the second
  refine wpAny_bind (wpAny_bind (wpAny_onRaise ?_)); show wpAny _ _ (Builtin.SmallTypes.nextOf (.ref i2) >>= _) _ _ _
  refine wpAny_bind (sq_next (s := { s with heap := g3 }) (h2.at fun o e => m3.extBut _ _ D.i.symm (m2.extBut _ _ D.j.symm (m1.extBut _ _ D.d e))) (hl2.at fun o e => m3.extBut _ _ n2.2.2.1 (m2.extBut _ _ n2.2.2.2.1 (m1.extBut _ _ n2.1 e))) hy fun g4 p4 m4 => wpAny_pure ?_)
  have o4 : IsPair g4 TO x b0 := m4.extBut _ _ D.i o3
  refine wpAny_bind (wpAny_seqItems o4 rfl ?_); refine wpAny_bind (wpAny_updateSeq_pair o4 fun g5 o5 m5 => ?_); replace o5 : IsPair g5 TO x y := o5
  refine wpAny_bind (wpAny_letGo (wpAny_pure (wpAny_pure ?_)))
  -- the new tuple
  refine wpAny_bind (wpAny_seqItems o5 rfl ?_); refine wpAny_bind (wpAny_newTuple ?_)
  have sz : g5.objs.size = s.heap.objs.size := by rw [m5.1, m4.1, m3.1, m2.1, m1.1]
  have z5 : IsZip g5 z TI TO .ellipsis := m5.extBut _ _ D.b.symm (m4.extBut _ _ D.d.symm (m3.extBut _ _ D.b.symm (m2.extBut _ _ D.c.symm z1)))
  have keep5 : ∀ c o, c ≠ z → c ≠ TO → c ≠ i1 → c ≠ i2 → s.heap.get? c = some o → g5.get? c = some o := fun c o c1 c2 c3 c4 e => m5.extBut _ _ c2 (m4.extBut _ _ c4 (m3.extBut _ _ c2 (m2.extBut _ _ c3 (m1.extBut _ _ c1 e))))
  have q1 : SqIt T1 g5 i1 l1 (k + 1) := p2.at fun o e => m5.extBut _ _ D.h.symm (m4.extBut _ _ D.j (m3.extBut _ _ D.h.symm e))
  have q2 : SqIt T2 g5 i2 l2 (k + 1) := p4.at fun o e => m5.extBut _ _ D.i.symm e
  have zl : z < g5.objs.size := Heap.lt_size z5
  show wpAny _ _ (Builtin.SmallTypes.ownedTupleHandOut (.ref z) (.ref g5.objs.size) >>= _) _ _ _; refine wpAny_bind ?_; unfold Builtin.SmallTypes.ownedTupleHandOut
  have z6 : IsZip (g5.push { cls := .type "tuple", data := .seq #[x, y] }) z TI TO .ellipsis := Heap.get?_push_of_some _ z5
  refine wpAny_bind (wpAny_setField_rec z6 (by simp) fun g7 z7 m7 => ?_); replace z7 : IsZip g7 z TI TO (rawInt g5.objs.size) := z7
  refine wpAny_setField_rec z7 (by simp) fun g8 z8 m8 => ?_; replace z8 : IsZip g8 z TI TO (rawInt g5.objs.size) := z8
  have up : ∀ c o, c ≠ z → g5.get? c = some o → g8.get? c = some o := fun c o c1 e => m8.extBut _ _ c1 (m7.extBut _ _ c1 (Heap.get?_push_of_some _ e))
  have t8 : IsPair g8 g5.objs.size x y := m8.extBut _ _ (Nat.ne_of_gt zl) (m7.extBut _ _ (Nat.ne_of_gt zl) (Heap.get?_push_size _ rfl))
  rw [sz] at z8 t8
  refine wpAny_pure ⟨_, rfl, ?_⟩
  show Q (.ref g5.objs.size) _
  rw [sz]
  refine hQ g8 ⟨z8, up _ _ D.a (keep5 _ _ D.a D.e D.f D.g hI), ⟨x, y, up _ _ D.b o5⟩, q1.at fun o e => up _ _ D.c e, q2.at fun o e => up _ _ D.d e⟩ t8 fun c o nc e => ?_
  simp only [List.mem_cons, List.not_mem_nil, or_false, not_or] at nc
  exact up c o nc.1 (keep5 c o nc.1 nc.2.2.1 nc.2.2.2.1 nc.2.2.2.2 e)
theorem zip_ended {Q : Fin → Shared → Prop} (hh : A.handled = none) (D : ZAp z TI TO i1 i2) (n1 : l1 ∉ [z, TI, TO, i1, i2]) (n2 : l2 ∉ [z, TI, TO, i1, i2]) (st : ZSt T1 T2 z TI TO i1 i2 l1 l2 .none k s.heap)
    (hl1 : IsSq T1 s.heap l1 xs) (hl2 : IsSq T2 s.heap l2 ys) (hend : xs[k]? = none ∨ ys[k]? = none)
    (hE : ∀ h' e, (∀ c o, c ∉ [z, TI, TO, i1, i2] → s.heap.get? c = some o → h'.get? c = some o) → (∃ o, h'.get? e = some o ∧ o.cls = .type "StopIteration") → E (.ref e) { s with heap := h' }) :
    wpAny (model prog w) A (Builtin.«zip.__next__» ⟨[.ref z], []⟩) Q E s := by
  obtain ⟨hz, hI, ⟨a0, b0, hO⟩, h1, h2⟩ := st
  simp only [List.mem_cons, List.not_mem_nil, or_false, not_or] at n1 n2
  have nin : ∀ c, c ∉ [z, TI, TO, i1, i2] → c ≠ z ∧ c ≠ TI ∧ c ≠ TO ∧ c ≠ i1 ∧ c ≠ i2 := fun c h => by simpa only [List.mem_cons, List.not_mem_nil, or_false, not_or] using h
  show wpAny _ _ (field (.ref z) 2 >>= _) _ _ _; refine wpAny_bind (wpAny_field hz rfl (x := .bool false) rfl ?_)
  show wpAny _ _ (field (.ref z) 3 >>= _) _ _ _; refine wpAny_bind (wpAny_field hz rfl (x := .ref TI) rfl ?_)
  refine wpAny_bind (wpAny_seqItems hI rfl ?_); show wpAny _ _ (Builtin.SmallTypes.ownedTupleIsFree (.ref z) >>= _) _ _ _
  refine wpAny_bind ?_; unfold Builtin.SmallTypes.ownedTupleIsFree; refine wpAny_bind (wpAny_field hz rfl (x := .none) rfl (wpAny_pure ?_))
  simp only [if_true]; refine wpAny_bind (wpAny_rule ?_); refine wpAny_bind (wpAny_field hz rfl (x := .ref TO) rfl ?_)
  refine wpAny_bind (wpAny_setField_rec hz (by simp) fun g1 z1 m1 => ?_); replace z1 : IsZip g1 z TI TO .ellipsis := z1
  refine wpAny_bind ?_; simp only [List.zipIdx_cons, List.zipIdx_nil, List.forIn_cons, List.forIn_nil]
  refine wpAny_bind (wpAny_bind (wpAny_onRaise ?_)); show wpAny _ _ (Builtin.SmallTypes.nextOf (.ref i1) >>= _) _ _ _
  cases hx : xs[k]? with
  | none =>
    refine wpAny_bind (sq_ended (s := { s with heap := g1 }) hh (h1.at fun o e => m1.extBut _ _ D.c e) (hl1.at fun o e => m1.extBut _ _ n1.1 e) hx fun g2 e m2 he => ?_)
    obtain ⟨oe, hoe, hce⟩ := he
    have z2 : IsZip g2 z TI TO .ellipsis := m2 _ _ D.c.symm z1
    have ez : e ≠ z := fun q => by subst q; rw [z2] at hoe; cases hoe; simp at hce
    refine wpAny_setField_rec z2 (by simp) fun g3 _ m3 => hE g3 e (fun c o nc q => ?_) ⟨oe, m3.extBut _ _ ez hoe, hce⟩
    obtain ⟨c1, c2, c3, c4, c5⟩ := nin c nc
    exact m3.extBut _ _ c1 (m2 _ _ c4 (m1.extBut _ _ c1 q))
  | some x =>
    have hy : ys[k]? = none := by rcases hend with q | q; (rw [hx] at q; cases q); exact q
    refine wpAny_bind (sq_next (s := { s with heap := g1 }) (h1.at fun o e => m1.extBut _ _ D.c e) (hl1.at fun o e => m1.extBut _ _ n1.1 e) hx fun g2 p2 m2 => wpAny_pure ?_)
    have o2 : IsPair g2 TO a0 b0 := m2.extBut _ _ D.h (m1.extBut _ _ D.b hO)
    refine wpAny_bind (wpAny_seqItems o2 rfl ?_); refine wpAny_bind (wpAny_updateSeq_pair o2 fun g3 o3 m3 => ?_)
    refine wpAny_bind (wpAny_letGo (wpAny_pure ?_)); refine wpAny_bind (wpAny_bind (wpAny_onRaise ?_)); show wpAny _ _ (Builtin.SmallTypes.nextOf (.ref i2) >>= _) _ _ _
    refine wpAny_bind (sq_ended (s := { s with heap := g3 }) hh (h2.at fun o e => m3.extBut _ _ D.i.symm (m2.extBut _ _ D.j.symm (m1.extBut _ _ D.d e))) (hl2.at fun o e => m3.extBut _ _ n2.2.2.1 (m2.extBut _ _ n2.2.2.2.1 (m1.extBut _ _ n2.1 e))) hy fun g4 e m4 he => ?_)
    obtain ⟨oe, hoe, hce⟩ := he
    have z4 : IsZip g4 z TI TO .ellipsis := m4 _ _ D.d.symm (m3.extBut _ _ D.b.symm (m2.extBut _ _ D.c.symm z1))
    have ez : e ≠ z := fun q => by subst q; rw [z4] at hoe; cases hoe; simp at hce
    refine wpAny_setField_rec z4 (by simp) fun g5 _ m5 => hE g5 e (fun c o nc q => ?_) ⟨oe, m5.extBut _ _ ez hoe, hce⟩
    obtain ⟨c1, c2, c3, c4, c5⟩ := nin c nc
    exact m5.extBut _ _ c1 (m4 _ _ c5 (m3.extBut _ _ c3 (m2.extBut _ _ c4 (m1.extBut _ _ c1 q))))
end
def Itz (K : PySem.W.Frag) (T1 T2 : Bool) (l1 l2 : Addr) : It where
  go := fun i H => ∃ xs ys x y, SqV K T1 H l1 xs ∧ SqV K T2 H l2 ys ∧ xs[i]? = some x ∧ ys[i]? = some y
  yld := fun i H v H' => ∃ T x y, v = .ref T ∧ H T = none ∧ H' = upd H T (.tup [x, y]) ∧ (∀ xs, SqV K T1 H l1 xs → xs[i]? = some x) ∧ ∀ ys, SqV K T2 H l2 ys → ys[i]? = some y
  stop := fun i H => ∃ xs ys, SqV K T1 H l1 xs ∧ SqV K T2 H l2 ys ∧ (xs.length ≤ i ∨ ys.length ≤ i)
theorem ZSt.objs {T1 T2 : Bool} {z TI TO i1 i2 l1 l2 : Addr} {f0 : Value} {i : Nat} {h : Heap} (st : ZSt T1 T2 z TI TO i1 i2 l1 l2 f0 i h) : ∀ b ∈ [z, TI, TO, i1, i2], ∃ o, h.get? b = some o ∧ ∀ v, o.data ≠ .cell v := fun b hb => by
  obtain ⟨hz, hI, ⟨a, c, hO⟩, h1, h2⟩ := st
  simp only [List.mem_cons, List.not_mem_nil, or_false] at hb
  rcases hb with rfl | rfl | rfl | rfl | rfl
  · exact ⟨_, hz, fun v q => by cases q⟩
  · exact ⟨_, hI, fun v q => by cases q⟩
  · exact ⟨_, hO, fun v q => by cases q⟩
  · exact h1.rec'
  · exact h2.rec'
theorem two_line : 2 ≤ sizeLine := by decide
theorem turn_zip {P : Program} {w : World} {K : PySem.W.Frag} {elts : List Expr} {kt : Nat} {tp : Pos} {T1 T2 : Bool} {z TI TO i1 i2 l1 l2 : Addr} (D : ZAp z TI TO i1 i2) (n1 : l1 ∉ [z, TI, TO, i1, i2]) (n2 : l2 ∉ [z, TI, TO, i1, i2]) :
    Turn P w K (.Tuple elts kt tp) (Itz K T1 T2 l1 l2) [z, TI, TO, i1, i2] z (ZSt T1 T2 z TI TO i1 i2 l1 l2 .none) where
  mem := by simp
  obj := fun i h st b hb => st.objs b hb
  keep := fun i h h' st k => by
    obtain ⟨hz, hI, ⟨a, c, hO⟩, h1, h2⟩ := st
    exact ⟨k z (by simp) _ hz, k TI (by simp) _ hI, ⟨a, c, k TO (by simp) _ hO⟩, h1.at fun o e => k i1 (by simp) o e, h2.at fun o e => k i2 (by simp) o e⟩
  item := by
    intro X hP hw hK hc i pins s σ H E I hf st hg
    subst hP hw hK
    obtain ⟨xs, ys, x, y, q1, q2, e1, e2⟩ := hg
    obtain ⟨is1, r1, p1, _⟩ := I.sq q1
    obtain ⟨is2, r2, p2, _⟩ := I.sq q2
    obtain ⟨u1, hu1, ru1⟩ := r1.get e1
    obtain ⟨u2, hu2, ru2⟩ := r2.get e2
    have hT : s.TypeIs (.ref z) "zip" := ⟨_, st.hz, rfl⟩
    unfold pyNext
    refine wpAny_bind (wpAny_attempt (wpAny_callSpecial?_slot (name := Str.ofString "__next__") hT PySem.F.slot_zip_next (wpAny_call_entry PySem.F.slot_zip_next hT PySem.F.entry_zip_next (zip_goes D n1 n2 st p1 p2 (by simpa using hu1) (by simpa using hu2) fun h' st' ht k => wpAny_pure ?_) (PySem.F.args_zip_next_1 _))))
    refine ⟨_, rfl, wpAny_letOwnedTupleGo_zip st'.hz fun h2 hz2 m => ?_⟩
    have kk : ∀ b u, b ∉ [z, TI, TO, i1, i2] → s.heap.get? b = some u → h2.get? b = some u := fun b u nb e => m.extBut _ _ (fun q => nb (by simp [q])) (k b u nb e)
    have hne : s.heap.objs.size ≠ z := Nat.ne_of_gt (Heap.lt_size st.hz)
    have ht2 : IsPair h2 s.heap.objs.size u1 u2 := m.extBut _ _ hne ht
    obtain ⟨a', c', hO'⟩ := st'.hO
    refine ⟨.ref s.heap.objs.size, upd H s.heap.objs.size (.tup [x, y]), I.turnedNew (t' := s.toks) kk hf (Nat.le_refl _) ⟨two_line, [u1, u2], .cons ru1 (.cons ru2 .nil), ⟨_, ht2, rfl, _, rfl⟩⟩, rfl,
      ⟨_, x, y, rfl, I.hok.fresh (Nat.le_refl _), rfl, fun xs' q => by rw [I.sq_inj q q1]; exact e1, fun ys' q => by rw [I.sq_inj q q2]; exact e2⟩, ⟨hz2, m.extBut _ _ D.a st'.hI, ⟨a', c', m.extBut _ _ D.b hO'⟩, st'.h1.at fun o e => m.extBut _ _ D.c e, st'.h2.at fun o e => m.extBut _ _ D.d e⟩, fun b hb => ?_⟩
    obtain ⟨o, ho, _⟩ := st.objs b hb
    rw [upd_ne (Nat.ne_of_lt (Heap.lt_size ho))]
    exact (hf b hb).1
  done := by
    intro X hP hw hK hc i pins s σ H E I hf st hg
    subst hP hw hK
    obtain ⟨xs, ys, q1, q2, hs⟩ := hg
    obtain ⟨is1, r1, p1, _⟩ := I.sq q1
    obtain ⟨is2, r2, p2, _⟩ := I.sq q2
    have l1' := r1.length
    have l2' := r2.length
    have hT : s.TypeIs (.ref z) "zip" := ⟨_, st.hz, rfl⟩
    unfold pyNext
    refine wpAny_bind (wpAny_attempt (wpAny_callSpecial?_slot (name := Str.ofString "__next__") hT PySem.F.slot_zip_next (wpAny_call_entry PySem.F.slot_zip_next hT PySem.F.entry_zip_next (zip_ended (I.ok.hd hc) D n1 n2 st p1 p2 (by simp; omega) fun h' e k he => ?_) (PySem.F.args_zip_next_1 _))))
    obtain ⟨o, ho, hc'⟩ := he
    exact wpAny_bind (wpAny_isInstance (T := "StopIteration") (b := true) ⟨o, ho, hc'⟩ isSubtype_stop (wpAny_pure ⟨rfl, I.turnedL (t' := s.toks) k hf⟩))
  self := fun _ _ _ _ _ st h => wpAny_pyIter_zip st.hz h
abbrev zg1 (T1 : Bool) (h : Heap) (l1 : Addr) : Heap := h.push (sqObj T1 l1)
abbrev zg2 (T1 T2 : Bool) (h : Heap) (l1 l2 : Addr) : Heap := (zg1 T1 h l1).push (sqObj T2 l2)
abbrev zg3 (T1 T2 : Bool) (h : Heap) (l1 l2 : Addr) : Heap := (zg2 T1 T2 h l1 l2).push { cls := .type "tuple", data := .seq #[.ref h.objs.size, .ref (zg1 T1 h l1).objs.size] }
abbrev zg4 (T1 T2 : Bool) (h : Heap) (l1 l2 : Addr) : Heap := (zg3 T1 T2 h l1 l2).push { cls := .type "tuple", data := .seq #[.none, .none] }
abbrev zg5 (T1 T2 : Bool) (h : Heap) (l1 l2 : Addr) : Heap := (zg4 T1 T2 h l1 l2).push { cls := .type "zip", data := .fields #[.none, .bool false, .bool false, .ref (zg2 T1 T2 h l1 l2).objs.size, .ref (zg3 T1 T2 h l1 l2).objs.size] }
theorem zip_new (T1 T2 : Bool) (l1 l2 : Addr) (xs ys : Array Value) : Meets (Builtin.«zip.__new__» ⟨[.type "zip", .ref l1, .ref l2], []⟩) (fun _ R s => IsSq T1 s.heap l1 xs ∧ IsSq T2 s.heap l2 ys ∧
    R (.ok (.ret (.ref (zg4 T1 T2 s.heap l1 l2).objs.size))) { s with heap := zg5 T1 T2 s.heap l1 l2 }) := .of_wp fun prog w A R s h => by
  obtain ⟨hp, g, d, tk, os⟩ := s
  obtain ⟨hl1, hl2, h⟩ := h
  have hsub := sub_zip
  have e1 : IsSq T1 (Shared.heap ⟨hp, g, d, tk, os⟩) l1 xs := hl1
  have e2 : IsSq T2 (Shared.heap ⟨hp.push (sqObj T1 l1), g, d, tk, os⟩) l2 ys := hl2.at fun o e => Heap.get?_push_of_some _ e
  wp_walk using sq_pyIter e1, sq_pyIter e2
  exact ⟨_, rfl, h⟩
section
variable {prog : Program} {w : World} {A : Around} {E : Value → Shared → Prop} {s : Shared}
theorem zip_made {T1 T2 : Bool} {l1 l2 : Addr} {xs ys : Array Value} {Q : Value → Shared → Prop} (hl1 : IsSq T1 s.heap l1 xs) (hl2 : IsSq T2 s.heap l2 ys)
    (h : ∀ h' z TI TO i1 i2, ZAp z TI TO i1 i2 → (∀ b ∈ [z, TI, TO, i1, i2], s.heap.objs.size ≤ b) → ZSt T1 T2 z TI TO i1 i2 l1 l2 .none 0 h' → (∀ c o, s.heap.get? c = some o → h'.get? c = some o) → Q (.ref z) { s with heap := h' }) :
    wpAny (model prog w) A (call (.type "zip") [.ref l1, .ref l2]) Q E s := by
  refine callType_new PySem.F.called_zip (by decide) (PySem.F.typeCall_zip_2 _ _) (PySem.F.newCall_zip_2 _ _) (fun obj => PySem.F.args_object_init_3 obj _ _) PySem.F.entry_zip_new (zip_new T1 T2 l1 l2 xs ys) ⟨hl1, hl2, ?_⟩
  have z1 : (zg1 T1 s.heap l1).objs.size = s.heap.objs.size + 1 := Heap.size_push ..
  have z2 : (zg2 T1 T2 s.heap l1 l2).objs.size = s.heap.objs.size + 2 := by rw [Heap.size_push, z1]
  have z3 : (zg3 T1 T2 s.heap l1 l2).objs.size = s.heap.objs.size + 3 := by rw [Heap.size_push, z2]
  have z4 : (zg4 T1 T2 s.heap l1 l2).objs.size = s.heap.objs.size + 4 := by rw [Heap.size_push, z3]
  have g5 : (zg5 T1 T2 s.heap l1 l2).get? (zg4 T1 T2 s.heap l1 l2).objs.size = some _ := Heap.get?_push_size _ rfl
  have g4 : (zg5 T1 T2 s.heap l1 l2).get? (zg3 T1 T2 s.heap l1 l2).objs.size = some _ := Heap.get?_push_of_some _ (Heap.get?_push_size _ rfl)
  have g3 : (zg5 T1 T2 s.heap l1 l2).get? (zg2 T1 T2 s.heap l1 l2).objs.size = some _ := Heap.get?_push_of_some _ (Heap.get?_push_of_some _ (Heap.get?_push_size _ rfl))
  have s2 : SqIt T2 (zg5 T1 T2 s.heap l1 l2) (zg1 T1 s.heap l1).objs.size l2 0 := (SqIt.new (zg1 T1 s.heap l1) l2).at fun o e => Heap.get?_push_of_some _ (Heap.get?_push_of_some _ (Heap.get?_push_of_some _ e))
  have s1 : SqIt T1 (zg5 T1 T2 s.heap l1 l2) s.heap.objs.size l1 0 := (SqIt.new s.heap l1).at fun o e => Heap.get?_push_of_some _ (Heap.get?_push_of_some _ (Heap.get?_push_of_some _ (Heap.get?_push_of_some _ e)))
  have ap : ZAp (zg4 T1 T2 s.heap l1 l2).objs.size (zg2 T1 T2 s.heap l1 l2).objs.size (zg3 T1 T2 s.heap l1 l2).objs.size s.heap.objs.size (zg1 T1 s.heap l1).objs.size := by
    rw [z1, z2, z3, z4]
    have k : ∀ n a b : Nat, a ≠ b → n + a ≠ n + b := fun n a b h => by omega
    exact ⟨k _ 2 4 (by decide), k _ 3 4 (by decide), k _ 0 4 (by decide), k _ 1 4 (by decide), k _ 2 3 (by decide), k _ 2 0 (by decide), k _ 2 1 (by decide), k _ 3 0 (by decide), k _ 3 1 (by decide), k _ 0 1 (by decide)⟩
  refine ⟨⟨_, g5, rfl⟩, h _ _ _ _ _ _ ap (fun b hb => ?_) ⟨g5, g3, ⟨_, _, g4⟩, s1, s2⟩ fun c o e => Heap.get?_push_of_some _ (Heap.get?_push_of_some _ (Heap.get?_push_of_some _ (Heap.get?_push_of_some _ (Heap.get?_push_of_some _ e))))⟩
  rw [z1, z2, z3, z4] at hb
  simp only [List.mem_cons, List.not_mem_nil, or_false] at hb
  rcases hb with rfl | rfl | rfl | rfl | rfl <;> omega
end
section
variable {X : Cx}
def iZip (K : PySem.W.Frag) (ta : TA) : TI := fun σ H R => ta σ H fun vs H1 => ∃ l1 l2 T1 T2 xs ys, vs = [.ref l1, .ref l2] ∧ SqV K T1 H1 l1 xs ∧ SqV K T2 H1 l2 ys ∧ R (Itz K T1 T2 l1 l2) H1
theorem pi_zip {a b : Expr} {elts : List Expr} {kt : Nat} {tp : Pos} {ta : TA} {p pos : Pos} (hg : Gl X "zip") (hm : X.mg "zip" = none) (ha : PA X [a, b] ta) (hs : starEach [a, b] X.env = [(false, eval a X.env), (false, eval b X.env)] := by rfl) (hs2 : starEach [b] X.env = [(false, eval b X.env)] := by rfl) :
    PI X (.Tuple elts kt tp) (.Call (.Name "zip" p) [a, b] [] pos) (iZip X.K ta) := by
  intro pins s σ H R I h
  refine Call_ (ld_blt I hg hm PyProof.Rows.boot_zip (PyProof.Rows.callWith_type1 (thn (ha pos pins s σ H _ I h) fun us s1 ⟨vs, H1, I1, r1, q1⟩ => ?_) (by rw [hs, hs2]) (by rw [hs2]; rfl)))
  obtain ⟨l1, l2, T1, T2, xs, ys, e, q1, q2, q⟩ := q1
  subst e
  obtain ⟨u, v, rfl, r, r'⟩ := Vals.two r1
  cases r
  cases r'
  obtain ⟨is1, _, p1, _⟩ := I1.sq q1
  obtain ⟨is2, _, p2, _⟩ := I1.sq q2
  refine zip_made p1 p2 fun h' z TI TO i1 i2 ap fr st k => wpAny_pyIter_zip st.hz ?_
  have nl : ∀ l, l < s1.heap.objs.size → l ∉ [z, TI, TO, i1, i2] := fun l hl hb => absurd (Nat.lt_of_lt_of_le hl (fr l hb)) (Nat.lt_irrefl _)
  exact ⟨z, [z, TI, TO, i1, i2], _, _, H1, rfl, I1.kept (t' := s1.toks) k, turn_zip ap (nl l1 p1.lt) (nl l2 p2.lt), st, fun b hb => I1.fpOk (fr b hb) (I1.hok.fresh (fr b hb)), q⟩
end
theorem sq_draws {prog : Program} {w : World} {A : Around} {T : Bool} (hh : A.handled = none) (it a : Addr) (hne : a ≠ it) (xs : Array Value) : Draws prog w A it [it, a] xs.size (fun i v => xs[i]? = some v) (fun i h => SqIt T h it a i ∧ IsSq T h a xs) where
  live := fun _ _ st => let ⟨o, ho, _⟩ := st.1.rec'; ⟨o, ho⟩
  frame := fun _ _ _ st k => ⟨st.1.at fun o e => k it (by simp) o e, st.2.at fun o e => k a (by simp) o e⟩
  item := fun i s Q E hi st hQ => sq_next st.1 st.2 (x := xs[i]) (by simp [hi]) fun h' hit' m => hQ _ h' s.toks (by simp [hi]) ⟨hit', st.2.at fun o e => m.extBut _ _ hne e⟩ m
  done := fun s Q E st hE => sq_ended hh st.1 st.2 (by simp) hE
def Ite (K : PySem.W.Frag) (T : Bool) (l : Addr) : It where
  go := fun i H => ∃ xs x, SqV K T H l xs ∧ xs[i]? = some x
  yld := fun i H v H' => ∃ Tn x, v = .ref Tn ∧ H Tn = none ∧ H' = upd H Tn (.tup [.int (i : Int), x]) ∧ ∀ xs, SqV K T H l xs → xs[i]? = some x
  stop := fun i H => ∃ xs, SqV K T H l xs ∧ xs.length = i
def ESt (T : Bool) (e it l : Addr) (i : Nat) (h : Heap) : Prop := (∃ old, IsEnum h e it i old) ∧ SqIt T h it l i
theorem ESt.objs {T : Bool} {e it l : Addr} {i : Nat} {h : Heap} (st : ESt T e it l i h) : ∀ b ∈ [e, it], ∃ o, h.get? b = some o ∧ ∀ v, o.data ≠ .cell v := fun b hb => by
  obtain ⟨⟨old, he⟩, h1⟩ := st
  simp only [List.mem_cons, List.not_mem_nil, or_false] at hb
  rcases hb with rfl | rfl
  · exact ⟨_, he, fun v q => by cases q⟩
  · exact h1.rec'
theorem turn_enum {P : Program} {w : World} {K : PySem.W.Frag} {elts : List Expr} {kt : Nat} {tp : Pos} {T : Bool} {e it l : Addr} (hei : e ≠ it) (nl : l ∉ [e, it]) : Turn P w K (.Tuple elts kt tp) (Ite K T l) [e, it] e (ESt T e it l) where
  mem := by simp
  obj := fun i h st b hb => st.objs b hb
  keep := fun i h h' st k => by
    obtain ⟨⟨old, he⟩, h1⟩ := st
    exact ⟨⟨old, k e (by simp) _ he⟩, h1.at fun o q => k it (by simp) o q⟩
  item := by
    intro X hP hw hK hc i pins s σ H E I hf st hg
    subst hP hw hK
    obtain ⟨xs, x, q1, e1⟩ := hg
    obtain ⟨is1, r1, p1, _⟩ := I.sq q1
    obtain ⟨u1, hu1, ru1⟩ := r1.get e1
    simp only [List.mem_cons, List.not_mem_nil, or_false, not_or] at nl
    obtain ⟨⟨old, he⟩, h1⟩ := id st
    have hi : i < is1.toArray.size := by rw [List.size_toArray]; exact (List.getElem?_eq_some_iff.mp hu1).1
    have D := sq_draws (prog := X.prog) (w := X.w) (A := X.A.in1) (T := T) (I.ok.hd hc) it l nl.2 is1.toArray
    refine wpAny_pyNext_enum_itemD D he ⟨h1, p1⟩ hi hei (by simp [hei, Ne.symm nl.1]) fun v h' tk hv ho hs' ht hsz k => ⟨_, rfl, wpAny_letOwnedTupleGo_enum ho fun h2 he2 m => ?_⟩
    have ev : v = u1 := by
      have : is1.toArray[i]? = some u1 := by simpa using hu1
      rw [this] at hv; cases hv; rfl
    subst ev
    have hne : s.heap.objs.size ≠ e := Nat.ne_of_gt (Heap.lt_size he)
    have kk : ∀ b u, b ∉ [e, it] → s.heap.get? b = some u → h2.get? b = some u := fun b u nb q => by
      simp only [List.mem_cons, List.not_mem_nil, or_false, not_or] at nb
      exact m.extBut _ _ nb.1 (k b u nb.1 nb.2 q)
    have ht2 : h2.get? s.heap.objs.size = some { cls := .type "tuple", data := .seq #[.int i tk, v] } := m.extBut _ _ hne ht
    refine ⟨.ref s.heap.objs.size, upd H s.heap.objs.size (.tup [.int (i : Int), x]), I.turnedNew (t' := tk + 1) kk hf (Nat.le_refl _) ⟨two_line, [.int i tk, v], .cons ⟨tk, rfl⟩ (.cons ru1 .nil), ⟨_, ht2, rfl, _, rfl⟩⟩, rfl,
      ⟨_, x, rfl, I.hok.fresh (Nat.le_refl _), rfl, fun xs' q => by rw [I.sq_inj q q1]; exact e1⟩, ⟨⟨_, by simpa using he2⟩, hs'.1.at fun o q => m.extBut _ _ (Ne.symm hei) q⟩, fun b hb => ?_⟩
    obtain ⟨o, ho', _⟩ := st.objs b hb
    rw [upd_ne (Nat.ne_of_lt (Heap.lt_size ho'))]
    exact (hf b hb).1
  done := by
    intro X hP hw hK hc i pins s σ H E I hf st hg
    subst hP hw hK
    obtain ⟨xs, q1, hl⟩ := hg
    obtain ⟨is1, r1, p1, _⟩ := I.sq q1
    have l1' := r1.length
    simp only [List.mem_cons, List.not_mem_nil, or_false, not_or] at nl
    obtain ⟨⟨old, he⟩, h1⟩ := id st
    have D := sq_draws (prog := X.prog) (w := X.w) (A := X.A.in1) (T := T) (I.ok.hd hc) it l nl.2 is1.toArray
    refine wpAny_pyNext_enum_endD D he ⟨by rw [List.size_toArray, ← l1', hl]; exact h1, p1⟩ fun h' ex => ⟨rfl, I.turnedL (t' := s.toks) (fun b u nb q => ex b u (fun z => nb (by simp [z])) q) hf⟩
  self := fun _ _ _ _ _ st h => by
    obtain ⟨⟨old, he⟩, _⟩ := st
    exact wpAny_pyIter_enum he h
theorem enum_newT (l : Addr) (xs : Array Value) : Meets (Builtin.«enumerate.__new__» ⟨[.type "enumerate", .ref l], []⟩) (fun _ R s => s.heap.IsTuple l xs ∧
    R (.ok (.ret (.ref (s.heap.push (sqObj true l)).objs.size))) { s with heap := (s.heap.push (sqObj true l)).push { cls := .type "enumerate", data := .fields #[.none, .bool false, .ref s.heap.objs.size, rawInt 0, .none, .none] } }) := .of_wp fun prog w A R s h => by
  obtain ⟨hp, g, d, tk, os⟩ := s
  obtain ⟨hl, h⟩ := h
  obtain ⟨⟨c, dct, dt, sl⟩, hg, hc, n, hd⟩ := id hl
  replace hc : c = .type "tuple" := hc
  replace hd : dt = .seq xs n := hd
  subst hc hd
  have hsub := sub_enumerate
  have e1 : IsSq true (Shared.heap ⟨hp, g, d, tk, os⟩) l xs := hl
  wp_walk using AutoSeq1.wpAny_loadPart' hg
  refine wpAny_stack_any fun st => wpAny_pure ?_
  split
  · rename_i c _ _ _ _ _
    cases (c == Value.type "enumerate") <;> (wp_walk using AutoSeq1.wpAny_loadPart' hg, sq_pyIter e1; exact ⟨_, rfl, h⟩)
  · wp_walk using AutoSeq1.wpAny_loadPart' hg, sq_pyIter e1
    exact ⟨_, rfl, h⟩
section
variable {prog : Program} {w : World} {A : Around} {E : Value → Shared → Prop} {s : Shared}
theorem enum_made {T : Bool} {l : Addr} {xs : Array Value} {Q : Value → Shared → Prop} (hl : IsSq T s.heap l xs)
    (h : ∀ h' e it, e ≠ it → s.heap.objs.size ≤ e → s.heap.objs.size ≤ it → ESt T e it l 0 h' → (∀ c o, s.heap.get? c = some o → h'.get? c = some o) → Q (.ref e) { s with heap := h' }) :
    wpAny (model prog w) A (call (.type "enumerate") [.ref l]) Q E s := by
  cases T with
  | false => exact call_enumerate_list hl fun h' he hit hsz k => h h' _ _ (by omega) (by omega) (by omega) ⟨⟨_, he⟩, hit⟩ k
  | true =>
    refine callType_new PySem.F.called_enumerate (by decide) (PySem.F.typeCall_enumerate_1 _) (PySem.F.newCall_enumerate_1 _) (fun obj => PySem.F.args_object_init_2 obj _) PySem.F.entry_enumerate_new (enum_newT l xs) ⟨hl, ?_⟩
    have z1 : (s.heap.push (sqObj true l)).objs.size = s.heap.objs.size + 1 := Heap.size_push ..
    have he : IsEnum ((s.heap.push (sqObj true l)).push { cls := .type "enumerate", data := .fields #[.none, .bool false, .ref s.heap.objs.size, rawInt 0, .none, .none] }) (s.heap.push (sqObj true l)).objs.size s.heap.objs.size 0 .none := Heap.get?_push_size _ rfl
    have hi : SqIt true ((s.heap.push (sqObj true l)).push { cls := .type "enumerate", data := .fields #[.none, .bool false, .ref s.heap.objs.size, rawInt 0, .none, .none] }) s.heap.objs.size l 0 := (SqIt.new (T := true) s.heap l).at fun o e => Heap.get?_push_of_some _ e
    exact ⟨⟨_, he, rfl⟩, h _ _ _ (by rw [z1]; omega) (by rw [z1]; omega) (Nat.le_refl _) ⟨⟨_, he⟩, hi⟩ fun c o e => Heap.get?_push_of_some _ (Heap.get?_push_of_some _ e)⟩
end
section
variable {X : Cx}
def iEnum (K : PySem.W.Frag) (ta : TA) : TI := fun σ H R => ta σ H fun vs H1 => ∃ l T xs, vs = [.ref l] ∧ SqV K T H1 l xs ∧ R (Ite K T l) H1
theorem pi_enum {a : Expr} {elts : List Expr} {kt : Nat} {tp : Pos} {ta : TA} {p pos : Pos} (hg : Gl X "enumerate") (hm : X.mg "enumerate" = none) (ha : PA X [a] ta) (hs : starEach [a] X.env = [(false, eval a X.env)] := by rfl) :
    PI X (.Tuple elts kt tp) (.Call (.Name "enumerate" p) [a] [] pos) (iEnum X.K ta) := by
  intro pins s σ H R I h
  refine Call_ (ld_blt I hg hm PyProof.Rows.boot_enumerate (PyProof.Rows.callWith_type1 (thn (ha pos pins s σ H _ I h) fun us s1 ⟨vs, H1, I1, r1, q1⟩ => ?_) hs rfl))
  obtain ⟨l, T, xs, e, q1, q⟩ := q1
  subst e
  obtain ⟨u, rfl, r⟩ := vals1 r1
  cases r
  obtain ⟨is1, _, p1, _⟩ := I1.sq q1
  refine enum_made p1 fun h' e it ne f1 f2 st k => ?_
  obtain ⟨⟨old, he⟩, _⟩ := id st
  refine wpAny_pyIter_enum he ?_
  have lt := p1.lt
  have fr : ∀ b ∈ [e, it], s1.heap.objs.size ≤ b := fun b hb => by
    simp only [List.mem_cons, List.not_mem_nil, or_false] at hb
    rcases hb with rfl | rfl
    · exact f1
    · exact f2
  exact ⟨e, [e, it], _, _, H1, rfl, I1.kept (t' := s1.toks) k, turn_enum ne (fun hb => absurd (Nat.lt_of_lt_of_le lt (fr l hb)) (Nat.lt_irrefl _)), st, fun b hb => I1.fpOk (fr b hb) (I1.hok.fresh (fr b hb)), q⟩
end
end L2
end
section
set_option Elab.async false
set_option linter.all false
set_option maxRecDepth 100000
namespace L2
open PySem PySem.Spec PyProof.Rows
theorem sub_ra_reversed : isSubtype (.type "range_iterator") (.type "reversed") = pure false := by rw [isSubtype_type]; kernel_rfl
theorem fits31 {n : Int} (h1 : -(2 ^ 31) ≤ n) (h2 : n < 2 ^ 31) : Builtin.Range.rangeFitsLong n = true := by
  simp [Builtin.Range.rangeFitsLong]
  omega
def revObjR (n : Int) : Obj := { cls := .type "range_iterator", data := .fields #[rawInt ((n.toNat : Int) - 1), rawInt (n.toNat : Int), rawInt (-1)] }
theorem range_rev_gen (r : Addr) (a b c : Int) (t u v : Tok) (hc0 : ¬ (!(Builtin.Range.rangeFitsLong a && Builtin.Range.rangeFitsLong b && Builtin.Range.rangeFitsLong c && Builtin.Range.rangeFitsLong (-c) && Builtin.Range.rangeFitsLong (a - c) && Builtin.Range.rangeFitsLong (Builtin.Range.rangeSize a b c))) = true) :
    Meets (Builtin.«range.__reversed__» ⟨[.ref r], []⟩) (fun _ R s => s.heap.get? r = some { cls := .type "range", dict := none, data := .fields #[.int a t, .int b u, .int c v], slots := #[] } ∧
    R (.ok (.ret (Value.ref s.heap.objs.size))) { s with heap := s.heap.push { cls := Value.type (if (Builtin.Range.rangeFitsLong a && Builtin.Range.rangeFitsLong b && Builtin.Range.rangeFitsLong c && Builtin.Range.rangeFitsLong (-c) && Builtin.Range.rangeFitsLong (a - c) && Builtin.Range.rangeFitsLong (Builtin.Range.rangeSize a b c)) = true then "range_iterator" else "longrange_iterator"), data := Data.fields #[rawInt (a + (Builtin.Range.rangeSize a b c - 1) * c), rawInt (Builtin.Range.rangeSize a b c), rawInt (-c)] }, toks := s.toks }) := .of_wp fun prog w A R s h => by
  obtain ⟨hp, g, d, tk, os⟩ := s
  obtain ⟨hl, h⟩ := h
  wp_walk
  exact ⟨_, rfl, h⟩
theorem range_rev_meets (r : Addr) (n : Int) (t u v : Tok) (h1 : -(2 ^ 31) ≤ n) (h2 : n < 2 ^ 31) : Meets (Builtin.«range.__reversed__» ⟨[.ref r], []⟩) (fun _ R s => IsRange s.heap r 0 n 1 t u v ∧
    R (.ok (.ret (.ref s.heap.objs.size))) { s with heap := s.heap.push (revObjR n) }) := by
  have e0 : Builtin.Range.rangeSize 0 n 1 = (n.toNat : Int) := by rw [rangeSize_one]; split <;> omega
  have sm : (Builtin.Range.rangeFitsLong 0 && Builtin.Range.rangeFitsLong n && Builtin.Range.rangeFitsLong 1 && Builtin.Range.rangeFitsLong (-1) && Builtin.Range.rangeFitsLong (0 - 1) && Builtin.Range.rangeFitsLong (Builtin.Range.rangeSize 0 n 1)) = true := by
    rw [e0, fits31 h1 h2, fits31 (n := 0) (by decide) (by decide), fits31 (n := 1) (by decide) (by decide), fits31 (n := -1) (by decide) (by decide), fits31 (n := 0 - 1) (by decide) (by decide), fits31 (n := (n.toNat : Int)) (by omega) (by omega)]
    rfl
  have G := range_rev_gen r 0 n 1 t u v (by rw [sm]; decide)
  intro prog w A R s h
  refine G prog w A R s ⟨h.1, ?_⟩
  rw [sm, if_pos rfl, e0]
  have e1 : (0 : Int) + ((n.toNat : Int) - 1) * 1 = (n.toNat : Int) - 1 := by omega
  rw [e1]
  exact h.2
section
variable {prog : Program} {w : World} {A : Around} {E : Value → Shared → Prop} {s : Shared}
theorem rng_rev_new {r : Addr} {n : Int} {t u v : Tok} {Q₁ : Value → Shared → Prop} (hr : IsRange s.heap r 0 n 1 t u v) (h1 : -(2 ^ 31) ≤ n) (h2 : n < 2 ^ 31)
    (h : Q₁ (.ref s.heap.objs.size) { s with heap := s.heap.push (revObjR n) }) :
    codeAny (model prog w) A (.call (.builtin "reversed.__new__") ⟨[.type "reversed", .ref r], []⟩) (wants Q₁ E) s := by
  have hT : s.TypeIs (.ref r) "range" := ⟨_, hr, rfl⟩
  refine codeAny_of_tree ?_
  show wpAny _ A.in1 (do checkBuiltinCall "reversed.__new__" ⟨[.type "reversed", .ref r], []⟩; again (.builtin "reversed.__new__" ⟨[.type "reversed", .ref r], []⟩)) _ _ s
  refine wpAny_bind (wpAny_of_eq (PySem.F.newCall_reversed_1 _) (wpAny_pure ⟨plainId_quiet PySem.F.plain_reversed_new _, codeAny_builtin PySem.F.entry_reversed_new ?_⟩))
  rw [Around.under_plainId PySem.F.plain_reversed_new _]; unfold Builtin.«reversed.__new__»
  refine wpAny_bind (wpAny_of_eq (newClass_reversed _) ?_); try dsimp only
  refine wpAny_bind (wpAny_of_eq (a := ()) (by first | rfl | kernel_rfl) ?_); refine wpAny_bind (wpAny_of_eq (a := ()) (by first | rfl | kernel_rfl) ?_); try dsimp only
  refine wpAny_bind (wpAny_specialOf hT PySem.F.slot_range_reversed.lookup ?_); try dsimp only
  refine wpAny_bind (wpAny_of_eq (PySem.F.slot_range_reversed.bind _) ?_); try dsimp only
  first
  | rw [if_neg (show ¬ ((Value.builtin "range.__reversed__" == Value.none) = true) from Bool.false_ne_true)]
  | (show wpAny _ _ (if (Value.builtin "range.__reversed__" == Value.none) = true then _ else _) _ _ _; rw [if_neg (show ¬ ((Value.builtin "range.__reversed__" == Value.none) = true) from Bool.false_ne_true)])
  refine wpAny_bind (wpAny_rule ?_)
  refine wpAny_bind (m := runValue (.call (.builtin "range.__reversed__") ⟨[.ref r], []⟩)) (show wpAny _ _ (call (.builtin "range.__reversed__") [.ref r]) _ _ _ from call_meets PySem.F.slot_range_reversed hT PySem.F.entry_range_reversed (PySem.F.args_range_reversed_1 _) (range_rev_meets r n t u v h1 h2) ⟨hr, ?_⟩)
  first
  | exact wpAny_pure h
  | exact wpAny_bind (wpAny_pure (wpAny_pure h))
theorem rng_rev {r : Addr} {n : Int} {t u v : Tok} {Q : Value → Shared → Prop} (hr : IsRange s.heap r 0 n 1 t u v) (h1 : -(2 ^ 31) ≤ n) (h2 : n < 2 ^ 31) (h : Q (.ref s.heap.objs.size) { s with heap := s.heap.push (revObjR n) }) :
    wpAny (model prog w) A (call (.type "reversed") [.ref r]) Q E s := by
  refine callType_other (U := "range_iterator") (Q₁ := fun obj s₁ => obj = .ref s.heap.objs.size ∧ s₁ = { s with heap := s.heap.push (revObjR n) }) (by decide +kernel) PySem.F.create_reversed ⟨_, _, PySem.F.mro_reversed⟩ PySem.F.made_reversed sub_ra_reversed (PySem.F.typeCall_reversed_1 _) (rng_rev_new hr h1 h2 ⟨rfl, rfl⟩) ?_
  rintro obj s₁ ⟨rfl, rfl⟩
  exact ⟨⟨_, Heap.get?_push_size _ rfl, rfl⟩, h⟩
end
section
variable {X : Cx} {tg : Expr}
def iRevR (ta : TA) : TI := fun σ H R => ta σ H fun vs H1 => ∃ j : Int, vs = [.int j] ∧ -(2 ^ 31) ≤ j ∧ j < 2 ^ 31 ∧ R (Itd ((j.toNat : Int) - 1) j.toNat) H1
theorem pi_revRange {a : Expr} {ta : TA} {p p2 pos pos2 : Pos} (hg : Gl X "reversed") (hm : X.mg "reversed" = none) (hg2 : Gl X "range") (hm2 : X.mg "range" = none) (ha : PA X [a] ta) (hs : starEach [a] X.env = [(false, eval a X.env)] := by rfl)
    (hs2 : starEach [.Call (.Name "range" p2) [a] [] pos2] X.env = [(false, eval (.Call (.Name "range" p2) [a] [] pos2) X.env)] := by rfl) :
    PI X tg (.Call (.Name "reversed" p) [.Call (.Name "range" p2) [a] [] pos2] [] pos) (iRevR ta) := by
  intro pins s σ H R I h
  refine Call_ (ld_blt I hg hm PyProof.Rows.boot_reversed (PyProof.Rows.callWith_type1 ?_ hs2 rfl))
  rw [hs2]
  show wpAny _ _ (spliced ((false, eval (.Call (.Name "range" p2) [a] [] pos2) X.env) :: [])) _ _ s
  refine Calls.spliced_cons (Call_ (ld_blt I hg2 hm2 boot_range (PyProof.Rows.callWith_type1 (thn (ha pos2 pins s σ H _ I h) fun us s1 ⟨vs, H1, I1, r1, q1⟩ => ?_) hs rfl)))
  obtain ⟨j, e, q1, q2, q⟩ := q1
  subst e
  obtain ⟨u, rfl, t, rfl⟩ := vals1 r1
  refine call_range_1 (Calls.spliced_nil ?_)
  have I2 : Inv X pins σ H1 { s1 with heap := s1.heap.push { cls := .type "range", data := .fields #[.int 0 s1.toks, .int j t, .int 1 (s1.toks + 1)] }, toks := s1.toks + 1 + 1 } := I1.kept fun b o e => Heap.get?_push_of_some _ e
  refine rng_rev (IsRange.new ..) q1 q2 ?_
  have hi : IsRangeIter (((s1.heap.push { cls := .type "range", data := .fields #[.int 0 s1.toks, .int j t, .int 1 (s1.toks + 1)] })).push (revObjR j)) (s1.heap.push { cls := .type "range", data := .fields #[.int 0 s1.toks, .int j t, .int 1 (s1.toks + 1)] }).objs.size ((j.toNat : Int) - 1) (j.toNat : Int) (-1) := Heap.get?_push_size _ rfl
  refine wpAny_pyIter_rangeiter hi ?_
  refine ⟨_, [(s1.heap.push { cls := .type "range", data := .fields #[.int 0 s1.toks, .int j t, .int 1 (s1.toks + 1)] }).objs.size], _, _, H1, rfl, I2.kept (t' := s1.toks + 1 + 1) fun b o e => Heap.get?_push_of_some _ e, turn_down _ ((j.toNat : Int) - 1) j.toNat, ?_, fun b hb => ?_, q⟩
  · show IsRangeIter _ _ (((j.toNat : Int) - 1) + ((0 : Nat) : Int) * (-1)) ((j.toNat : Int) - ((0 : Nat) : Int)) (-1)
    have e1 : ((j.toNat : Int) - 1) + ((0 : Nat) : Int) * (-1) = (j.toNat : Int) - 1 := by simp
    have e2 : (j.toNat : Int) - ((0 : Nat) : Int) = (j.toNat : Int) := by simp
    rw [e1, e2]
    exact hi
  · have e : b = (s1.heap.push { cls := .type "range", data := .fields #[.int 0 s1.toks, .int j t, .int 1 (s1.toks + 1)] }).objs.size := by simpa using hb
    subst e
    exact I2.fpOk (Nat.le_refl _) (I2.hok.fresh (Nat.le_refl _))
theorem get_list : PGet X (rIxL X.K) := by
  intro pins s σ H o i ov iv Q I ro ri h
  obtain ⟨p, xs, k, z, rfl, rfl, hq, he, q⟩ := h
  cases ro
  obtain ⟨t, rfl⟩ := ri
  obtain ⟨its, r, pl, hz⟩ := I.list hq
  obtain ⟨j, h1, h2, h3, h4, h5⟩ := atI_get he
  obtain ⟨w, ew, rw'⟩ := r.get h2
  have hl := r.length
  have hn := line63
  have fin : EP X pins σ Q w s := ⟨z, H, I, rw', q⟩
  by_cases h0 : 0 ≤ k
  · have hj : k.toNat = j := by
      rw [seqIndex_of h0 h5] at h1
      exact Option.some.inj h1
    exact wpAny_getItem_list pl.isList h0 (by omega) (by rw [hj]; simpa using ew) fin
  · have hj : (k + (its.toArray.size : Int)).toNat = j := by
      rw [seqIndex_neg (by omega) h4] at h1
      rw [List.size_toArray, ← hl]
      exact Option.some.inj h1
    exact wpAny_getItem_list_neg pl.isList (by omega) (by rw [List.size_toArray] <;> omega) (by omega) (by rw [hj]; simpa using ew) fin
end
end L2
namespace HT
open PySem PyProof.Rows
section
variable {prog : Program} {w : World} {A : Around} {E : Value → Shared → Prop} {s : Shared}
theorem getItem_tuple_whole {t sl : Addr} {items : Array Value} {vl vu : Value} {lo hi : Option Int} {Q : Value → Shared → Prop} (ht : IsTup s.heap t items) (hs : s.heap.IsSliceOf sl vl vu .none) (pl : IsPart vl lo) (pu : IsPart vu hi)
    (hw : sIx items.size 0 lo = 0 ∧ sIx items.size items.size hi = items.size) (h : Q (.ref t) s) : wpAny (model prog w) A (getItem (.ref t) (.ref sl)) Q E s := by
  obtain ⟨os, hos, hcs, hds⟩ := id hs
  have hTs : s.TypeIs (.ref sl) "slice" := ⟨os, hos, hcs⟩
  unfold getItem
  try with_reducible refine wpAny_holding ?_
  first | refine wpAny_bind (wpAny_pure ?_) | skip
  refine wpAny_bind (wpAny_sequenceKey ht.typeIs (by decide) ?_)
  refine wpAny_bind (wpAny_callSpecial?_slot (name := Str.ofString "__getitem__") ht.typeIs PyProof.Rows.slot_tuple_getitem (wpAny_call_entry PyProof.Rows.slot_tuple_getitem ht.typeIs entry_tuple_getitem ?_ (args_tuple_getitem _ _)))
  show wpAny _ _ (Builtin.Tuple.tupleItemsOf (.ref t) >>= _) _ _ s
  refine wpAny_bind (tupleItemsOf_ ht ?_)
  refine wpAny_bind (wpAny_typeOf hTs ?_)
  rw [if_pos (by decide)]
  refine wpAny_bind (sliceApplied_gen hs pl pu ?_)
  have hyes : (((sIx items.size 0 lo : Nat) : Int) == 0 && (1 : Int) == 1 && (sIx items.size items.size hi - sIx items.size 0 lo) == items.size) = true := by
    rw [hw.1, hw.2]; simp
  show wpAny _ _ (if (((sIx items.size 0 lo : Nat) : Int) == 0 && (1 : Int) == 1 && (sIx items.size items.size hi - sIx items.size 0 lo) == items.size) = true then _ else _) _ _ s
  rw [if_pos hyes]
  show wpAny _ _ (Builtin.Tuple.tupleIsExact (.ref t) >>= _) _ _ s
  unfold Builtin.Tuple.tupleIsExact
  refine wpAny_bind (wpAny_bind (wpAny_typeOf ht.typeIs (wpAny_pure ?_)))
  show wpAny _ _ (if (Value.type "tuple" == Value.type "tuple") = true then _ else _) _ _ s
  rw [if_pos (by decide)]
  refine wpAny_bind (wpAny_rule ?_)
  first
    | exact wpAny_pure ⟨_, rfl, wpAny_pure h⟩
    | exact wpAny_bind (wpAny_pure (wpAny_pure ⟨_, rfl, wpAny_pure h⟩))
    | exact wpAny_bind (wpAny_pure ⟨_, rfl, wpAny_pure h⟩)
end
end HT
namespace L2
open PySem PySem.Spec PyProof.Rows
section
variable {X : Cx}
def rSlW (K : PySem.W.Frag) : V → Option Int → Option Int → Hp → VK → Prop := fun x lo hi H Q => ∃ a xs, x = .ref a ∧ SqT K H a xs ∧ (HT.sIx xs.length 0 lo = 0 ∧ HT.sIx xs.length xs.length hi = xs.length) ∧ Q (.ref a) H
theorem sl_whole : SlR X (rSlW X.K) := by
  intro pins s σ H x v vl vu lo hi sl Q I rx hs pl pu h
  obtain ⟨a, xs, rfl, hx, hw, q⟩ := h
  cases rx
  obtain ⟨its, r, ht, hz⟩ := I.tuple hx
  have hlen : its.toArray.size = xs.length := by rw [List.size_toArray]; exact r.length.symm
  exact ⟨"tuple", _, PyProof.Rows.slot_tuple_getitem.lookup, ht.typeIs, HT.getItem_tuple_whole ht hs pl pu (by rw [hlen]; exact hw) ⟨.ref a, H, I, rfl, q⟩⟩
end
end L2
namespace M
open PySem PySem.Spec PyProof.Rows L2
section
variable {X : Cx} {K : PySem.W.Frag} {A : AS} {H : Hp} {e a b : Expr} {te ti : UE} {pos p2 : Pos} {C : C0} {ρ ρ' : Ev} {σ : L2.St}
def gSlT (d : D) (lo hi : Option Int) (Q : B → Prop) : Prop := match d with
  | .tup l => Q (.pu (.tup (cutD l lo hi)))
  | .lst l => Q (.ow (cutD l lo hi))
  | .rol l => Q (.ow (cutD l lo hi))
  | _ => False
def uSlT (t : UE) (tl th : UO) : UE := fun ρ Q => t ρ fun b0 ρ1 => tl ρ1 fun lo ρ2 => th ρ2 fun hi ρ3 => gSlT b0.d lo hi fun b => Q b ρ3
theorem cut_whole (l : List D) (lo hi : Option Int) (h : HT.sIx l.length 0 lo = 0 ∧ HT.sIx l.length l.length hi = l.length) : cutD l lo hi = l := by
  unfold cutD
  rw [h.1, h.2]
  simp
theorem pu_sliceT {tl th : UO} {lo hi : Option Expr} (he : PU X e te) (hl : PUO X lo tl) (hu : PUO X hi th) : PU X (.Subscript e (.Slice lo hi none p2) pos) (uSlT te tl th) :=
  PEimp (pe_slice ((sl_list.or sl_tup).or sl_whole) he hl hu) fun σ H Q ⟨C, ρ, Q0, I, h, k⟩ => ⟨C, ρ, _, I, h, fun b0 ρ1 v H1 q f s r => by
    have I1 := (I.frz f).same s
    have rr := r.rep fun a z => I.avF f z
    refine ⟨C, ρ1, _, I1, q, fun l2 ρ2 H2 q2 f2 s2 => ?_⟩
    have I2 := (I1.frz f2).same s2
    refine ⟨C, ρ2, _, I2, q2, fun h3 ρ3 H3 q3 f3 s3 => ?_⟩
    have I3 := (I2.frz f3).same s3
    have s13 := s2.trans s3
    have sAll := s.trans s13
    have fAll := f.trans (f2.trans f3)
    have r' : Rep X.K (Av C ρ3 σ) H3 b0.d v := rr.mono (.sub s13 fun a z => f2.av (f3.av z))
    generalize b0.d = d at r' q3
    cases d with
    | tup l =>
      have r2 := r'
      simp only [Rep] at r'
      obtain ⟨a, vs, rfl, c, rs⟩ := r'
      have hlen := rs.length
      by_cases hw : HT.sIx l.length 0 l2 = 0 ∧ HT.sIx l.length l.length h3 = l.length
      · refine .inr ⟨a, vs, rfl, c.imp And.right id, by rw [← hlen]; exact hw, k _ ρ3 _ _ q3 fAll sAll ?_⟩
        show Rep _ _ _ (.tup (cutD l l2 h3)) _
        rw [cut_whole l l2 h3 hw]
        exact r2
      · exact .inl (.inr ⟨a, vs, rfl, c.imp And.right id, by rw [← hlen]; exact hw, fun p n => k _ ρ3 _ _ q3 fAll (sAll.trans (same_new n _)) (rep_new_tup (fun a z => I3.avSome z) n (rs.cut l2 h3))⟩)
    | lst l =>
      simp only [Rep] at r'
      obtain ⟨a, vs, rfl, n0, c, rs⟩ := r'
      exact .inl (.inl ⟨a, vs, rfl, SqL.of c, fun p n => k _ ρ3 _ _ q3 fAll (sAll.trans (same_new n _)) (rep_new_lst sAll n (rs.cut l2 h3))⟩)
    | rol l =>
      simp only [Rep] at r'
      obtain ⟨a, vs, rfl, c, rs⟩ := r'
      exact .inl (.inl ⟨a, vs, rfl, c.imp And.right id, fun p n => k _ ρ3 _ _ q3 fAll (sAll.trans (same_new n _)) (rep_new_lst sAll n (rs.cut l2 h3))⟩)
    | _ => exact (show False from q3).elim⟩
def uAugI (i : Nat) (f : Int → Int → Int) (ti te : UE) : US := fun D ρ => ownAt ρ i fun _ => ti ρ fun j ρ1 => ownAt ρ1 i fun l1 => ∃ k n x, j.d = .int k ∧ ixN l1.length k = some n ∧ l1[n]? = some (.int x) ∧
  te ρ1 fun b ρ2 => ownAt ρ2 i fun l => ∃ y, b.d = .int y ∧ D.nx (ρ2.set i (some (.ow (l.set n (.int (f x y))))))
theorem us_augI {x : Str} {p tpos : Pos} {ix : Expr} {op : Operator} {f : Int → Int → Int} (i : Nat) (hx : PE X (.Name x p) (tVar i)) (hi : PU X ix ti) (he : PU X e te) (hp : PIp X op (ipI f))
    (ha : ∀ ov iv new, augStore ix ov iv new = (do holding [new, ov, iv] (setItem ov iv new); release [new, ov, iv] []; pure .next) := by intros; rfl) : PUS X (.AugAssign (.Subscript (.Name x p) ix tpos) op e pos) (uAugI i f ti te) :=
  PSimp (ps_augS hx hi get_list he hp set_list ha) fun D σ H ⟨C, ρ, D0, I, h, k⟩ => by
    obtain ⟨l, hl, h⟩ := ownAt_inv h
    obtain ⟨a, vs, h1, h2, h3, h4⟩ := I.ow i l hl
    refine ⟨.ref a, h1, C, ρ, _, I, h, fun j ρ1 w H1 q f1 s1 r1 => ?_⟩
    obtain ⟨l1, hl1, kk, n, x0, ej, en, ex, q⟩ := ownAt_inv q
    have e1 := f1.ow hl1
    rw [hl] at e1; cases e1
    have I1 := (I.frz f1).same s1
    obtain ⟨a1, vs1, g1, g2, g3, g4⟩ := I1.ow i l hl1
    rw [h1] at g1; cases g1
    have rj := r1.rep fun a z => I.avF f1 z
    rw [ej] at rj
    have := rep_int rj
    subst this
    obtain ⟨v0, ev0, rv0⟩ := g4.get ex
    have := rep_int rv0
    subst this
    have hat : L2.atI vs1 kk = some (.int x0) := by unfold L2.atI; rw [← g4.length, en]; exact ev0
    refine ⟨a, vs1, kk, _, rfl, rfl, SqL.of g2, hat, C, ρ1, _, I1, q, fun b ρ2 w2 H2 q2 f2 s2 r2 => ?_⟩
    obtain ⟨l2, hl2, y, eb, q2⟩ := ownAt_inv q2
    have e2 := f2.ow hl2
    rw [hl1] at e2; cases e2
    have I2 := (I1.frz f2).same s2
    obtain ⟨a2, vs2, k1, k2, k3, k4⟩ := I2.ow i l hl2
    rw [h1] at k1; cases k1
    have rb := r2.rep fun a z => I1.avF f2 z
    rw [eb] at rb
    have := rep_int rb
    subst this
    exact ⟨x0, y, rfl, rfl, a, vs2, kk, n, rfl, rfl, k2, by rw [← k4.length]; exact en, k.nx _ _ _ q2 (I2.write hl2 h1 (k4.set n (show Rep _ _ _ _ _ by simp only [Rep])))⟩
mutual
def pd : D → Option PyData
  | .non => some .none
  | .bl b => some (.bool b)
  | .int i => some (.int i)
  | .tup l => (pdL l).map .tuple
  | .lst l => (pdL l).map .list
  | .rol l => (pdL l).map .list
  | .str _ => none
  | .ty _ => none
  | .obj _ _ _ => none
def pdL : List D → Option (List PyData)
  | [] => some []
  | d :: r => (pd d).bind fun x => (pdL r).map (x :: ·)
end
theorem pdL_cons {d : D} {r : List D} {xs : List PyData} (h : pdL (d :: r) = some xs) : ∃ x ys, xs = x :: ys ∧ pd d = some x ∧ pdL r = some ys := by
  simp only [pdL] at h
  cases e : pd d with
  | none => rw [e] at h; cases h
  | some x =>
    rw [e] at h
    cases e2 : pdL r with
    | none => rw [e2] at h; cases h
    | some ys => rw [e2] at h; cases h; exact ⟨x, ys, rfl, rfl, rfl⟩
theorem map_some' {α β : Type} {o : Option α} {f : α → β} {y : β} (h : o.map f = some y) : ∃ x, o = some x ∧ y = f x := by
  cases o with
  | none => cases h
  | some x => cases h; exact ⟨x, rfl, rfl⟩
mutual
theorem pd_can : ∀ (d : D) {x : PyData}, pd d = some x → x.canLay0 = true
  | .non, x, h => by simp only [pd] at h; cases h; rfl
  | .bl b, x, h => by simp only [pd] at h; cases h; rfl
  | .int i, x, h => by simp only [pd] at h; cases h; rfl
  | .tup l, x, h => by simp only [pd] at h; obtain ⟨xs, e, rfl⟩ := map_some' h; simp only [PyData.canLay0]; exact pdL_can l e
  | .lst l, x, h => by simp only [pd] at h; obtain ⟨xs, e, rfl⟩ := map_some' h; simp only [PyData.canLay0]; exact pdL_can l e
  | .rol l, x, h => by simp only [pd] at h; obtain ⟨xs, e, rfl⟩ := map_some' h; simp only [PyData.canLay0]; exact pdL_can l e
  | .str _, x, h => by simp only [pd] at h; cases h
  | .ty _, x, h => by simp only [pd] at h; cases h
  | .obj _ _ _, x, h => by simp only [pd] at h; cases h
theorem pdL_can : ∀ (l : List D) {xs : List PyData}, pdL l = some xs → PyData.canLayAll0 xs = true
  | [], xs, h => by simp only [pdL] at h; cases h; rfl
  | d :: r, xs, h => by
    obtain ⟨x, ys, rfl, e1, e2⟩ := pdL_cons h
    simp only [PyData.canLayAll0, Bool.and_eq_true]
    exact ⟨pd_can d e1, pdL_can r e2⟩
end
section
variable {pins : List (Addr × Obj)} {s : Shared}
mutual
theorem rep_reads (I : Inv X pins σ H s) : ∀ (d : D) {x : PyData} {v : V} {u : Value}, pd d = some x → Rep X.K A H d v → RelV v u → ∃ as, Reads s.heap u x as
  | .non, x, v, u, h, r, q => by simp only [pd] at h; cases h; simp only [Rep] at r; subst r; cases q; exact ⟨_, .none⟩
  | .bl b, x, v, u, h, r, q => by simp only [pd] at h; cases h; simp only [Rep] at r; subst r; cases q; exact ⟨_, .bool b⟩
  | .int i, x, v, u, h, r, q => by simp only [pd] at h; cases h; simp only [Rep] at r; subst r; obtain ⟨t, rfl⟩ := q; exact ⟨_, .int i t⟩
  | .tup l, x, v, u, h, r, q => by
    simp only [pd] at h
    obtain ⟨xs, e, rfl⟩ := map_some' h
    simp only [Rep] at r
    obtain ⟨a, vs, rfl, c, rs⟩ := r
    cases q
    obtain ⟨its, rv, ⟨o, ho, hc, n, hd⟩, hz⟩ := I.tuple (c.imp And.right id)
    obtain ⟨as, ra⟩ := repL_reads I l e rs rv
    exact ⟨_, .tuple ho hc hd (by simpa using ra)⟩
  | .lst l, x, v, u, h, r, q => by
    simp only [pd] at h
    obtain ⟨xs, e, rfl⟩ := map_some' h
    simp only [Rep] at r
    obtain ⟨a, vs, rfl, n0, c, rs⟩ := r
    cases q
    obtain ⟨its, rv, p, hz⟩ := I.list (SqL.of c)
    obtain ⟨o, ho, hc, n, hd⟩ := p.isList
    obtain ⟨as, ra⟩ := repL_reads I l e rs rv
    exact ⟨_, .list ho hc hd (by simpa using ra)⟩
  | .rol l, x, v, u, h, r, q => by
    simp only [pd] at h
    obtain ⟨xs, e, rfl⟩ := map_some' h
    simp only [Rep] at r
    obtain ⟨a, vs, rfl, c, rs⟩ := r
    cases q
    obtain ⟨its, rv, p, hz⟩ := I.list (c.imp And.right id)
    obtain ⟨o, ho, hc, n, hd⟩ := p.isList
    obtain ⟨as, ra⟩ := repL_reads I l e rs rv
    exact ⟨_, .list ho hc hd (by simpa using ra)⟩
  | .str _, x, v, u, h, r, q => by simp only [pd] at h; cases h
  | .ty _, x, v, u, h, r, q => by simp only [pd] at h; cases h
  | .obj _ _ _, x, v, u, h, r, q => by simp only [pd] at h; cases h
theorem repL_reads (I : Inv X pins σ H s) : ∀ (l : List D) {xs : List PyData} {vs : List V} {us : List Value}, pdL l = some xs → RepL X.K A H l vs → Vals vs us → ∃ as, ReadsAll s.heap us xs as
  | [], xs, vs, us, h, r, q => by simp only [pdL] at h; cases h; have := r.unnil; subst this; cases q; exact ⟨_, .nil⟩
  | d :: l, xs, vs, us, h, r, q => by
    obtain ⟨x, ys, rfl, e1, e2⟩ := pdL_cons h
    obtain ⟨v, vr, rfl, r1, rs⟩ := r.uncons
    cases q with
    | cons q1 q2 =>
      obtain ⟨as, h1⟩ := rep_reads I d e1 r1 q1
      obtain ⟨bs, h2⟩ := repL_reads I l e2 rs q2
      exact ⟨_, .cons h1 h2⟩
end
end
def gEqD (neg : Bool) (d e : D) (Q : B → Prop) : Prop := ∃ p q, pd d = some p ∧ pd e = some q ∧ p.depth ≤ 60 ∧ Q (.pu (.bl (neg ^^ p.eqv q)))
theorem ou_eqD (hu : X.A.units + 64 < cLine) : OpU X (compareOp .Eq) (gEqD false) := by
  intro A H d e v w Q0 Q hA r1 r2 g k
  obtain ⟨p, q, e1, e2, hd, g⟩ := g
  refine ⟨fun x y H Q => ∃ (A : AS) (d e : D) (p q : PyData), Rep X.K A H d x ∧ Rep X.K A H e y ∧ pd d = some p ∧ pd e = some q ∧ p.depth ≤ 60 ∧ Q (.bl (p.eqv q)) H, ?_, A, d, e, p, q, r1, r2, e1, e2, hd, k _ _ H g (.refl _) (by rw [Bool.false_xor]; exact rep_bl)⟩
  rintro pins s σ H x y v u Q I rx ry ⟨A, d, e, p, q, r1, r2, e1, e2, hd, h⟩
  obtain ⟨as, ra⟩ := rep_reads I d e1 r1 rx
  obtain ⟨bs, rb⟩ := rep_reads I e e2 r2 ry
  exact SeqAt.compareEq_reads ra rb (pd_can d e1) (pd_can e e2) (by omega) ⟨.bl _, H, I, rfl, h⟩
def SqA (K : PySem.W.Frag) (A : AS) (H : Hp) (T : Bool) (a : Addr) (vs : List V) : Prop := match T with
  | false => (¬ A a ∧ Rd H a (.lst vs)) ∨ KL K a vs
  | true => (¬ A a ∧ Rd H a (.tup vs)) ∨ KT K a vs
theorem SqA.sqv {T : Bool} {a' : Addr} {vs : List V} {A' : AS} {H' : Hp} (c : SqA K A H T a' vs) (P : Pres A H A' H') : SqV K T H' a' vs := by
  cases T <;> (rcases c with ⟨n, c⟩ | c; exact .inl (Rd.pres P n c).2; exact .inr c)
theorem Pres.self : Pres A H A H := fun _ _ n e => ⟨n, e⟩
theorem Rep.sq {d : D} {v : V} {l : List D} (r : Rep K A H d v) (h : seqOf d = some l) : ∃ T a vs, v = .ref a ∧ SqA K A H T a vs ∧ RepL K A H l vs := by
  cases d with
  | tup l' => cases h; simp only [Rep] at r; obtain ⟨a, vs, e, c, r⟩ := r; exact ⟨true, a, vs, e, c, r⟩
  | lst l' => cases h; simp only [Rep] at r; obtain ⟨a, vs, e, n, c, r⟩ := r; exact ⟨false, a, vs, e, .inl ⟨n, .inl c⟩, r⟩
  | rol l' => cases h; simp only [Rep] at r; obtain ⟨a, vs, e, c, r⟩ := r; exact ⟨false, a, vs, e, c, r⟩
  | _ => cases h
theorem RepL.at {l : List D} {vs : List V} {i : Nat} (r : RepL K A H l vs) (hi : i < l.length) : ∃ x, vs[i]? = some x ∧ Rep K A H (l.getD i .non) x := r.get (by rw [List.getD_eq_getElem?_getD, List.getElem?_eq_getElem hi]; rfl)
theorem itok_zip {T1 T2 : Bool} {l1 l2 : Addr} {vs ws : List V} {l m : List D} (c1 : SqA K A H T1 l1 vs) (c2 : SqA K A H T2 l2 ws) (r1 : RepL K A H l vs) (r2 : RepL K A H m ws) :
    ItOk K A H (Itz K T1 T2 l1 l2) (min l.length m.length) (fun i => .tup [l.getD i .non, m.getD i .non]) := by
  have k1 := r1.length
  have k2 := r2.length
  refine ⟨fun A' H' i P hi => ?_, fun A' H' i x H'' P hA hi y => ?_, fun A' H' P => ⟨vs, ws, c1.sqv P, c2.sqv P, by omega⟩⟩
  · obtain ⟨x, e1, _⟩ := r1.at (i := i) (by omega)
    obtain ⟨y, e2, _⟩ := r2.at (i := i) (by omega)
    exact ⟨vs, ws, x, y, c1.sqv P, c2.sqv P, e1, e2⟩
  · obtain ⟨x1, e1, q1⟩ := r1.at (i := i) (by omega)
    obtain ⟨y1, e2, q2⟩ := r2.at (i := i) (by omega)
    obtain ⟨T, a, b, rfl, hT, rfl, ha, hb⟩ := y
    have ea := ha vs (c1.sqv P)
    have eb := hb ws (c2.sqv P)
    rw [e1] at ea; cases ea
    rw [e2] at eb; cases eb
    exact ⟨same_new hT _, rep_new_tup hA hT (.cons (q1.mono P) (.cons (q2.mono P) .nil))⟩
theorem itok_enum {T : Bool} {l1 : Addr} {vs : List V} {l : List D} (c1 : SqA K A H T l1 vs) (r1 : RepL K A H l vs) : ItOk K A H (Ite K T l1) l.length (fun i => .tup [.int (i : Int), l.getD i .non]) := by
  have k1 := r1.length
  refine ⟨fun A' H' i P hi => ?_, fun A' H' i x H'' P hA hi y => ?_, fun A' H' P => ⟨vs, c1.sqv P, k1.symm⟩⟩
  · obtain ⟨x, e1, _⟩ := r1.at hi
    exact ⟨vs, x, c1.sqv P, e1⟩
  · obtain ⟨x1, e1, q1⟩ := r1.at hi
    obtain ⟨T, a, rfl, hT, rfl, ha⟩ := y
    have ea := ha vs (c1.sqv P)
    rw [e1] at ea; cases ea
    exact ⟨same_new hT _, rep_new_tup hA hT (.cons (show Rep _ _ _ _ _ by simp only [Rep]) (.cons (q1.mono P) .nil))⟩
def uZip (ta : UA) : UI := fun ρ Q => ta ρ fun ds ρ1 => match ds with
  | [d, e] => (match seqOf d, seqOf e with
    | some l, some m => Q (min l.length m.length) (fun i => .tup [l.getD i .non, m.getD i .non]) ρ1
    | _, _ => False)
  | _ => False
theorem ui_zip {elts : List Expr} {kt : Nat} {tp p : Pos} {ta : UA} (hg : Gl X "zip") (hm : X.mg "zip" = none) (ha : PUA X [a, b] ta) (hs : starEach [a, b] X.env = [(false, eval a X.env), (false, eval b X.env)] := by rfl) (hs2 : starEach [b] X.env = [(false, eval b X.env)] := by rfl) :
    PUI X (.Tuple elts kt tp) (.Call (.Name "zip" p) [a, b] [] pos) (uZip ta) :=
  PIimp (pi_zip hg hm ha hs hs2) fun σ H R ⟨C, ρ, Q0, I, h, k⟩ => ⟨C, ρ, _, I, h, fun ds ρ1 vs H1 q f s r => by
    split at q
    · rename_i d e
      obtain ⟨v, vr, rfl, rv, rr⟩ := r.uncons
      obtain ⟨w, wr, rfl, rw', rr'⟩ := rr.uncons
      have := rr'.unnil
      subst this
      split at q
      · rename_i l m e1 e2
        obtain ⟨T1, a1, us, rfl, c1, s1⟩ := rv.sq e1
        obtain ⟨T2, a2, ws, rfl, c2, s2⟩ := rw'.sq e2
        exact ⟨a1, a2, T1, T2, us, ws, rfl, c1.sqv .self, c2.sqv .self, k _ _ ρ1 _ H1 q f s (itok_zip c1 c2 s1 s2)⟩
      · exact q.elim
    · exact q.elim⟩
def uEnum (ta : UA) : UI := fun ρ Q => ta ρ fun ds ρ1 => match ds with
  | [d] => (match seqOf d with
    | some l => Q l.length (fun i => .tup [.int (i : Int), l.getD i .non]) ρ1
    | none => False)
  | _ => False
theorem ui_enum {elts : List Expr} {kt : Nat} {tp p : Pos} {ta : UA} (hg : Gl X "enumerate") (hm : X.mg "enumerate" = none) (ha : PUA X [a] ta) (hs : starEach [a] X.env = [(false, eval a X.env)] := by rfl) :
    PUI X (.Tuple elts kt tp) (.Call (.Name "enumerate" p) [a] [] pos) (uEnum ta) :=
  PIimp (pi_enum hg hm ha hs) fun σ H R ⟨C, ρ, Q0, I, h, k⟩ => ⟨C, ρ, _, I, h, fun ds ρ1 vs H1 q f s r => by
    split at q
    · rename_i d
      obtain ⟨v, vr, rfl, rv, rr⟩ := r.uncons
      have := rr.unnil
      subst this
      split at q
      · rename_i l e1
        obtain ⟨T1, a1, us, rfl, c1, s1⟩ := rv.sq e1
        exact ⟨a1, T1, us, rfl, c1.sqv .self, k _ _ ρ1 _ H1 q f s (itok_enum c1 s1)⟩
      · exact q.elim
    · exact q.elim⟩
def uRevR (ta : UA) : UI := fun ρ Q => ta ρ fun ds ρ1 => match ds with
  | [.int j] => (-(2 ^ 31) ≤ j ∧ j < 2 ^ 31) ∧ Q j.toNat (fun k => .int ((j.toNat : Int) - 1 - k)) ρ1
  | _ => False
theorem ui_revR {tg : Expr} {ta : UA} {p q2 pos2 : Pos} (hg : Gl X "reversed") (hm : X.mg "reversed" = none) (hg2 : Gl X "range") (hm2 : X.mg "range" = none) (ha : PUA X [a] ta) (hs : starEach [a] X.env = [(false, eval a X.env)] := by rfl)
    (hs2 : starEach [.Call (.Name "range" q2) [a] [] pos2] X.env = [(false, eval (.Call (.Name "range" q2) [a] [] pos2) X.env)] := by rfl) :
    PUI X tg (.Call (.Name "reversed" p) [.Call (.Name "range" q2) [a] [] pos2] [] pos) (uRevR ta) :=
  PIimp (pi_revRange hg hm hg2 hm2 ha hs hs2) fun σ H R ⟨C, ρ, Q0, I, h, k⟩ => ⟨C, ρ, _, I, h, fun ds ρ1 vs H1 q f s r => by
    split at q
    · rename_i j
      obtain ⟨v, vr, rfl, rv, rr⟩ := r.uncons
      have := rr.unnil
      subst this
      have := rep_int rv
      subst this
      obtain ⟨⟨h1, h2⟩, q⟩ := q
      exact ⟨j, rfl, h1, h2, k _ _ ρ1 _ H1 q f s itok_down⟩
    · exact q.elim⟩
end
end M
end
section
set_option Elab.async false
set_option linter.all false
set_option maxRecDepth 100000
namespace M
open PySem PySem.Spec PyProof.Rows L2
section
variable {X : Cx} {a b c e : Expr} {ta tb tc te : UE} {pos : Pos}
def uChain (g g' : D → D → (B → Prop) → Prop) (ta tb tc : UE) : UE := fun ρ Q => ta ρ fun x ρ1 => tb ρ1 fun y ρ2 => g x.d y.d fun b => isB (fun k ρ3 => if k = true then tc ρ3 fun z ρ4 => g' y.d z.d fun b' => Q b' ρ4 else Q (.pu (.bl false)) ρ3) b ρ2
theorem pu_chain {op op' : CmpOp} {g g' : D → D → (B → Prop) → Prop} (ho : OpU X (compareOp op) g) (ho' : OpU X (compareOp op') g') (ha : PU X a ta) (hb : PU X b tb) (hc : PU X c tc)
    (hm : lastMarks [op, op'] [b, c] = false := by with_unfolding_all rfl) : PU X (.Compare a [op, op'] [b, c] pos) (uChain g g' ta tb tc) :=
  PEimp (pe_chain opAny opAny ha hb hc hm) fun σ H Q ⟨C, ρ, Q0, I, h, k⟩ => ⟨C, ρ, _, I, h, fun x ρ1 v H1 q1 f1 s1 r1 => by
    have I1 := (I.frz f1).same s1
    refine ⟨C, ρ1, _, I1, q1, fun y ρ2 w H2 q2 f2 s2 r2 => ?_⟩
    have I2 := (I1.frz f2).same s2
    have rx : Rep X.K (Av C ρ2 σ) H2 x.d v := (r1.rep fun a z => I.avF f1 z).mono (.sub s2 fun a => f2.av)
    have ry : Rep X.K (Av C ρ2 σ) H2 y.d w := r2.rep fun a z => I1.avF f2 z
    refine ho (Av C ρ2 σ) H2 x.d y.d v w _ _ (fun a z => I2.avSome z) rx ry q2 fun b v' H3 q3 s3 r3 => ?_
    obtain ⟨kk, rfl, q3⟩ := isB_inv q3 r3
    refine ⟨kk, rfl, ?_⟩
    have I3 := I2.same s3
    cases kk with
    | false =>
      rw [if_neg Bool.false_ne_true] at q3 ⊢
      exact k _ _ _ _ q3 (f1.trans f2) (s1.trans (s2.trans s3)) rep_bl
    | true =>
      rw [if_pos rfl] at q3 ⊢
      refine ⟨C, ρ2, _, I3, q3, fun z ρ4 w' H4 q4 f4 s4 r4 => ?_⟩
      have I4 := (I3.frz f4).same s4
      have ry4 : Rep X.K (Av C ρ4 σ) H4 y.d w := ry.mono (.sub (s3.trans s4) fun a => f4.av)
      exact ho' (Av C ρ4 σ) H4 y.d z.d w w' _ Q (fun a z => I4.avSome z) ry4 (r4.rep fun a z => I3.avF f4 z) q4 fun b' v'' H5 q5 s5 r5 => k b' ρ4 v'' H5 q5 (f1.trans (f2.trans f4)) (s1.trans (s2.trans (s3.trans (s4.trans s5)))) (r5.from (s1.trans (s2.trans (s3.trans s4))))⟩
theorem RepL.dropLast {K : PySem.W.Frag} {A : AS} {H : Hp} {l : List D} {vs : List V} (h : RepL K A H l vs) : RepL K A H l.dropLast vs.dropLast := by
  rw [List.dropLast_eq_take, List.dropLast_eq_take, h.length]
  exact h.take _
def uPop (i : Nat) : US := fun D ρ => ownAt ρ i fun l => l ≠ [] ∧ D.nx (ρ.set i (some (.ow l.dropLast)))
end
end M
end
section
set_option Elab.async false
set_option linter.all false
set_option maxRecDepth 100000
namespace L2
open PySem PySem.Spec PyProof.Rows
end L2
end
section
set_option Elab.async false
set_option linter.all false
set_option maxRecDepth 100000
namespace L2
open PySem PySem.Spec PyProof.Rows
theorem rev_none : typeLookup (.type "tuple") "__reversed__" = pure none := by rw [typeLookup_type, builtinLookup_eq_fast]; kernel_rfl
theorem sub_tuple_dict : isSubtype (.type "tuple") (.type "dict") = pure false := by rw [isSubtype_type]; kernel_rfl
theorem owner_rev : Manifest.owners.lookup (String.ofList ['d', 'e', 's', 'r', 'e', 'v', 'e', 'r'].reverse) = some Manifest.sig_reversed := by kernel_rfl
theorem slot_rev_next : Slot "reversed" "__next__" "reversed.__next__" :=
  .of (owner := "reversed") (n := "__next__") (by rw [typeLookup_type, builtinLookup_eq_fast]; kernel_rfl) (by decide +kernel) (by decide +kernel) (by decide +kernel)
    (by first | exact .inl (by decide +kernel) | exact .inr (by decide +kernel)) (by rw [isSubtype_type]; kernel_rfl)
theorem entry_rev_next : entryFor table "reversed.__next__" = some Builtin.«reversed.__next__» := entryFor_of_tree (by kernel_rfl)
theorem args_rev_next_1 (a : Value) : argsOk "reversed.__next__" ⟨[a], []⟩ := by
  unfold argsOk; rw [signature?_of (id := "reversed.__next__") (n := ['_', '_', 't', 'x', 'e', 'n', '_', '_']) (o := ['d', 'e', 's', 'r', 'e', 'v', 'e', 'r']) (by kernel_rfl) owner_rev]; kernel_rfl
theorem slot_rev_iter : Slot "reversed" "__iter__" "reversed.__iter__" :=
  .of (owner := "reversed") (n := "__iter__") (by rw [typeLookup_type, builtinLookup_eq_fast]; kernel_rfl) (by decide +kernel) (by decide +kernel) (by decide +kernel)
    (by first | exact .inl (by decide +kernel) | exact .inr (by decide +kernel)) (by rw [isSubtype_type]; kernel_rfl)
theorem args_rev_iter_1 (a : Value) : argsOk "reversed.__iter__" ⟨[a], []⟩ := by
  unfold argsOk; rw [signature?_of (id := "reversed.__iter__") (n := ['_', '_', 'r', 'e', 't', 'i', '_', '_']) (o := ['d', 'e', 's', 'r', 'e', 'v', 'e', 'r']) (by kernel_rfl) owner_rev]; kernel_rfl
theorem entry_rev_iter : entryFor table "reversed.__iter__" = some Builtin.«dict_keyiterator.__iter__» :=
  entryFor_alias (id' := "dict_keyiterator.__iter__") (by kernel_rfl) (by first | rfl | decide +kernel | (unfold String.splitOn; simp +decide [String.splitOnAux])) (by decide +kernel) (by kernel_rfl)
theorem slot_rev_init : Slot "reversed" "__init__" "object.__init__" :=
  .of (owner := "object") (n := "__init__") (by rw [typeLookup_type, builtinLookup_eq_fast]; kernel_rfl) (by decide +kernel) (by decide +kernel) (by decide +kernel)
    (by first | exact .inl (by decide +kernel) | exact .inr (by decide +kernel)) (by rw [isSubtype_type]; kernel_rfl)
theorem called_rev : TypeCalled "reversed" "reversed.__new__" "object.__init__" :=
  ⟨by decide +kernel, by decide +kernel, ⟨_, _, PySem.F.mro_reversed⟩, PySem.F.made_reversed, by decide +kernel, by rw [isSubtype_type]; kernel_rfl, slot_rev_init⟩
theorem rev_new (l : Addr) (items : Array Value) (hfit : (items.size : Int) < 2 ^ 63) :
    Meets (Builtin.«reversed.__new__» ⟨[.type "reversed", .ref l], []⟩) (fun _ R s => s.heap.IsTuple l items ∧ R (.ok (.ret (.ref s.heap.objs.size))) { s with heap := s.heap.push { cls := .type "reversed", data := .fields #[.ref l, rawInt ((items.size : Int) - 1)] }, toks := s.toks + 1 + 1 }) :=
  .of_wp fun prog w A R s h => by
    obtain ⟨hp, g, d, tk, os⟩ := s; obtain ⟨ht, h⟩ := h
    obtain ⟨⟨c, dct, dt, sl⟩, hl, hc, n, hd⟩ := id ht
    replace hc : c = .type "tuple" := hc
    replace hd : dt = .seq items n := hd
    subst hc hd
    have f1 := PySem.F.sub_reversed_self
    have f2 := rev_none
    have f4 := PySem.F.slot_tuple_getitem.lookup
    have f5 := sub_tuple_dict
    have e1 : IsTup (Shared.heap ⟨hp, g, d, tk, os⟩) l items := ht
    wp_walk using wpAny_loadPart' hl, PyProof.Rows.len_tuple e1 hfit
    exact ⟨_, rfl, h⟩
def IsRevT (h : Heap) (a l : Addr) (i : Int) : Prop := ∃ o, h.get? a = some o ∧ o.cls = .type "reversed" ∧ o.data = .fields #[.ref l, rawInt i]
theorem IsRevT.at {h h' : Heap} {a l : Addr} {i : Int} (x : IsRevT h a l i) (e : ∀ o, h.get? a = some o → h'.get? a = some o) : IsRevT h' a l i := let ⟨o, ho, r⟩ := x; ⟨o, e _ ho, r⟩
section
variable {prog : Program} {w : World} {A : Around} {E : Value → Shared → Prop} {s : Shared}
theorem IsRevT.typeIs {a l : Addr} {i : Int} (x : IsRevT s.heap a l i) : s.TypeIs (.ref a) "reversed" := let ⟨o, ho, hc, _⟩ := x; ⟨o, ho, hc⟩
theorem rev_made {l : Addr} {items : Array Value} {Q : Value → Shared → Prop} (hl : s.heap.IsTuple l items) (hfit : (items.size : Int) < 2 ^ 63)
    (h : Q (.ref s.heap.objs.size) { s with heap := s.heap.push { cls := .type "reversed", data := .fields #[.ref l, rawInt ((items.size : Int) - 1)] }, toks := s.toks + 1 + 1 }) :
    wpAny (model prog w) A (call (.type "reversed") [.ref l]) Q E s :=
  callType_new called_rev (by decide) (PySem.F.typeCall_reversed_1 _) (PySem.F.newCall_reversed_1 _) (fun obj => PySem.F.args_object_init_2 obj _) PySem.F.entry_reversed_new (rev_new l items hfit) ⟨hl, ⟨_, Heap.get?_push_size _ rfl, rfl⟩, h⟩
theorem rev_pyIter {it l : Addr} {i : Int} {Q : Value → Shared → Prop} (hit : IsRevT s.heap it l i) (h : Q (.ref it) s) : wpAny (model prog w) A (pyIter (.ref it)) Q E s := by
  refine wpAny_pyIter_slot hit.typeIs slot_rev_iter (wpAny_call_entry slot_rev_iter hit.typeIs entry_rev_iter ?_ (args_rev_iter_1 _))
  show wpAny _ _ (ret (.ref it)) _ _ s
  exact wpAny_pure ⟨_, rfl, "reversed", _, hit.typeIs, slot_rev_next.lookup, h⟩
theorem rev_item {it l : Addr} {i : Nat} {items : Array Value} {x : Value} {Q : Option Value → Shared → Prop} (hit : IsRevT s.heap it l (i : Int)) (hl : s.heap.IsTuple l items) (hx : items[i]? = some x) (hfit : (i : Int) < 2 ^ 63)
    (hQ : ∀ h' tk, IsRevT h' it l ((i : Int) - 1) → Heap.SameBut it s.heap h' → Q (some x) { s with heap := h', toks := tk }) : wpAny (model prog w) A (pyNext (.ref it)) Q E s := by
  obtain ⟨o, ho, hc, hd⟩ := id hit
  have hlt : i < items.size := (Array.getElem?_eq_some_iff.mp hx).1
  have hi : seqIndex? (i : Int) items.size = some i := by
    unfold seqIndex?
    simp
    omega
  have tl : s.TypeIs (.ref l) "tuple" := hl.typeIs
  unfold pyNext
  refine wpAny_bind (wpAny_attempt (wpAny_callSpecial?_slot (name := Str.ofString "__next__") hit.typeIs slot_rev_next
    (wpAny_call_entry slot_rev_next hit.typeIs entry_rev_next ?_ (args_rev_next_1 _))))
  unfold Builtin.«reversed.__next__»
  refine wpAny_bind (wpAny_of_eq (a := (Value.ref it, [])) rfl ?_)
  try dsimp only
  refine wpAny_bind (wpAny_field ho hd (x := .ref l) rfl ?_)
  refine wpAny_bind (wpAny_field ho hd (x := rawInt (i : Int)) rfl ?_)
  show wpAny _ _ (if (i : Int) < 0 then _ else _) _ _ s
  rw [if_neg (by omega)]
  try dsimp only
  refine wpAny_bind (wpAny_specialOf tl PySem.F.slot_tuple_getitem.lookup ?_)
  try dsimp only
  rw [if_neg (by simp)]
  refine wpAny_bind (wpAny_mkInt ?_)
  have ht : IsTup s.heap l items := hl
  refine wpAny_bind (wpAny_attempt (PyProof.Rows.getItem_tuple (s := { s with toks := s.toks + 1 }) ht (by omega) hfit hi hx ?_))
  try dsimp only
  refine wpAny_bind (wpAny_field ho hd (x := rawInt (i : Int)) rfl ?_)
  show wpAny _ _ (setField (.ref it) 1 (rawInt ((i : Int) - 1)) >>= _) _ _ _
  refine wpAny_bind (wpAny_setField ho hd (by simp) ?_)
  refine wpAny_pure ⟨x, rfl, wpAny_pure (hQ _ _ ?_ (Heap.SameBut.update ..))⟩
  exact ⟨_, Heap.get?_update_self _ ho (Obj.isFreed_of_fields (Obj.data_mapFields hd _)), (Obj.cls_mapFields ..).trans hc, by
    rw [Obj.data_mapFields hd]; simp⟩
theorem rev_end {it l : Addr} {Q : Option Value → Shared → Prop} (hh : A.handled = none) (hit : IsRevT s.heap it l (-1))
    (hQ : ∀ h', Heap.ExtBut it s.heap h' → Q none { s with heap := h' }) : wpAny (model prog w) A (pyNext (.ref it)) Q E s := by
  obtain ⟨o, ho, hc, hd⟩ := id hit
  unfold pyNext
  refine wpAny_bind (wpAny_attempt (wpAny_callSpecial?_slot (name := Str.ofString "__next__") hit.typeIs slot_rev_next
    (wpAny_call_entry slot_rev_next hit.typeIs entry_rev_next ?_ (args_rev_next_1 _))))
  unfold Builtin.«reversed.__next__»
  refine wpAny_bind (wpAny_of_eq (a := (Value.ref it, [])) rfl ?_)
  try dsimp only
  refine wpAny_bind (wpAny_field ho hd (x := .ref l) rfl ?_)
  refine wpAny_bind (wpAny_field ho hd (x := rawInt (-1)) rfl ?_)
  show wpAny _ _ (if (-1 : Int) < 0 then _ else _) _ _ s
  rw [if_pos (by decide)]
  refine wpAny_bind (wpAny_rule ?_)
  refine wpAny_bind ?_
  show wpAny _ _ (setField (.ref it) 1 (rawInt (-1)) >>= fun _ => setField (.ref it) 0 .none) _ _ s
  refine wpAny_bind (wpAny_setField ho hd (by simp) ?_)
  refine wpAny_setField (Heap.get?_update_self _ ho (Obj.isFreed_of_fields (Obj.data_mapFields hd _))) (Obj.data_mapFields hd _) (by simp) ?_
  first
  | show wpAny _ _ (newExc (.type "StopIteration") [] >>= _) _ _ _
  | (refine wpAny_bind ?_; show wpAny _ _ (newExc (.type "StopIteration") [] >>= _) _ _ _)
  refine wpAny_bind ?_
  simp only [newExc, newTuple]
  refine wpAny_bind (wpAny_newObj_type ?_ (by size_fits))
  refine wpAny_bind (m := firstArgMember _ _) (wpAny_of_eq (a := Value.none) (by first | rfl | (simp only [firstArgMember]; rfl)) ?_)
  refine wpAny_newObj_type ?_ (by size_fits)
  simp only [raiseNew]
  refine wpAny_bind (wpAny_handled ?_)
  first | rw [show A.in1.handled = none from hh] | rw [hh]
  refine wpAny_bind (wpAny_pure (wpAny_throw ?_))
  refine wpAny_bind (wpAny_isInstance (T := "StopIteration") (b := true) ⟨_, Heap.get?_push_size _ rfl, rfl⟩ isSubtype_stop ?_)
  refine wpAny_pure (hQ _ ?_)
  exact ((((Heap.SameBut.update ..).trans (Heap.SameBut.update ..)).extBut.push _).push _)
end
def Itv (K : PySem.W.Frag) (l : Addr) (n : Nat) : It where
  go := fun i H => i < n ∧ ∃ xs, SqT K H l xs ∧ xs.length = n
  yld := fun i H v H' => H' = H ∧ ∀ xs, SqT K H l xs → xs[n - 1 - i]? = some v
  stop := fun i H => i = n
theorem turn_rev {P : Program} {w : World} {K : PySem.W.Frag} {tg : Expr} {it l : Addr} (n : Nat) (hz : n ≤ sizeLine) : Turn P w K tg (Itv K l n) [it] it (fun i h => IsRevT h it l ((n : Int) - 1 - (i : Int))) where
  mem := by simp
  obj := fun i h st b hb => by
    have e : b = it := by simpa using hb
    subst e
    obtain ⟨o, ho, _, hd⟩ := st
    exact ⟨o, ho, fun v z => by rw [hd] at z; cases z⟩
  keep := fun i h h' st k => st.at fun o e => k it (by simp) _ e
  item := by
    intro X hP hw hK hc i pins s σ H E I hf st hg
    subst hP hw hK
    obtain ⟨f0, f1, f2, f3, f4, f5⟩ := hf it (by simp)
    obtain ⟨hi, xs, hq, hl⟩ := hg
    obtain ⟨its, r, p, _⟩ := I.tuple hq
    have hlen := r.length
    have hx : xs[n - 1 - i]? = some (xs[n - 1 - i]'(by omega)) := List.getElem?_eq_getElem (by omega)
    obtain ⟨u1, hu1, ru1⟩ := r.get hx
    have e1 : (n : Int) - 1 - (i : Int) = ((n - 1 - i : Nat) : Int) := by omega
    have st' := st
    rw [e1] at st'
    have big : (sizeLine : Int) < 2 ^ 63 := by decide
    refine rev_item (items := its.toArray) (x := u1) st' p (by simpa using hu1) (by omega) fun h' tk hr m => ?_
    have I1 : Inv X pins σ H { s with heap := h', toks := tk } := I.turned (fun b o hb e => m.extBut _ _ (by simpa using hb) e) f0 f1 f3 f4 f5
    have e2 : ((n - 1 - i : Nat) : Int) - 1 = (n : Int) - 1 - ((i + 1 : Nat) : Int) := by omega
    rw [e2] at hr
    obtain ⟨o, ho, hoc, hod⟩ := id hr
    exact ⟨_, rfl, go_of (s := { s with heap := h', toks := tk }) (n := "reversed") ho hoc hod (by decide) ⟨xs[n - 1 - i]'(by omega), H, I1, ru1, ⟨rfl, fun ys hy => by rw [I.tuple_inj hy hq]; exact hx⟩, hr, fun b hb => (hf b hb).1⟩⟩
  done := by
    intro X hP hw hK hc i pins s σ H E I hf st hg
    subst hP hw hK
    obtain ⟨f0, f1, f2, f3, f4, f5⟩ := hf it (by simp)
    have hg' : i = n := hg
    have st' := st
    rw [hg', show (n : Int) - 1 - (n : Int) = -1 by omega] at st'
    exact rev_end (I.ok.hd hc) st' fun h' eb => ⟨rfl, I.turned (t' := s.toks) (fun b o hb e => eb b o hb e) f0 f1 f3 f4 f5⟩
  self := fun _ _ _ _ _ st h => rev_pyIter st h
section
variable {X : Cx} {tg : Expr}
def iRevT (K : PySem.W.Frag) (ta : TA) : TI := fun σ H R => ta σ H fun vs H1 => ∃ l xs, vs = [.ref l] ∧ SqT K H1 l xs ∧ R (Itv K l xs.length) H1
theorem pi_revT {a : Expr} {ta : TA} {p pos : Pos} (hg : Gl X "reversed") (hm : X.mg "reversed" = none) (ha : PA X [a] ta) (hs : starEach [a] X.env = [(false, eval a X.env)] := by rfl) :
    PI X tg (.Call (.Name "reversed" p) [a] [] pos) (iRevT X.K ta) := by
  intro pins s σ H R I h
  refine Call_ (ld_blt I hg hm PyProof.Rows.boot_reversed (PyProof.Rows.callWith_type1 (thn (ha pos pins s σ H _ I h) fun us s1 ⟨vs, H1, I1, r1, q1⟩ => ?_) hs rfl))
  obtain ⟨l, xs, e, q1, q⟩ := q1
  subst e
  obtain ⟨u, rfl, r⟩ := vals1 r1
  cases r
  obtain ⟨its, rv, p1, hz⟩ := I1.tuple q1
  have hl := rv.length
  have big : (sizeLine : Int) < 2 ^ 63 := by decide
  refine rev_made p1 (by rw [List.size_toArray]; omega) ?_
  have hi : IsRevT (s1.heap.push { cls := .type "reversed", data := .fields #[.ref l, rawInt ((its.toArray.size : Int) - 1)] }) s1.heap.objs.size l ((xs.length : Int) - 1 - ((0 : Nat) : Int)) := ⟨_, Heap.get?_push_size _ rfl, rfl, by
    rw [List.size_toArray, hl]
    simp⟩
  refine rev_pyIter (s := { s1 with heap := s1.heap.push { cls := .type "reversed", data := .fields #[.ref l, rawInt ((its.toArray.size : Int) - 1)] }, toks := s1.toks + 1 + 1 }) hi ?_
  refine ⟨_, [s1.heap.objs.size], _, _, H1, rfl, I1.kept (t' := s1.toks + 1 + 1) fun b o e => Heap.get?_push_of_some _ e, turn_rev xs.length hz, hi, fun b hb => ?_, q⟩
  have e : b = s1.heap.objs.size := by simpa using hb
  subst e
  exact I1.fpOk (Nat.le_refl _) (I1.hok.fresh (Nat.le_refl _))
end
end L2
namespace M
open PySem PySem.Spec PyProof.Rows L2
section
variable {X : Cx} {A : AS} {H : Hp} {K : PySem.W.Frag} {pos : Pos} {a : Expr}
theorem itok_revT {l1 : Addr} {vs : List V} {l : List D} (c1 : SqA K A H true l1 vs) (r1 : RepL K A H l vs) : ItOk K A H (Itv K l1 vs.length) l.length (fun i => l.getD (l.length - 1 - i) .non) := by
  have k1 := r1.length
  refine ⟨fun A' H' i P hi => ⟨by omega, vs, c1.sqv P, rfl⟩, fun A' H' i x H'' P hA hi y => ?_, fun A' H' P => k1⟩
  obtain ⟨x1, e1, q1⟩ := r1.at (i := l.length - 1 - i) (by omega)
  obtain ⟨e, ha⟩ := y
  subst e
  have ea := ha vs (c1.sqv P)
  rw [← k1, e1] at ea
  cases ea
  exact ⟨.refl _, q1.mono P⟩
def uRevT (ta : UA) : UI := fun ρ Q => ta ρ fun ds ρ1 => match ds with
  | [.tup l] => Q l.length (fun i => l.getD (l.length - 1 - i) .non) ρ1
  | _ => False
theorem ui_revT {tg : Expr} {p : Pos} {ta : UA} (hg : Gl X "reversed") (hm : X.mg "reversed" = none) (ha : PUA X [a] ta) (hs : starEach [a] X.env = [(false, eval a X.env)] := by rfl) :
    PUI X tg (.Call (.Name "reversed" p) [a] [] pos) (uRevT ta) :=
  PIimp (pi_revT hg hm ha hs) fun σ H R ⟨C, ρ, Q0, I, h, k⟩ => ⟨C, ρ, _, I, h, fun ds ρ1 vs H1 q f s r => by
    split at q
    · rename_i l
      obtain ⟨v, vr, rfl, rv, rr⟩ := r.uncons
      have := rr.unnil
      subst this
      simp only [Rep] at rv
      obtain ⟨a1, us, rfl, c1, s1⟩ := rv
      have c2 : SqA _ _ _ true a1 us := c1
      exact ⟨a1, us, rfl, c2.sqv .self, k _ _ ρ1 _ H1 q f s (itok_revT c2 s1)⟩
    · exact q.elim⟩
def gMulT (d e : D) (Q : B → Prop) : Prop := match d, e with
  | .tup l, .int k => (l ≠ [] ∧ -(2 ^ 63) ≤ k ∧ k < 2 ^ 63 ∧ l.length * k.toNat ≤ sizeLine) ∧ Q (.pu (.tup (List.replicate k.toNat l).flatten))
  | _, _ => False
end
end M
end
section
set_option Elab.async false
set_option linter.all false
set_option maxRecDepth 100000
namespace M
open PySem PySem.Spec PyProof.Rows L2
section
variable {X : Cx}
theorem repL_intsG {K : PySem.W.Frag} {A : AS} {H : Hp} : ∀ r : List Int, RepL K A H (r.map D.int) (r.map V.int)
  | [] => .nil
  | a :: r => .cons (by simp only [Rep]) (repL_intsG r)
theorem pu_gtup {x : Str} {a : Addr} {r : List Int} {p : Pos} (hg : Gl X x) (hm : X.mg x = some (.ref a)) (hk : KT X.K a (r.map V.int)) (hd : (x == ("__debug__" : Str)) = false := by decide) : PU X (.Name x p) (uC (.tup (r.map .int))) :=
  pu_glob (pe_glob (v := .ref a) hg hm rfl hd) fun A H => by
    simp only [Rep]
    exact ⟨a, r.map V.int, rfl, .inr hk, repL_intsG r⟩
theorem kt_of {K : PySem.W.Frag} {a : Addr} {od : Option Addr} {its : Array Value} {n : Nat} {sl : Array (Option Value)} {vs : List V} (hl : K.lookup a = some ⟨.type "tuple", od, .seq its n, sl⟩) (hz : its.size ≤ sizeLine) (hv : Vals vs its.toList) : KT K a vs :=
  ⟨_, its, n, hl, rfl, rfl, hz, hv⟩
end
end M
end
section
set_option Elab.async false
set_option linter.all false
set_option maxRecDepth 100000
namespace L2
open PySem PySem.Spec PyProof.Rows
section
variable {X : Cx}
theorem call_any_l (hc : X.calm = true) : CallR X (.builtin "any") (fun xs H Q => ∃ (p : Addr) (bs : List Bool), xs = [.ref p] ∧ SqL X.K H p (bs.map V.bl) ∧ Q (.bl (bs.any id)) H) := by
  intro pins s σ H xs us Q I r h
  obtain ⟨p, bs, rfl, hq, q⟩ := h
  obtain ⟨u, rfl, rx⟩ := vals1 r
  cases rx
  obtain ⟨its, rv, pl, hz⟩ := I.list hq
  have ba := boolsOf rv
  refine call_any_walk (wpAny_pyIter_list pl.isList ?_)
  have hne : p ≠ s.heap.objs.size := by
    obtain ⟨o, n, e, _⟩ := pl
    exact Nat.ne_of_lt (Heap.lt_size e)
  refine ⟨s.heap.objs.size, _, _, _, _, _, fun i => (bs[i]?).getD false, rfl, Walks.list (A := X.A.in1) (I.ok.hd hc) s.heap.objs.size p (fun z => hne z) its.toArray, ⟨⟨_, Heap.get?_push_size _ rfl, rfl, rfl⟩, pl.isList.push _⟩, ?_, fun h' tk hk => ?_⟩
  · intro i v s' Q' E' hP hQ
    obtain ⟨b, hb, rfl⟩ := ba.get i v (by simpa using hP)
    refine wpAny_truthy_bool ?_
    dsimp only at hQ
    rw [hb] at hQ
    exact hQ
  · have e := LSm.range_any bs
    have hl := ba.length
    have e2 : its.toArray.size = bs.length := by rw [List.size_toArray, hl]
    rw [e2, e]
    exact ⟨.bl (bs.any id), H, I.kept fun b o e => hk b o (by simpa using Nat.ne_of_lt (Heap.lt_size e)) (Heap.get?_push_of_some _ e), rfl, q⟩
end
end L2
namespace M
open PySem PySem.Spec PyProof.Rows L2
section
variable {X : Cx}
def gAny : List D → (B → Prop) → Prop := g1 fun d Q => match d with
  | .lst l => (match boolsL l with
    | some bs => Q (.pu (.bl (bs.any id)))
    | none => False)
  | _ => False
theorem cu_any (hc : X.calm = true) : CallU X (.builtin "any") gAny := by
  intro A H ds vs Q0 Q hA r g k
  obtain ⟨d, v, rfl, rfl, rv, g⟩ := g1_inv g r
  cases d with
  | lst l =>
    dsimp only at g
    cases e : boolsL l with
    | none => rw [e] at g; exact g.elim
    | some bs =>
      rw [e] at g
      simp only [Rep] at rv
      obtain ⟨a, vs, rfl, n, c, rs⟩ := rv
      rw [boolsL_rep e rs] at c
      exact ⟨_, call_any_l hc, a, bs, rfl, SqL.of c, k _ _ H g (.refl _) rep_bl⟩
  | _ => exact (show False from g).elim
theorem bt_any : bootBuiltins "any" = some (.builtin "any") := by decide +kernel
end
end M
end
section
set_option Elab.async false
set_option linter.all false
set_option maxRecDepth 100000
namespace L2
open PySem PySem.Spec PyProof.Rows
end L2
namespace M
open PySem PySem.Spec PyProof.Rows L2
section
variable {X : Cx} {a : Expr} {pos : Pos} {ta : UE}
def gMaxL : List D → (B → Prop) → Prop := g1 fun d Q => match d with
  | .lst l => (match intsL l with
    | some ns => 0 < ns.length ∧ ∀ m : Int, m ∈ ns → (∀ a ∈ ns, a ≤ m) → Q (.pu (.int m))
    | none => False)
  | _ => False
def D.isN : D → Bool
  | .non => true
  | _ => false
def uIsN (neg : Bool) (t : UE) : UE := fun ρ Q => t ρ fun b ρ1 => Q (.pu (.bl (neg ^^ b.d.isN))) ρ1
end
end M
end
section
set_option Elab.async false
set_option linter.all false
set_option maxRecDepth 100000
namespace M
open PySem PySem.Spec PyProof.Rows L2
mutual
/-- no list within -/
def D.nl : D → Bool
  | .tup l => D.nls l
  | .lst _ => false
  | .rol _ => false
  | .obj _ _ _ => false
  | .non => true
  | .bl _ => true
  | .int _ => true
  | .str _ => true
  | .ty _ => true
def D.nls : List D → Bool
  | [] => true
  | d :: l => d.nl && D.nls l
end
section
variable {K : PySem.W.Frag} {A A' : AS} {H H' : Hp}
mutual
theorem Rep.nl (p : ∀ a vs, ¬ A a → Rd H a (.tup vs) → ¬ A' a ∧ Rd H' a (.tup vs)) : ∀ {d : D} {v : V}, d.nl = true → Rep K A H d v → Rep K A' H' d v
  | .non, _, _, h => h
  | .bl _, _, _, h => h
  | .int _, _, _, h => h
  | .str _, _, _, h => h
  | .ty _, _, _, h => h
  | .tup l, v, q, h => by
    simp only [Rep] at h ⊢
    obtain ⟨a, vs, e, c, r⟩ := h
    simp only [D.nl] at q
    refine ⟨a, vs, e, ?_, RepL.nl p q r⟩
    rcases c with ⟨n, c⟩ | c
    · exact .inl (p a vs n c)
    · exact .inr c
  | .lst _, _, q, _ => by simp only [D.nl] at q; cases q
  | .rol _, _, q, _ => by simp only [D.nl] at q; cases q
  | .obj _ _ _, _, q, _ => by simp only [D.nl] at q; cases q
theorem RepL.nl (p : ∀ a vs, ¬ A a → Rd H a (.tup vs) → ¬ A' a ∧ Rd H' a (.tup vs)) : ∀ {l : List D} {vs : List V}, D.nls l = true → RepL K A H l vs → RepL K A' H' l vs
  | [], _, _, h => by simp only [RepL] at h ⊢; exact h
  | d :: ds, vs, q, h => by
    simp only [RepL] at h ⊢
    simp only [D.nls, Bool.and_eq_true] at q
    obtain ⟨v, vr, e, r, rs⟩ := h
    exact ⟨v, vr, e, Rep.nl p q.1 r, RepL.nl p q.2 rs⟩
end
end
section
variable {X : Cx} {st : Stmt} {sts : List Stmt} {e o : Expr} {pos : Pos} {t u : US} {te to : UE} {K : PySem.W.Frag} {C : C0} {ρ ρ' : Ev} {σ : L2.St} {H H' : Hp}
def uLook (t : UT) : UT := fun ρ Q => t ρ fun b _ => Q b ρ
theorem pt_look {t : UT} (h : PUT X e t) : PUT X e (uLook t) := PTimp h fun σ H Q ⟨C, ρ, Q0, I, h, k⟩ => ⟨C, ρ, _, I, h, fun b ρ' H' q f s => k b ρ H' q (.refl _) s⟩
def uLookE (t : UE) : UE := fun ρ Q => t ρ fun b _ => match b with
  | .pu d => d.nl = true ∧ Q (.pu d) ρ
  | _ => False
def CZ : C0 := ⟨fun _ => none, fun _ => False⟩
def keepO : Option B → Option B
  | some (.pu d) => if d.nl = true then some (.pu d) else none
  | some (.ow l) => if D.nls l = true then some (.ow l) else none
  | _ => none
theorem keepO_pu {x : Option B} {d : D} (h : keepO x = some (.pu d)) : x = some (.pu d) ∧ d.nl = true := by
  unfold keepO at h
  split at h
  · split at h
    · cases h; exact ⟨rfl, by assumption⟩
    · cases h
  · split at h <;> cases h
  · cases h
theorem keepO_ow {x : Option B} {l : List D} (h : keepO x = some (.ow l)) : x = some (.ow l) ∧ D.nls l = true := by
  unfold keepO at h
  split at h
  · split at h <;> cases h
  · split at h
    · cases h; exact ⟨rfl, by assumption⟩
    · cases h
  · cases h
theorem keepO_bo {x : Option B} {l : List D} (h : keepO x = some (.bo l)) : False := by
  unfold keepO at h
  split at h
  · split at h <;> cases h
  · split at h <;> cases h
  · cases h
theorem keep_get {i : Nat} {b : B} (h : (ρ.map keepO)[i]? = some (some b)) : ∃ x, ρ[i]? = some x ∧ keepO x = some b := by
  rw [List.getElem?_map] at h
  cases e : ρ[i]? with
  | none => rw [e] at h; cases h
  | some x => rw [e] at h; exact ⟨x, rfl, by simpa using h⟩
theorem own_keep {a : Addr} (h : Av CZ (ρ.map keepO) σ a) : Av CZ ρ σ a := by
  rcases h with z | ⟨i, l, h1, h2⟩
  · exact .inl z
  · obtain ⟨x, g1, g2⟩ := keep_get h1
    obtain ⟨rfl, _⟩ := keepO_ow g2
    exact .inr ⟨i, l, g1, h2⟩
theorem EOk.hit {a : Addr} {vs vs' : List V} (I : EOk K CZ ρ σ H) (n : ¬ Av CZ ρ σ a) (h : H a = some (.lst vs)) : EOk K CZ (ρ.map keepO) σ (upd H a (.lst vs')) := by
  have T : ∀ b ws, ¬ Av CZ ρ σ b → Rd H b (.tup ws) → ¬ Av CZ (ρ.map keepO) σ b ∧ Rd (upd H a (.lst vs')) b (.tup ws) := by
    intro b ws nb c
    have ne : b ≠ a := by
      rintro rfl
      rcases c with c | ⟨o, c⟩
      · rw [h] at c; cases c
      · rw [h] at c; cases c
    refine ⟨fun z => nb (own_keep z), ?_⟩
    unfold Rd
    rw [upd_ne ne]
    exact c
  refine ⟨by rw [List.length_map]; exact I.len, ?_, ?_, ?_, ?_, fun b o z => (by cases z), fun b z => z.elim⟩
  · intro i d g
    obtain ⟨x, g1, g2⟩ := keep_get g
    obtain ⟨rfl, nl⟩ := keepO_pu g2
    obtain ⟨v, h1, h2⟩ := I.pu i d g1
    exact ⟨v, h1, Rep.nl T nl h2⟩
  · intro i l g
    obtain ⟨x, g1, g2⟩ := keep_get g
    obtain ⟨rfl, nl⟩ := keepO_ow g2
    obtain ⟨b, ws, h1, h2, h3, h4⟩ := I.ow i l g1
    have ne : b ≠ a := by
      rintro rfl
      exact n (.inr ⟨i, l, g1, h1⟩)
    exact ⟨b, ws, h1, by rw [upd_ne ne]; exact h2, h3, RepL.nl T nl h4⟩
  · intro i j l l' b g1 g2 h1 h2
    obtain ⟨x, g3, g4⟩ := keep_get g1
    obtain ⟨rfl, _⟩ := keepO_ow g4
    obtain ⟨y, g5, g6⟩ := keep_get g2
    obtain ⟨rfl, _⟩ := keepO_ow g6
    exact I.inj i j l l' b g3 g5 h1 h2
  · intro i l g
    obtain ⟨x, g1, g2⟩ := keep_get g
    exact (keepO_bo g2).elim
def uAppZ (to te : UE) : US := fun D ρ => to ρ fun b ρ1 => match b with
  | .pu (.lst l) => te ρ1 fun _ ρ2 => l.length < sizeLine ∧ D.nx (ρ2.map keepO)
  | _ => False
end
end M
end
section
set_option Elab.async false
set_option linter.all false
set_option maxRecDepth 100000
namespace M
open PySem PySem.Spec PyProof.Rows L2
def ltL : List Int → List Int → Bool
  | [], [] => false
  | [], _ :: _ => true
  | _ :: _, [] => false
  | a :: x, b :: y => if a = b then ltL x y else decide (a < b)
section
variable {prog : Program} {w : World} {A : Around} {E : Value → Shared → Prop} {s : Shared}
theorem two_sort {a : Addr} {u v : Value} {n : Nat} {lt : Bool} {P : PySem.Fin → Shared → Prop} (ho : s.heap.get? a = some (seqObj "list" [u, v].toArray n))
    (hy : ∀ h' : Heap, (∀ b o, b ≠ a → s.heap.get? b = some o → h'.get? b = some o) → ∃ κ : SortKind,
      (∀ Q : SortKind → Shared → Prop, Q κ { s with heap := h' } → wpAny (model prog w) A (keyKind' [u, v].toArray) Q (fun _ _ => False) { s with heap := h' }) ∧
      (∀ Q : Bool → Shared → Prop, Q lt { s with heap := h' } → wpAny (model prog w) A (keyLt' κ v u) Q (fun _ _ => False) { s with heap := h' }))
    (fi : P (.done (.ret .none)) { s with heap := sortedHeap s.heap a [u, v] (if lt = true then [v, u].toArray else [u, v].toArray) }) :
    wpAny (model prog w) A (Builtin.«list.sort» ⟨[.ref a], []⟩) P E s := by
  rw [list_sort_plain]
  have la : a < s.heap.objs.size := Heap.lt_size ho
  refine wpAny_bind (listItems_at ho rfl ?_)
  refine wpAny_bind (listUpdate_at ho rfl ?_ (show 2 ≤ sizeLine by decide) (Nat.zero_le _))
  obtain ⟨c1, h1⟩ : ∃ c1, (s.heap.update a (Obj.mapSeq fun _ => #[])).get? a = some (seqObj "list" #[] c1) := ⟨_, get?_update_seq ho (fun _ => #[])⟩
  refine wpAny_bind (seqEpoch_at h1 rfl ?_)
  refine wpAny_bind (wpAny_newTuple ?_ (show 2 ≤ sizeLine by decide))
  refine wpAny_bind (wpAny_newList ?_ (Nat.zero_le _))
  refine wpAny_holding ?_
  have h6 : (((s.heap.update a (Obj.mapSeq fun _ => #[])).push (seqObj "tuple" [u, v].toArray 0)).push (seqObj "list" #[] 0)).get? a = some (seqObj "list" #[] c1) := by
    rw [Heap.get?_push_ne _ _ _ (by rw [size_push', Heap.size_update]; exact Nat.ne_of_lt (Nat.lt_succ_of_lt la))]
    rw [Heap.get?_push_ne _ _ _ (by rw [Heap.size_update]; exact Nat.ne_of_lt la)]
    exact h1
  have kp : ∀ b o, b ≠ a → s.heap.get? b = some o → (((s.heap.update a (Obj.mapSeq fun _ => #[])).push (seqObj "tuple" [u, v].toArray 0)).push (seqObj "list" #[] 0)).get? b = some o := fun b o ne q => by
    have lb : b < s.heap.objs.size := Heap.lt_size q
    rw [Heap.get?_push_ne _ _ _ (by rw [size_push', Heap.size_update]; exact Nat.ne_of_lt (Nat.lt_succ_of_lt lb))]
    rw [Heap.get?_push_ne _ _ _ (by rw [Heap.size_update]; exact Nat.ne_of_lt lb), Heap.get?_update_ne _ _ _ _ ne]
    exact q
  obtain ⟨κ, y1, y2⟩ := hy _ kp
  show wpAny (model prog w) A _ P E { s with heap := ((s.heap.update a (Obj.mapSeq fun _ => #[])).push (seqObj "tuple" [u, v].toArray 0)).push (seqObj "list" #[] 0) }
  dsimp only
  have n2 : ¬ [u, v].toArray.size < 2 := show ¬ 2 < 2 by decide
  rw [if_neg n2, if_neg n2]
  refine wpAny_bind (wpAny_mono (y1 (fun k s' => k = κ ∧ s' = { s with heap := ((s.heap.update a (Obj.mapSeq fun _ => #[])).push (seqObj "tuple" [u, v].toArray 0)).push (seqObj "list" #[] 0) }) ⟨rfl, rfl⟩) ?_ fun _ _ z => z.elim)
  rintro k s' ⟨rfl, rfl⟩
  refine wpAny_bind (wpAny_mono (PySem.W.kat_run (ks := [u, v]) (vs := [u, v]) (Q := fun st' s' => s' = { s with heap := ((s.heap.update a (Obj.mapSeq fun _ => #[])).push (seqObj "tuple" [u, v].toArray 0)).push (seqObj "list" #[] 0) } ∧ failedOf st' = none ∧ (arrOf st').map (·.2) = (if lt = true then [v, u].toArray else [u, v].toArray))
    (G := fun p s' => s' = { s with heap := ((s.heap.update a (Obj.mapSeq fun _ => #[])).push (seqObj "tuple" [u, v].toArray 0)).push (seqObj "list" #[] 0) } ∧ p = (if lt = true then #[1, 0] else #[0, 1]))
    rfl (show 2 ≤ 2 by decide) (show 2 < 64 by decide) (fun p st' s' _ e2 e3 ⟨e4, e5⟩ => ⟨e4, e3, ?_⟩) ?_) ?_ fun _ _ z => z)
  · rw [PySem.W.kat_snds rfl e2, e5]
    cases lt <;> rfl
  · show wpAny (model prog w) A (keyLt' k v u) _ (fun _ _ => False) _
    refine y2 _ ?_
    cases lt
    · exact ⟨rfl, rfl⟩
    · refine ⟨rfl, ?_⟩
      rw [if_pos rfl]
      dsimp only [List.length_cons, List.length_nil]
      decide +kernel
  · rintro ⟨⟨⟩, st'⟩ s' ⟨rfl, e3, e4⟩
    dsimp only
    rw [e4]
    refine wpAny_bind (seqEpoch_at h6 rfl ?_)
    refine wpAny_bind (listUpdate_at h6 rfl ?_ (Nat.zero_le _) (by cases lt <;> exact (show 2 ≤ sizeLine + 1 by decide)))
    rw [e3]
    simp only [bne_self_eq_false, Bool.false_eq_true, if_false]
    exact wpAny_pure fi
theorem two_sorted {l : Addr} {u v : Value} {lt : Bool} {Q : Value → Shared → Prop} (hl : s.heap.IsList l [u, v].toArray)
    (hy : ∀ (h' : Heap) (A : Around), (∀ b o, s.heap.get? b = some o → h'.get? b = some o) → ∃ κ : SortKind,
      (∀ Q : SortKind → Shared → Prop, Q κ { s with heap := h' } → wpAny (model prog w) A (keyKind' [u, v].toArray) Q (fun _ _ => False) { s with heap := h' }) ∧
      (∀ Q : Bool → Shared → Prop, Q lt { s with heap := h' } → wpAny (model prog w) A (keyLt' κ v u) Q (fun _ _ => False) { s with heap := h' }))
    (fi : Q (.ref (s.heap.objs.size + 1)) { s with heap := sortedAll s.heap [u, v] (if lt = true then [v, u].toArray else [u, v].toArray) }) :
    wpAny (model prog w) A (call (.builtin "sorted") [.ref l]) Q E s := by
  refine Calls.call_function_entry kind_sorted plain_sorted entry_sorted (args_sorted1 _) ?_
  unfold Builtin.«sorted»
  refine wpAny_bind (m := checkCount "sorted" 1 1 _) (wpAny_pure ?_)
  refine wpAny_bind (collect_list hl ?_ (show 2 ≤ sizeLine by decide))
  refine wpAny_bind (wpAny_newList ?_ (show 2 ≤ sizeLine by decide))
  have hz : ((s.heap.push (seqObj "list" #[] 0)).update s.heap.objs.size (Obj.mapSeq (· ++ [u, v].toArray))).objs.size = s.heap.objs.size + 1 := by rw [Heap.size_update, size_push']
  have hL : (((s.heap.push (seqObj "list" #[] 0)).update s.heap.objs.size (Obj.mapSeq (· ++ [u, v].toArray))).push (seqObj "list" [u, v].toArray 0)).get? (s.heap.objs.size + 1) = some (seqObj "list" [u, v].toArray 0) := by
    rw [← hz]; exact Heap.get?_push_size _ rfl
  have kp : ∀ b o, s.heap.get? b = some o → (((s.heap.push (seqObj "list" #[] 0)).update s.heap.objs.size (Obj.mapSeq (· ++ [u, v].toArray))).push (seqObj "list" [u, v].toArray 0)).get? b = some o := fun b o q => by
    have lb : b < s.heap.objs.size := Heap.lt_size q
    rw [Heap.get?_push_ne _ _ _ (by rw [hz]; exact Nat.ne_of_lt (Nat.lt_succ_of_lt lb))]
    rw [Heap.get?_update_ne _ _ _ _ (Nat.ne_of_lt lb), Heap.get?_push_ne _ _ _ (Nat.ne_of_lt lb)]
    exact q
  show wpAny _ _ _ _ _ { s with heap := ((s.heap.push (seqObj "list" #[] 0)).update s.heap.objs.size (Obj.mapSeq (· ++ [u, v].toArray))).push (seqObj "list" [u, v].toArray 0) }
  rw [hz]
  refine wpAny_bind (wpAny_holding (wpAny_call_entry slot_list_sort ⟨_, hL, rfl⟩ entry_list_sort (two_sort (lt := lt) hL (fun h' k => ?_) ⟨_, rfl, ?_⟩) (args_list_sort _)))
  · exact hy h' _ fun b o q => k b o (Nat.ne_of_lt (Nat.lt_succ_of_lt (Heap.lt_size q))) (kp b o q)
  · exact wpAny_pure ⟨_, rfl, fi⟩
theorem lex_ints {Q : Bool → Shared → Prop} {fin : Bool} : ∀ (us ws : List Int) (x y : List Value) (i : Nat), Vals (us.map V.int) x → Vals (ws.map V.int) y → fin = decide (us.length < ws.length) → Q (ltL us ws) s → PySem.W.KatLex prog w A true fin Q (x.zip y) i s
  | [], [], x, y, i, hx, hy, hf, q => by
    cases hx; cases hy
    rw [hf]; exact q
  | [], b :: ws, x, y, i, hx, hy, hf, q => by
    cases hx
    rw [hf]; exact q
  | a :: us, [], x, y, i, hx, hy, hf, q => by
    cases hx; cases hy
    rw [hf]; exact q
  | a :: us, b :: ws, x, y, i, hx, hy, hf, q => by
    rw [List.map_cons] at hx hy
    cases hx with
    | cons r1 hx =>
      cases hy with
      | cons r2 hy =>
        obtain ⟨t1, rfl⟩ := r1
        obtain ⟨t2, rfl⟩ := r2
        rw [List.zip_cons_cons]
        refine PySem.W.kat_cons (wpAny_eqBool_int ?_)
        by_cases c : a = b
        · subst c
          rw [beq_self_eq_true]
          refine PySem.W.kat_yes (lex_ints us ws _ _ (i + 1) hx hy (by rw [hf]; simp) ?_)
          unfold ltL at q
          rw [if_pos rfl] at q
          exact q
        · rw [show (a == b) = false by simpa using c]
          refine PySem.W.kat_no ?_
          unfold ltL at q
          rw [if_neg c] at q
          cases e : (true && i == 0)
          · exact PySem.W.kat_one _ _ (lt_int q)
          · exact oneLt_int q
end
section
variable {X : Cx}
theorem call_sort2 : CallR X (.builtin "sorted") (fun xs H Q => ∃ (p a1 a2 : Addr) (i j : Int) (us ws : List Int), xs = [.ref p] ∧ SqL X.K H p [.ref a1, .ref a2] ∧ SqT X.K H a1 ((i :: us).map V.int) ∧ SqT X.K H a2 ((j :: ws).map V.int) ∧
    ∀ l, H l = none → Q (.ref l) (upd H l (.lst (if ltL (j :: ws) (i :: us) = true then [.ref a2, .ref a1] else [.ref a1, .ref a2])))) := by
  intro pins s σ H xs us' Q I r h
  obtain ⟨p, a1, a2, i, j, us, ws, rfl, hq, t1, t2, q⟩ := h
  obtain ⟨u, rfl, rx⟩ := vals1 r
  cases rx
  obtain ⟨its, rv, pl, hz⟩ := I.list hq
  obtain ⟨x1, r1, k1, z1⟩ := I.tuple t1
  obtain ⟨x2, r2, k2, z2⟩ := I.tuple t2
  cases rv with
  | cons g1 rv =>
  cases rv with
  | cons g2 rv =>
  cases rv
  cases g1
  cases g2
  refine two_sorted (lt := ltL (j :: ws) (i :: us)) pl.isList (fun h' A kp => ?_) ?_
  · obtain ⟨o1, ho1, hc1, n1, hd1⟩ := k1
    obtain ⟨o2, ho2, hc2, n2, hd2⟩ := k2
    rw [List.map_cons] at r1 r2
    cases r1 with
    | cons f1 r1 =>
    cases r2 with
    | cons f2 r2 =>
    have v1 : Vals ((i :: us).map V.int) _ := .cons f1 r1
    have v2 : Vals ((j :: ws).map V.int) _ := .cons f2 r2
    obtain ⟨t1, rfl⟩ := f1
    obtain ⟨t2, rfl⟩ := f2
    refine ⟨tuples' (Value.type "int" != Value.type "tuple"), fun Q' q' => ?_, fun Q' q' => ?_⟩
    · refine PySem.W.kat_kind (fs := [.int i t1, .int j t2]) (T := .type "int") (.cons (kp _ _ ho1) hc1 hd1 rfl (.cons (kp _ _ ho2) hc2 hd2 rfl .nil)) (Nat.zero_lt_succ _) (fun v hv => ?_) (by decide) q'
      rcases List.mem_cons.mp hv with rfl | hv
      · exact .now
      · rw [List.mem_singleton.mp hv]
        exact .now
    · have e : (Value.type "int" != Value.type "tuple") = true := by decide
      rw [e]
      refine PySem.W.kat_lt (kp _ _ ho2) hd2 (kp _ _ ho1) hd1 (lex_ints _ _ _ _ 0 (by simpa using v2) (by simpa using v1) ?_ q')
      have l1 := v1.length
      have l2 := v2.length
      simp only [List.length_map] at l1 l2
      simp only [List.size_toArray]
      rw [← l1, ← l2]
  · refine ⟨.ref (s.heap.objs.size + 1), _, ?_, rfl, q (s.heap.objs.size + 1) (I.hok.fresh (Nat.le_succ _))⟩
    obtain ⟨c, hc⟩ := sortedAll_at s.heap [Value.ref a1, Value.ref a2] (if ltL (j :: ws) (i :: us) = true then [Value.ref a2, Value.ref a1].toArray else [Value.ref a1, Value.ref a2].toArray)
    refine I.laid (t' := s.toks) (fun b o e => sortedAll_old e) (Nat.le_succ _) ?_
    by_cases e : ltL (j :: ws) (i :: us) = true
    · rw [if_pos e] at hc ⊢
      exact ⟨show 2 ≤ sizeLine by decide, [.ref a2, .ref a1], c, .cons rfl (.cons rfl .nil), by rw [if_pos e]; exact hc⟩
    · rw [if_neg e] at hc ⊢
      exact ⟨show 2 ≤ sizeLine by decide, [.ref a1, .ref a2], c, .cons rfl (.cons rfl .nil), by rw [if_neg e]; exact hc⟩
def gSort2 : List D → (B → Prop) → Prop := g1 fun d Q => ∃ (i j : Int) (us ws : List Int), d = .lst [.tup ((i :: us).map D.int), .tup ((j :: ws).map D.int)] ∧
  Q (.ow (if ltL (j :: ws) (i :: us) = true then [.tup ((j :: ws).map D.int), .tup ((i :: us).map D.int)] else [.tup ((i :: us).map D.int), .tup ((j :: ws).map D.int)]))
theorem cu_sort2 : CallU X (.builtin "sorted") gSort2 := by
  intro A H ds vs Q0 Q hA r g k
  obtain ⟨d, v, rfl, rfl, rv, i, j, us, ws, rfl, g'⟩ := g1_inv g r
  simp only [Rep] at rv
  obtain ⟨p, xs, rfl, np, hp, rl⟩ := rv
  obtain ⟨y1, yr, rfl, s1, rl⟩ := rl.uncons
  obtain ⟨y2, yr, rfl, s2, rl⟩ := rl.uncons
  have := rl.unnil
  subst this
  have s1' := s1
  have s2' := s2
  simp only [Rep] at s1 s2
  obtain ⟨a1, w1, rfl, c1, q1⟩ := s1
  obtain ⟨a2, w2, rfl, c2, q2⟩ := s2
  have e1 := RepL.unints q1
  have e2 := RepL.unints q2
  subst e1 e2
  refine ⟨_, call_sort2, p, a1, a2, i, j, us, ws, rfl, .inl (.inl hp), c1.imp And.right id, c2.imp And.right id, fun l hl => k _ _ _ g' (same_new hl _) ?_⟩
  cases ltL (j :: ws) (i :: us)
  · exact rep_new_lst (.refl _) hl (.cons s1' (.cons s2' .nil))
  · exact rep_new_lst (.refl _) hl (.cons s2' (.cons s1' .nil))
def leL (x y : List Int) : Bool := !ltL y x
end
section
variable {prog : Program} {w : World} {A : Around} {E : Value → Shared → Prop} {s : Shared}
def LeLex (prog : Program) (w : World) (A : Around) (E : Value → Shared → Prop) (fin : Bool) (Q : Value → Shared → Prop) : List (Value × Value) → Shared → Prop
  | [], s => Q (.bool fin) s
  | (p, q) :: r, s => wpAny (model prog w) A (eqBool p q) (fun e s' => if e = true then LeLex prog w A E fin Q r s' else wpAny (model prog w) A (richCompare .LtE p q) Q E s') E s
theorem le_tuple {a b : Addr} {oa ob : Obj} {xs ys : Array Value} {n m : Nat} {P : PySem.Fin → Shared → Prop} (ha : s.heap.get? a = some oa) (da : oa.data = .seq xs n) (hb : s.heap.get? b = some ob) (cb : ob.cls = .type "tuple") (db : ob.data = .seq ys m)
    (h : LeLex prog w A E (decide (xs.size ≤ ys.size)) (fun v s' => P (.done (.ret v)) s') (xs.toList.zip ys.toList) s) : wpAny (model prog w) A (Builtin.«tuple.__le__» ⟨[.ref a, .ref b], []⟩) P E s := by
  show wpAny _ _ (isInstance (.ref b) (.type "tuple") >>= _) _ _ s
  refine wpAny_bind (wpAny_isInstance ⟨ob, hb, cb⟩ isSubtype_tuple_tuple ?_)
  simp only [Bool.not_true, Bool.false_eq_true, if_false]
  refine wpAny_bind (wpAny_tupleItemsOf ha da ?_)
  refine wpAny_bind (wpAny_tupleItemsOf hb db ?_)
  refine wpAny_bind ?_
  refine wpAny_forIn_list _ (fun rest r s' => r = (none, ()) ∧ LeLex prog w A E (decide (xs.size ≤ ys.size)) (fun v s' => P (.done (.ret v)) s') rest s') _ ?_ ?_ _ _ ⟨rfl, h⟩
  · rintro ⟨p, q⟩ rest r s' ⟨rfl, h'⟩
    have h2 : wpAny (model prog w) A (eqBool p q) (fun e s' => if e = true then LeLex prog w A E (decide (xs.size ≤ ys.size)) (fun v s' => P (.done (.ret v)) s') rest s' else wpAny (model prog w) A (richCompare .LtE p q) (fun v s' => P (.done (.ret v)) s') E s') E s' := h'
    refine wpAny_bind (wpAny_mono h2 (fun e s2 he => ?_) fun _ _ z => z)
    cases e
    · rw [if_neg (by decide)] at he
      rw [if_pos (by rfl)]
      exact wpAny_bind (wpAny_rule (wpAny_bind (wpAny_mono he (fun v s3 hv => wpAny_bind (wpAny_pure (wpAny_pure (wpAny_pure hv)))) fun _ _ z => z)))
    · rw [if_pos rfl] at he
      rw [if_neg (by decide)]
      exact wpAny_pure ⟨rfl, he⟩
  · rintro r s' ⟨rfl, h'⟩
    exact wpAny_pure h'
theorem LeLex.mono {fin : Bool} {Q Q' : Value → Shared → Prop} (k : ∀ v s, Q v s → Q' v s) : ∀ (l : List (Value × Value)) (s : Shared), LeLex prog w A E fin Q l s → LeLex prog w A E fin Q' l s
  | [], s, h => k _ s h
  | (p, q) :: r, s, h => by
    have h' : wpAny (model prog w) A (eqBool p q) (fun e s' => if e = true then LeLex prog w A E fin Q r s' else wpAny (model prog w) A (richCompare .LtE p q) Q E s') E s := h
    refine wpAny_mono h' (fun e s' he => ?_) fun _ _ z => z
    cases e
    · rw [if_neg (by decide)] at he ⊢
      exact wpAny_mono he k fun _ _ z => z
    · rw [if_pos rfl] at he ⊢
      exact LeLex.mono k r s' he
theorem le_rich {a b : Addr} {oa ob : Obj} {xs ys : Array Value} {n m : Nat} {Q : Value → Shared → Prop} (hu : A.units < cLine) (ha : s.heap.get? a = some oa) (ca : oa.cls = .type "tuple") (da : oa.data = .seq xs n) (hb : s.heap.get? b = some ob) (cb : ob.cls = .type "tuple") (db : ob.data = .seq ys m)
    (h : LeLex prog w A.in1 E (decide (xs.size ≤ ys.size)) (fun v s' => v ≠ .notImplemented ∧ Q v s') (xs.toList.zip ys.toList) s) : wpAny (model prog w) A (richCompare .LtE (.ref a) (.ref b)) Q E s :=
  wpAny_richCompare_same_room ⟨oa, ha, ca⟩ ⟨ob, hb, cb⟩ F.slot_tuple_le (wpAny_call_entry F.slot_tuple_le ⟨oa, ha, ca⟩ F.entry_tuple_le (le_tuple ha da hb cb db (h.mono (fun v s' q => ⟨v, rfl, q⟩) _ _)) (F.args_tuple_le_2 _ _)) hu
theorem leL_cons (a b : Int) (x y : List Int) : leL (a :: x) (b :: y) = if a = b then leL x y else decide (a ≤ b) := by
  unfold leL
  conv => lhs; unfold ltL
  by_cases c : a = b
  · rw [if_pos c, if_pos c.symm]
  · rw [if_neg c, if_neg (fun z => c z.symm)]
    by_cases d : a ≤ b
    · rw [decide_eq_true d, decide_eq_false (by omega)]; rfl
    · rw [decide_eq_false d, decide_eq_true (by omega)]; rfl
theorem le_ints {Q : Value → Shared → Prop} {fin : Bool} : ∀ (us ws : List Int) (x y : List Value), Vals (us.map V.int) x → Vals (ws.map V.int) y → fin = decide (us.length ≤ ws.length) → Q (.bool (leL us ws)) s → LeLex prog w A E fin Q (x.zip y) s
  | [], ws, x, y, hx, hy, hf, q => by
    cases hx
    rw [List.zip_nil_left]
    rw [show decide (([] : List Int).length ≤ ws.length) = true from decide_eq_true (Nat.zero_le _)] at hf
    subst hf
    have e : leL [] ws = true := by cases ws <;> rfl
    rw [e] at q
    exact q
  | a :: us, [], x, y, hx, hy, hf, q => by
    cases hy
    rw [List.zip_nil_right]
    rw [decide_eq_false (by simp)] at hf
    subst hf
    exact q
  | a :: us, b :: ws, x, y, hx, hy, hf, q => by
    rw [List.map_cons] at hx hy
    cases hx with
    | cons r1 hx =>
      cases hy with
      | cons r2 hy =>
        obtain ⟨t1, rfl⟩ := r1
        obtain ⟨t2, rfl⟩ := r2
        rw [List.zip_cons_cons]
        rw [leL_cons] at q
        refine wpAny_eqBool_int ?_
        by_cases c : a = b
        · subst c
          rw [if_pos rfl] at q
          rw [beq_self_eq_true, if_pos rfl]
          exact le_ints us ws _ _ hx hy (by rw [hf]; simp) q
        · rw [if_neg c] at q
          rw [show (a == b) = false by simpa using c, if_neg (by decide)]
          exact le_int q
end
section
variable {X : Cx}
theorem pdL_intsG : ∀ r : List Int, pdL (r.map D.int) = some (r.map PyData.int)
  | [] => by simp [pdL]
  | a :: r => by simp [pdL, pd, pdL_intsG r]
theorem pd_rowG (r : List Int) : pd (.tup (r.map D.int)) = some (.tuple (r.map .int)) := by simp [pd, pdL_intsG]
theorem dep_intsG : ∀ r : List Int, PyData.depthAll (r.map PyData.int) = 0
  | [] => by simp [PyData.depthAll]
  | a :: r => by simp [PyData.depthAll, PyData.depth, dep_intsG r]
theorem dep_rowG (r : List Int) : (PyData.tuple (r.map .int)).depth ≤ 30 := by simp [PyData.depth, dep_intsG]
theorem leL_refl : ∀ r : List Int, leL r r = true
  | [] => rfl
  | a :: r => by rw [leL_cons, if_pos rfl]; exact leL_refl r
def gLeP (d e : D) (Q : B → Prop) : Prop := ∃ (i j : Int) (us ws : List Int), d = .tup [.int i, .tup (us.map D.int)] ∧ e = .tup [.int j, .tup (ws.map D.int)] ∧ Q (.pu (.bl (if i = j then leL us ws else decide (i ≤ j))))
theorem ou_leP (hu : X.A.units + 64 < cLine) : OpU X (compareOp .LtE) gLeP := by
  intro A H d e v w Q0 Q hA r1 r2 g k
  obtain ⟨i, j, us, ws, rfl, rfl, g⟩ := g
  refine ⟨fun x y H Q => ∃ (A : AS), Rep X.K A H (.tup [.int i, .tup (us.map D.int)]) x ∧ Rep X.K A H (.tup [.int j, .tup (ws.map D.int)]) y ∧ Q (.bl (if i = j then leL us ws else decide (i ≤ j))) H, ?_, A, r1, r2, k _ _ H g (.refl _) rep_bl⟩
  rintro pins s σ H x y v u Q I rx ry ⟨A, r1, r2, h⟩
  simp only [Rep] at r1 r2
  obtain ⟨a1, vs1, rfl, c1, q1⟩ := r1
  obtain ⟨a2, vs2, rfl, c2, q2⟩ := r2
  cases rx
  cases ry
  obtain ⟨x1, y1, rfl, e1, q1⟩ := q1.uncons
  obtain ⟨x2, y2, rfl, e2, q1⟩ := q1.uncons
  have := q1.unnil
  subst this
  obtain ⟨x3, y3, rfl, e3, q2⟩ := q2.uncons
  obtain ⟨x4, y4, rfl, e4, q2⟩ := q2.uncons
  have := q2.unnil
  subst this
  have e1 := rep_int e1
  have e3 := rep_int e3
  subst e1 e3
  have e2' := e2
  have e4' := e4
  simp only [Rep] at e2 e4
  obtain ⟨b1, z1, rfl, d1, f1⟩ := e2
  obtain ⟨b2, z2, rfl, d2, f2⟩ := e4
  have g1 := RepL.unints f1
  have g2 := RepL.unints f2
  subst g1 g2
  obtain ⟨i1, w1, ⟨o1, ho1, hc1, n1, hd1⟩, _⟩ := I.tuple (c1.imp And.right id)
  obtain ⟨i2, w2, ⟨o2, ho2, hc2, n2, hd2⟩, _⟩ := I.tuple (c2.imp And.right id)
  obtain ⟨i3, w3, ⟨o3, ho3, hc3, n3, hd3⟩, _⟩ := I.tuple (d1.imp And.right id)
  obtain ⟨i4, w4, ⟨o4, ho4, hc4, n4, hd4⟩, _⟩ := I.tuple (d2.imp And.right id)
  cases w1 with
  | cons s1 w1 =>
  cases w1 with
  | cons s2 w1 =>
  cases w1
  cases w2 with
  | cons s3 w2 =>
  cases w2 with
  | cons s4 w2 =>
  cases w2
  obtain ⟨t1, rfl⟩ := s1
  obtain ⟨t3, rfl⟩ := s3
  cases s2
  cases s4
  have fin : ∀ b : Bool, b = (if i = j then leL us ws else decide (i ≤ j)) → Value.bool b ≠ .notImplemented ∧ EP X pins σ Q (.bool b) s := fun b e => ⟨by simp, .bl b, H, I, rfl, by rw [e]; exact h⟩
  refine le_rich (by omega) ho1 hc1 hd1 ho2 hc2 hd2 ?_
  refine wpAny_eqBool_int ?_
  by_cases c : i = j
  · subst c
    rw [if_pos rfl] at fin
    rw [beq_self_eq_true, if_pos rfl]
    obtain ⟨as, ra⟩ := rep_reads I _ (pd_rowG us) e2' rfl
    obtain ⟨bs, rb⟩ := rep_reads I _ (pd_rowG ws) e4' rfl
    refine SeqAt.eqBoolOverData _ _ _ _ _ _ _ _ _ _ _ _ ra rb (pd_can _ (pd_rowG us)) (pd_can _ (pd_rowG ws)) (by have := dep_rowG us; rw [Around.in1_units]; omega) ?_
    have ev : (PyData.tuple (us.map .int)).eqv (.tuple (ws.map .int)) = decide (us = ws) := by simp only [PyData.eqv]; exact PySem.W.ked_eqvAll us ws
    rw [ev]
    by_cases e : us = ws
    · subst e
      rw [decide_eq_true rfl, if_pos rfl]
      exact fin _ (leL_refl us).symm
    · rw [decide_eq_false e, if_neg (by decide)]
      refine le_rich (by rw [Around.in1_units]; omega) ho3 hc3 hd3 ho4 hc4 hd4 (le_ints us ws _ _ (by simpa using w3) (by simpa using w4) ?_ ⟨by simp, fin _ rfl⟩)
      have l1 := w3.length
      have l2 := w4.length
      simp only [List.length_map] at l1 l2
      simp only [List.size_toArray]
      rw [← l1, ← l2]
  · rw [if_neg c] at fin
    rw [show (i == j) = false by simpa using c, if_neg (by decide)]
    exact le_int (fin _ rfl)
end
end M
end
section
set_option Elab.async false
set_option linter.all false
set_option maxRecDepth 100000
open PySem L2 M
local macro_rules | `(tactic| walk_at "u") => `(tactic| simp only [uSeq, uSet, uRet, uRetN, uRetV, uIfS, uTst, uOp, uC, uVar, slotE, uVarV, slotV, uV, uIx, gIx, uLen, seqOf, uCall, uCons, uNil, uLst, uTup, uApp, ownAt, uNeg, gAdd, M.gSub, gMul, gDiv, gMod, gPow, gI2, gCmp, gEqB, isB, B.d, uAnd, uOr, uNot, uAndV, uOrV, uNotV, uName, uNext, uPar, uAug, uSl, uPart, uNoPart, gSl, gAbs, gMax, gMin, gToInt, gTupleOf, gListOf, gIsi, g1, g2, gInt, uSetI, uIf,
  List.getElem?_cons_zero, List.getElem?_cons_succ, List.set_cons_zero, List.set_cons_succ, List.length_cons, List.length_nil, decide_eq_true_eq, Bool.false_xor, Bool.true_xor, Bool.not_eq_true', decide_eq_false_iff_not, if_true, if_false, reduceCtorEq])
namespace M
def φ_mixed : Φ := fun ds Q => ∃ c k p : Int, ds = [.int c, .int k, .int p] ∧ 0 ≤ k ∧ k < 4294967296 ∧ 0 < p ∧ ∀ r : Int, 0 ≤ r → r < p → Q (.pu (.int r))
def tr_mixed : US := (uSeq (uSet 3 (uOp gMod (uOp gMul (uOp gAdd (uOp gAdd (uOp gAdd (uVar 0) (uOp gMul (uOp gMul (uC (.int 7)) (uVar 1)) (uVar 1))) (uOp gMul (uC (.int 13)) (uVar 1))) (uC (.int 5))) (uC (.int 48271))) (uC (.int 2147483647)))) (uSeq (uSet 3 (uOp gMod (uOp gMul (uVar 3) (uVar 3)) (uC (.int 2147483629)))) (uRet (uOp gMod (uOp gMul (uVar 3) (uC (.int 39373))) (uVar 2)))))
theorem fmod_pos (i : Int) {j : Int} (h : 0 < j) : i.fmod j = i % j := Int.fmod_eq_emod_of_nonneg i (Int.le_of_lt h)
theorem fdiv_pos (i : Int) {j : Int} (h : 0 < j) : i.fdiv j = i / j := Int.fdiv_eq_ediv_of_nonneg i (Int.le_of_lt h)
theorem cmR {i j : Int} (h1 : -18446744073709551616 < j) (h2 : j < 18446744073709551616) : CMul i j ∨ (Sm i ∧ Sm j) := .inl (.inr ⟨h1, h2⟩)
theorem cmL {i j : Int} (h1 : -18446744073709551616 < i) (h2 : i < 18446744073709551616) : CMul i j ∨ (Sm i ∧ Sm j) := .inl (.inl ⟨h1, h2⟩)
theorem rd_mixed : ∀ ds Q, φ_mixed ds Q → tr_mixed { nx := fun _ => Q (.pu .non), rt := Q } (init ["c", "k", "p", "f"] ds) := by
  rintro ds Q ⟨c, k, p, rfl, h0, h1, hp, h⟩
  unfold tr_mixed
  show (uSeq _ _ : US) _ [some (.pu (.int c)), some (.pu (.int k)), some (.pu (.int p)), none]
  walk_at "u"
  rw [fmod_pos _ (by decide : (0 : Int) < 2147483647), fmod_pos _ (by decide : (0 : Int) < 2147483629), fmod_pos _ hp]
  refine ⟨cmL (by decide) (by decide), cmR (by omega) (by omega), cmL (by decide) (by decide), cmR (by decide) (by decide), by decide, cmR (by omega) (by omega), by decide, cmR (by decide) (by decide), by omega, ?_⟩
  exact h _ (Int.emod_nonneg _ (by omega)) (Int.emod_lt_of_pos _ hp)
theorem uFor_intro {ui : UI} {g : UG} {tb : US} {D : UD} {ρ : Ev} (n : Nat) (it : Nat → M.D) (ρ1 : Ev) (hui : ∀ Q : Nat → (Nat → M.D) → Ev → Prop, Q n it ρ1 → ui ρ Q) (Pv : Nat → Ev → Prop) (h0 : Pv 0 ρ1)
    (hs : ∀ i ρ, i < n → Pv i ρ → g (.pu (it i)) ρ fun ρ2 => tb { D with nx := Pv (i + 1), ct := Pv (i + 1), bk := D.nx } ρ2) (hd : ∀ ρ, Pv n ρ → D.nx ρ) : uFor ui g tb D ρ := hui _ ⟨Pv, h0, hs, hd⟩
theorem atI_map {ws : List Int} {i : Nat} (h : i < ws.length) : atI (ws.map D.int) (0 + (i : Int)) = some (.int ws[i]) := by
  rw [Int.zero_add]
  exact atI_nat (by rw [List.getElem?_map, List.getElem?_eq_getElem h]; rfl)
def Below (xs ws : List Int) : Prop := xs.length = ws.length ∧ ∀ (j : Nat) (x w : Int), xs[j]? = some x → ws[j]? = some w → 0 ≤ x ∧ x < w
theorem cpl {i j : Int} (h1 : 0 ≤ j) (h2 : j ≤ 1000000) (h3 : i.natAbs < 2 ^ 64) : CPow i j := ⟨h1, h2, h3⟩
def φ_draws : Φ := fun ds Q => ∃ (c : Int) (ws : List Int) (p : Int), ds = [.int c, .lst (ws.map .int), .int p] ∧ ws.length ≤ 1000 ∧ 0 < p ∧ (∀ w ∈ ws, 0 < w ∧ w < 18446744073709551616) ∧ ∀ xs : List Int, Below xs ws → Q (.ow (xs.map .int))
def tr_draws : US := (uSeq (uSet 3 (uC (.int 0))) (uSeq (uIfS (uTst (uOp (gCmp fun i j => decide (j ≤ i)) (uVar 0) (uOp gPow (uC (.int 10)) (uC (.int 18))))) (uSet 3 (uOp M.gSub (uVar 0) (uOp gPow (uC (.int 10)) (uC (.int 18))))) uNext) (uSeq (uSet 4 (uLst uNil)) (uSeq (uFor (uRng1 (uCons (uLen (uVarV 1)) uNil)) (uName 5) (uIfS (uTst (uOp (gCmp fun i j => decide (j < i)) (uVar 3) (uC (.int 1)))) (uSeq (uApp 4 (uOp gMod (uVar 3) (uIx (uVarV 1) (uVar 5)))) (uSet 3 (uOp gDiv (uVar 3) (uIx (uVarV 1) (uVar 5))))) (uApp 4 (uOp gMod (uCall φ_mixed (uCons (uVar 0) (uCons (uVar 5) (uCons (uVar 2) uNil)))) (uIx (uVarV 1) (uVar 5)))))) (uRetV 4)))))
theorem sm64 {i : Int} (h1 : -18446744073709551616 < i) (h2 : i < 18446744073709551616) : Sm i := by
  unfold Sm
  have h3 : i.natAbs < 18446744073709551616 := by omega
  exact Nat.lt_of_lt_of_le h3 (by decide +kernel)
theorem below_snoc {xs ws : List Int} {x : Int} (h : ∀ (j : Nat) (x w : Int), xs[j]? = some x → ws[j]? = some w → 0 ≤ x ∧ x < w) (hl : xs.length < ws.length) (h0 : 0 ≤ x) (h1 : x < ws[xs.length]) :
    ∀ (j : Nat) (y w : Int), (xs ++ [x])[j]? = some y → ws[j]? = some w → 0 ≤ y ∧ y < w := by
  intro j y w e1 e2
  by_cases hj : j < xs.length
  · rw [List.getElem?_append_left hj] at e1
    exact h j y w e1 e2
  · rw [List.getElem?_append_right (by omega)] at e1
    by_cases hj' : j = xs.length
    · subst hj'
      simp at e1
      subst e1
      rw [List.getElem?_eq_getElem hl] at e2
      cases e2
      exact ⟨h0, h1⟩
    · have : j - xs.length ≠ 0 := by omega
      cases e : j - xs.length with
      | zero => omega
      | succ n => rw [e] at e1; simp at e1
theorem rd_draws : ∀ ds Q, φ_draws ds Q → tr_draws { nx := fun _ => Q (.pu .non), rt := Q } (init ["c", "w", "p", "l", "f", "k"] ds) := by
  rintro ds Q ⟨c, ws, p, rfl, hlen, hp, hw, h⟩
  unfold tr_draws
  have tail : ∀ left : Int, (uSeq (uSet 4 (uLst uNil)) (uSeq (uFor (uRng1 (uCons (uLen (uVarV 1)) uNil)) (uName 5) (uIfS (uTst (uOp (gCmp fun i j => decide (j < i)) (uVar 3) (uC (.int 1)))) (uSeq (uApp 4 (uOp gMod (uVar 3) (uIx (uVarV 1) (uVar 5)))) (uSet 3 (uOp gDiv (uVar 3) (uIx (uVarV 1) (uVar 5))))) (uApp 4 (uOp gMod (uCall φ_mixed (uCons (uVar 0) (uCons (uVar 5) (uCons (uVar 2) uNil)))) (uIx (uVarV 1) (uVar 5)))))) (uRetV 4)) : US)
      { nx := fun _ => Q (.pu .non), rt := Q } [some (.pu (.int c)), some (.pu (.lst (ws.map .int))), some (.pu (.int p)), some (.pu (.int left)), none, none] := by
    intro left
    rw [uSeq]
    walk_at "u"
    refine ⟨by decide, ?_⟩
    refine uFor_intro ws.length (fun i => .int (0 + i)) [some (.pu (.int c)), some (.pu (.lst (ws.map .int))), some (.pu (.int p)), some (.pu (.int left)), some (.ow []), none] ?_
      (fun i ρ => ∃ (l : Int) (xs : List Int) (kk : Option B), ρ = [some (.pu (.int c)), some (.pu (.lst (ws.map .int))), some (.pu (.int p)), some (.pu (.int l)), some (.ow (xs.map .int)), kk] ∧ xs.length = i ∧ ∀ (j : Nat) (x w : Int), xs[j]? = some x → ws[j]? = some w → 0 ≤ x ∧ x < w)
      ⟨left, [], none, rfl, rfl, fun j x w e => by simp at e⟩ ?_ ?_
    · intro Q q
      simp only [uRng1]
      walk_at "u"
      rw [List.length_map]
      refine ⟨⟨by omega, by omega⟩, ?_⟩
      rw [Int.toNat_natCast]
      exact q
    · rintro i ρ hi ⟨l, xs, kk, rfl, hl, hb⟩
      subst hl
      obtain ⟨w0, w1⟩ := hw _ (List.getElem_mem hi)
      walk_at "u"
      refine ⟨by decide, ?_⟩
      by_cases hc : 1 < l
      · rw [if_pos hc]
        simp only [atI_map hi]
        rw [fmod_pos _ w0, fdiv_pos _ w0]
        refine ⟨by omega, ?_, ⟨by omega, sm64 (by omega) w1⟩, _, xs ++ [l % ws[xs.length]], _, by rw [List.map_append]; rfl, by simp, below_snoc hb hi (Int.emod_nonneg _ (by omega)) (Int.emod_lt_of_pos _ w0)⟩
        rw [List.length_map]
        exact Nat.lt_of_lt_of_le hi (Nat.le_trans hlen (by decide))
      · rw [if_neg hc]
        refine ⟨c, (0 + (xs.length : Int)), p, rfl, by omega, by omega, hp, fun r r0 r1 => ?_⟩
        simp only [atI_map hi]
        rw [fmod_pos _ w0]
        refine ⟨by omega, ?_, l, xs ++ [r % ws[xs.length]], _, by rw [List.map_append]; rfl, by simp, below_snoc hb hi (Int.emod_nonneg _ (by omega)) (Int.emod_lt_of_pos _ w0)⟩
        rw [List.length_map]
        exact Nat.lt_of_lt_of_le hi (Nat.le_trans hlen (by decide))
    · rintro ρ ⟨l, xs, kk, rfl, hl, hb⟩
      walk_at "u"
      exact h xs ⟨hl, hb⟩
  show (uSeq _ _ : US) _ [some (.pu (.int c)), some (.pu (.lst (ws.map .int))), some (.pu (.int p)), none, none, none]
  refine (show CPow 10 18 ∧ (if decide ((10 : Int) ^ (18 : Int).toNat ≤ c) = true then _ else _) from ⟨cpl (by decide) (by decide) (by decide), ?_⟩)
  split
  · exact ⟨cpl (by decide) (by decide) (by decide), tail _⟩
  · exact tail _
theorem atI_head {d : D} {l : List D} : atI (d :: l) 0 = some d := atI_nat (j := 0) rfl
theorem getD_map {ys : List Int} {i : Nat} (h : i < (ys.map D.int).length) : ∃ z, (ys.map D.int).getD i .non = .int z := by
  rw [List.length_map] at h
  exact ⟨ys[i], by rw [List.getD_eq_getElem?_getD, List.getElem?_map, List.getElem?_eq_getElem h]; rfl⟩
theorem rep_flat (k : Nat) (z : Int) : (List.replicate k [D.int z]).flatten = (List.replicate k z).map .int := by
  induction k with
  | zero => rfl
  | succ k ih => rw [List.replicate_succ, List.flatten_cons, ih, List.replicate_succ]; rfl
def φ_cell : Φ := fun ds Q => ∃ (ns : List Int) (k : Int), ds = [.rol (ns.map .int), .int k] ∧ ns.length ≤ 63 ∧ 0 ≤ k ∧ k < 4294967296 ∧ ∀ r : Int, Q (.pu (.int r))
def tr_cell : US := (uSeq (uIfS (uTst (uOp (gEqB false) (uLen (uVarV 0)) (uC (.int 0)))) (uRet (uOp gMul (uC (.int 7919)) (uOp gAdd (uVar 1) (uC (.int 1))))) uNext) (uSeq (uIfS (uTst (uOp (gCmp fun i j => decide (i < j)) (uVar 1) (uLen (uVarV 0)))) (uRet (uIx (uVarV 0) (uVar 1))) uNext) (uRet (uOp gAdd (uIx (uVarV 0) (uOp gMod (uVar 1) (uLen (uVarV 0)))) (uOp gMul (uC (.int 104729)) (uVar 1))))))
theorem atI_ex {ns : List Int} {k : Int} (h0 : 0 ≤ k) (h1 : k < ns.length) : ∃ z, atI (ns.map D.int) k = some (.int z) := by
  obtain ⟨i, rfl⟩ : ∃ i : Nat, k = (i : Int) := ⟨k.toNat, by omega⟩
  have hi : i < ns.length := by omega
  exact ⟨ns[i], atI_nat (by rw [List.getElem?_map, List.getElem?_eq_getElem hi]; rfl)⟩
theorem rd_cell : ∀ ds Q, φ_cell ds Q → tr_cell { nx := fun _ => Q (.pu .non), rt := Q } (init ["s", "k"] ds) := by
  rintro ds Q ⟨ns, k, rfl, hl, k0, k1, h⟩
  unfold tr_cell
  show (uSeq _ _ : US) _ [some (.pu (.rol (ns.map .int))), some (.pu (.int k))]
  walk_at "u"
  rw [List.length_map]
  split
  · exact ⟨cmL (by decide) (by decide), h _⟩
  · split
    · obtain ⟨z, hz⟩ := atI_ex (ns := ns) k0 (by omega)
      rw [hz]
      exact h z
    · refine ⟨by omega, ?_⟩
      rw [fmod_pos _ (by omega)]
      obtain ⟨z, hz⟩ := atI_ex (ns := ns) (k := k % ns.length) (Int.emod_nonneg _ (by omega)) (Int.emod_lt_of_pos _ (by omega))
      rw [hz]
      exact ⟨cmL (by decide) (by decide), h _⟩
def φ_whole : Φ := fun ds Q => ∃ i : Int, ds = [.int i] ∧ Q (.pu (.bl true))
def tr_whole : US := (uRet (uAndV (uCall gIsi (uCons (uVar 0) (uCons (uC (.ty "int")) uNil))) (uNotV (uCall gIsi (uCons (uVar 0) (uCons (uC (.ty "bool")) uNil))))))
theorem rd_whole : ∀ ds Q, φ_whole ds Q → tr_whole { nx := fun _ => Q (.pu .non), rt := Q } (init ["f"] ds) := by
  rintro ds Q ⟨i, rfl, h⟩
  unfold tr_whole
  show (uRet _ : US) _ [some (.pu (.int i))]
  walk_at "u"
  simpa using h
theorem bt_max : bootBuiltins "max" = some (.builtin "max") := by decide +kernel
theorem bt_min : bootBuiltins "min" = some (.builtin "min") := by decide +kernel
theorem bt_isinstance : bootBuiltins "isinstance" = some (.builtin "isinstance") := by decide +kernel
theorem bt_int : bootBuiltins "int" = some (.type "int") := by decide +kernel
theorem bt_bool : bootBuiltins "bool" = some (.type "bool") := by decide +kernel
theorem bt_tuple : bootBuiltins "tuple" = some (.type "tuple") := by decide +kernel
theorem bt_list : bootBuiltins "list" = some (.type "list") := by decide +kernel
theorem len_mixed : ∀ ds Q, φ_mixed ds Q → ds.length = 3 := by rintro ds Q ⟨c, k, p, rfl, _⟩; rfl
theorem len_draws : ∀ ds Q, φ_draws ds Q → ds.length = 3 := by rintro ds Q ⟨c, k, p, rfl, _⟩; rfl
theorem len_cell : ∀ ds Q, φ_cell ds Q → ds.length = 2 := by rintro ds Q ⟨c, k, rfl, _⟩; rfl
theorem len_whole : ∀ ds Q, φ_whole ds Q → ds.length = 1 := by rintro ds Q ⟨i, rfl, _⟩; rfl
theorem len_law : ∀ ds Q, φLaw ds Q → ds.length = 1 := by rintro ds Q ⟨i, rfl, _⟩; rfl
end M
end
section
set_option Elab.async false
set_option linter.all false
set_option maxRecDepth 100000
open PySem L2 M
local macro_rules | `(tactic| walk_at "u") => `(tactic| simp only [uSeq, uSet, uRet, uRetN, uRetV, uIfS, uTst, uOp, uC, uVar, slotE, uVarV, slotV, uV, uIx, gIx, uLen, seqOf, uCall, uCons, uNil, uLst, uTup, uApp, ownAt, uNeg, gAdd, M.gSub, gMul, gDiv, gMod, gPow, gI2, gCmp, gEqB, isB, B.d, uAnd, uOr, uNot, uAndV, uOrV, uNotV, uName, uNext, uPar, uAug, uSl, uPart, uNoPart, gSl, gAbs, gMax, gMin, gToInt, gTupleOf, gListOf, gIsi, g1, g2, gInt, uSetI, uIf, gAll, gSum, uDrop, lend, capEv, frzL, frz1, Option.bind_some, Option.bind_none, Option.map_some, Option.map_none, Option.join,
  List.getElem?_cons_zero, List.getElem?_cons_succ, List.set_cons_zero, List.set_cons_succ, List.length_cons, List.length_nil, decide_eq_true_eq, Bool.false_xor, Bool.true_xor, Bool.not_eq_true', decide_eq_false_iff_not, if_true, if_false, reduceCtorEq])
namespace M
theorem uRet_eq (t : UE) (D : UD) (ρ : Ev) : uRet t D ρ = t ρ (fun b _ => D.rt b) := rfl
theorem uCall_eq (φ : Φ) (t : UA) (ρ : Ev) (Q : B → Ev → Prop) : uCall φ t ρ Q = t ρ fun ds ρ1 => φ ds fun b => Q b ρ1 := rfl
theorem uCons_eq (t : UE) (u : UA) (ρ : Ev) (Q : List D → Ev → Prop) : uCons t u ρ Q = t ρ fun x ρ1 => u ρ1 fun xs ρ2 => Q (x.d :: xs) ρ2 := rfl
theorem uSeq_eq (t u : US) (D : UD) (ρ : Ev) : uSeq t u D ρ = t { D with nx := u D } ρ := rfl
theorem uComp_map {js : List Nat} {cap : List (Option Nat)} {last t0 : Nat} {ui : UI} {te : UE} {ρ : Ev} {Q : B → Ev → Prop} (n : Nat) (it : Nat → D) (ρ1 : Ev) (hui : ∀ Q : Nat → (Nat → D) → Ev → Prop, Q n it ρ1 → ui ρ Q) (hn : n ≤ 1000000)
    (G : Option B → List D → Ev) (x0 : Option B) (h0 : capEv (frzL ρ1 js) cap last = G x0 []) (h1 : ∀ x l b, (G x l).set t0 (some b) = G (some b) l) (h1' : ∀ x l, t0 < (G x l).length) (h2 : ∀ x l (Q : List D → Prop), Q l → ownAt (G x l) last Q) (h3 : ∀ x l l', (G x l).set last (some (.ow l')) = G x l')
    (f : Nat → D) (hte : ∀ i l (Q' : B → Ev → Prop), i < n → Q' (.pu (f i)) (G (some (.pu (it i))) l) → te (G (some (.pu (it i))) l) Q') (hq : Q (.ow ((List.range n).map f)) (frzL ρ1 js)) :
    uComp js cap last ui (uName t0) (fun ρ Q => Q true ρ) te ρ Q := by
  refine hui _ ⟨fun i ρ' => ∃ x, ρ' = G x ((List.range i).map f), ⟨x0, h0⟩, ?_, ?_⟩
  · rintro i ρ' hi ⟨x, rfl⟩
    refine ⟨h1' _ _, ?_⟩
    rw [h1]
    dsimp only
    rw [if_pos rfl]
    refine hte i _ _ hi (h2 _ _ _ ⟨?_, some (.pu (it i)), ?_⟩)
    · rw [List.length_map, List.length_range]
      exact Nat.lt_of_lt_of_le hi (Nat.le_trans hn (by decide))
    · rw [h3, List.range_succ, List.map_append]
      rfl
  · rintro ρ' ⟨x, rfl⟩
    exact h2 _ _ _ hq
def rowD (r : List Int) : D := .tup (r.map .int)
theorem cut_to (l : List D) (i : Nat) (h : i ≤ l.length) : cutD l none (some (i : Int)) = l.take i := by
  unfold cutD
  rw [HT.sIx_none, HT.sIx_nat, Nat.min_eq_left h]
  simp
theorem cut_from (l : List D) (i : Nat) (h : i ≤ l.length) : cutD l (some (i : Int)) none = l.drop i := by
  unfold cutD
  rw [HT.sIx_none, HT.sIx_nat, Nat.min_eq_left h]
  rw [List.take_of_length_le (by rw [List.length_drop]; exact Nat.le_refl _)]
theorem Sm.pow {i : Int} {k : Nat} (h : i.natAbs ≤ 2 ^ k) (hk : k < 9000) : Sm i := Nat.lt_of_le_of_lt h (Nat.pow_lt_pow_right (by decide) hk)
theorem atI_row0 {r : List Int} (h : 0 < r.length) : atI (r.map D.int) 0 = some (.int (r.getD 0 0)) := by
  refine atI_nat (j := 0) ?_
  rw [List.getElem?_map, List.getElem?_eq_getElem h, List.getD_eq_getElem?_getD, List.getElem?_eq_getElem h]; rfl
end M
end
section
set_option Elab.async false
set_option linter.all false
set_option maxRecDepth 100000
open PySem L2 M
namespace M
theorem uComp_map2 {js : List Nat} {cap : List (Option Nat)} {last t0 t1 : Nat} {ui : UI} {te : UE} {ρ : Ev} {Q : B → Ev → Prop} (n : Nat) (i1 i2 : Nat → D) (ρ1 : Ev) (hui : ∀ Q : Nat → (Nat → D) → Ev → Prop, Q n (fun i => .tup [i1 i, i2 i]) ρ1 → ui ρ Q) (hn : n ≤ 1000000)
    (G : Option B → Option B → List D → Ev) (x0 y0 : Option B) (h0 : capEv (frzL ρ1 js) cap last = G x0 y0 []) (h1 : ∀ x y l b c, ((G x y l).set t0 (some b)).set t1 (some c) = G (some b) (some c) l) (h1' : ∀ x y l, t0 < (G x y l).length ∧ t1 < (G x y l).length)
    (h2 : ∀ x y l (Q : List D → Prop), Q l → ownAt (G x y l) last Q) (h3 : ∀ x y l l', (G x y l).set last (some (.ow l')) = G x y l')
    (f : Nat → D) (hte : ∀ i l (Q' : B → Ev → Prop), i < n → Q' (.pu (f i)) (G (some (.pu (i1 i))) (some (.pu (i2 i))) l) → te (G (some (.pu (i1 i))) (some (.pu (i2 i))) l) Q') (hq : Q (.ow ((List.range n).map f)) (frzL ρ1 js)) :
    uComp js cap last ui (uTupG (uGCons t0 (uGCons t1 uGNil))) (fun ρ Q => Q true ρ) te ρ Q := by
  refine hui _ ⟨fun i ρ' => ∃ x y, ρ' = G x y ((List.range i).map f), ⟨x0, y0, h0⟩, ?_, ?_⟩
  · rintro i ρ' hi ⟨x, y, rfl⟩
    refine ⟨(h1' _ _ _).1, by rw [List.length_set]; exact (h1' _ _ _).2, rfl, ?_⟩
    rw [h1]
    dsimp only
    rw [if_pos rfl]
    refine hte i _ _ hi (h2 _ _ _ _ ⟨?_, some (.pu (i1 i)), some (.pu (i2 i)), ?_⟩)
    · rw [List.length_map, List.length_range]
      exact Nat.lt_of_lt_of_le hi (Nat.le_trans hn (by decide))
    · rw [h3, List.range_succ, List.map_append]
      rfl
  · rintro ρ' ⟨x, y, rfl⟩
    exact h2 _ _ _ _ hq
theorem cp10' {j : Int} (h1 : 0 ≤ j) (h2 : j ≤ 1000000) : CPow 10 j := ⟨h1, h2, by decide⟩
def rwF (n : Nat) (f : Nat → Int) : List Int := (List.range n).map f
theorem rwF_len (n : Nat) (f : Nat → Int) : (rwF n f).length = n := by simp [rwF]
theorem rwF_get {n i : Nat} {f : Nat → Int} (h : i < n) : (rwF n f)[i]? = some (f i) := by simp [rwF, h]
theorem rwF_mlen (n : Nat) (f : Nat → Int) : ((rwF n f).map D.int).length = n := by simp [rwF]
theorem rwF_mget {n i : Nat} {f : Nat → Int} (h : i < n) : ((rwF n f).map D.int)[i]? = some (.int (f i)) := by simp [rwF, h]
theorem rwF_getD {n i : Nat} {f : Nat → Int} (h : i < n) : ((rwF n f).map D.int).getD i .non = .int (f i) := by rw [List.getD_eq_getElem?_getD, rwF_mget h]; rfl
theorem rwF_at {n i : Nat} {f : Nat → Int} (h : i < n) : atI ((rwF n f).map D.int) (i : Int) = some (.int (f i)) := atI_nat (rwF_mget h)
theorem rwF_set {n j : Nat} {f : Nat → Int} {v : Int} (h : j < n) : ((rwF n f).map D.int).set j (.int v) = (rwF n fun x => if x = j then v else f x).map D.int := by
  apply List.ext_getElem?
  intro k
  by_cases hk : k < n
  · rw [rwF_mget hk]
    by_cases e : j = k
    · subst e
      rw [get_set_eq (by rw [rwF_mlen]; exact hk), if_pos rfl]
    · rw [get_set_ne e, rwF_mget hk, if_neg (fun z => e z.symm)]
  · rw [List.getElem?_eq_none (by rw [List.length_set, rwF_mlen]; omega), List.getElem?_eq_none (by rw [rwF_mlen]; omega)]
theorem rwF_congr {n : Nat} {f g : Nat → Int} (h : ∀ i, i < n → f i = g i) : rwF n f = rwF n g := by
  unfold rwF
  apply List.map_congr_left
  intro i hi
  exact h i (List.mem_range.mp hi)
theorem rwF_of (r : List Int) : r = rwF r.length (fun j => r.getD j 0) := by
  apply List.ext_getElem?
  intro k
  by_cases hk : k < r.length
  · rw [rwF_get hk, List.getElem?_eq_getElem hk, List.getD_eq_getElem?_getD, List.getElem?_eq_getElem hk]; rfl
  · rw [List.getElem?_eq_none (by omega), List.getElem?_eq_none (by rw [rwF_len]; omega)]
theorem map_ints (n : Nat) (f : Nat → Int) : (List.range n).map (fun k => D.int (f k)) = (rwF n f).map D.int := by
  unfold rwF
  rw [List.map_map]
  rfl
theorem ix_nat {n i : Nat} (h : i < n) : ixN n (i : Int) = some i := by
  unfold ixN
  have h2 : (i : Int) < (n : Int) := by omega
  simp [h, h2]
theorem uTst_eq (t : UE) (ρ : Ev) (Q : Bool → Ev → Prop) : uTst t ρ Q = t ρ (isB Q) := rfl
theorem uOp_eq (g : D → D → (B → Prop) → Prop) (ta tb : UE) (ρ : Ev) (Q : B → Ev → Prop) : uOp g ta tb ρ Q = ta ρ fun x ρ1 => tb ρ1 fun y ρ2 => g x.d y.d fun b => Q b ρ2 := rfl
theorem uIfS_eq (c : UT) (t u : US) (E : UD) (ρ : Ev) : uIfS c t u E ρ = c ρ fun b ρ1 => if b = true then t E ρ1 else u E ρ1 := rfl
theorem pdL_ints : ∀ r : List Int, pdL (r.map D.int) = some (r.map PyData.int)
  | [] => by simp [pdL]
  | a :: r => by simp [pdL, pd, pdL_ints r]
theorem pd_row (r : List Int) : pd (rowD r) = some (.tuple (r.map .int)) := by simp [rowD, pd, pdL_ints]
theorem dep_ints : ∀ r : List Int, PyData.depthAll (r.map PyData.int) = 0
  | [] => by simp [PyData.depthAll]
  | a :: r => by simp [PyData.depthAll, PyData.depth, dep_ints r]
theorem dep_row (r : List Int) : (PyData.tuple (r.map .int)).depth ≤ 60 := by simp [PyData.depth, dep_ints]
theorem eqv_row (a b : List Int) : (PyData.tuple (a.map .int)).eqv (.tuple (b.map .int)) = decide (a = b) := by simp only [PyData.eqv]; exact PySem.W.ked_eqvAll a b
theorem gEqD_row {neg : Bool} {a b : List Int} {Q : B → Prop} (h : Q (.pu (.bl (neg ^^ decide (a = b))))) : gEqD neg (rowD a) (rowD b) Q := ⟨_, _, pd_row a, pd_row b, dep_row a, by rw [eqv_row]; exact h⟩
end M
end
section
set_option Elab.async false
set_option linter.all false
set_option maxRecDepth 100000
open PySem L2 M
local macro_rules | `(tactic| walk_at "u") => `(tactic| simp only [uRev, gRev, uSlT, gSlT, uSeq, uSet, uRet, uRetN, uRetV, uIfS, uTst, uOp, uC, uVar, slotE, uVarV, slotV, uV, uIx, gIx, uLen, seqOf, uCall, uCons, uNil, uLst, uTup, uApp, ownAt, uNeg, gAdd, M.gSub, gMul, gDiv, gMod, gPow, gI2, gCmp, gEqB, isB, B.d, uAnd, uOr, uNot, uAndV, uOrV, uNotV, uName, uNext, uPar, uAug, uSl, uPart, uNoPart, gSl, gAbs, gMax, gMin, gToInt, gTupleOf, gListOf, gIsi, g1, g2, gInt, uSetI, uIf, gAll, gSum, uDrop, uAsg, uTupG, uGCons, uGNil, uRng1, uRng2, uRngD, uRevR, uZip, uEnum, uSeqI, lend, capEv, frzL, frz1, Option.bind_some, Option.bind_none, Option.map_some, Option.map_none, Option.join,
  List.getElem?_cons_zero, List.getElem?_cons_succ, List.set_cons_zero, List.set_cons_succ, List.length_cons, List.length_nil, decide_eq_true_eq, Bool.false_xor, Bool.true_xor, Bool.not_eq_true', decide_eq_false_iff_not, if_true, if_false, reduceCtorEq])
namespace M
def cutN (f : Nat → Int) : Nat → Nat
  | 0 => 0
  | n + 1 => if f n = 0 then cutN f n else n + 1
theorem cutN_le (f : Nat → Int) : ∀ n, cutN f n ≤ n
  | 0 => Nat.le_refl _
  | n + 1 => by
    unfold cutN
    split
    · have := cutN_le f n; omega
    · exact Nat.le_refl _
theorem cutN_last (f : Nat → Int) : ∀ n, cutN f n = 0 ∨ f (cutN f n - 1) ≠ 0
  | 0 => .inl rfl
  | n + 1 => by
    unfold cutN
    split
    · exact cutN_last f n
    · rename_i h
      exact .inr (by simpa using h)
theorem cutN_zero (f : Nat → Int) : ∀ n m, cutN f n ≤ m → m < n → f m = 0
  | n + 1, m, h1, h2 => by
    unfold cutN at h1
    split at h1
    · rename_i h
      by_cases e : m = n
      · rw [e]; exact h
      · exact cutN_zero f n m h1 (by omega)
    · omega
theorem cutN_eq {f : Nat → Int} {k : Nat} : ∀ {n : Nat}, k ≤ n → (∀ m, k ≤ m → m < n → f m = 0) → (k = 0 ∨ f (k - 1) ≠ 0) → cutN f n = k
  | 0, h, _, _ => by have : k = 0 := by omega
                     rw [this]; rfl
  | n + 1, h, hz, hl => by
    unfold cutN
    by_cases e : k = n + 1
    · subst e
      rw [if_neg]
      rcases hl with h0 | h0
      · omega
      · simpa using h0
    · rw [if_pos (hz n (by omega) (by omega))]
      exact cutN_eq (by omega) (fun m h1 h2 => hz m h1 (by omega)) hl
theorem cutN_congr {f g : Nat → Int} : ∀ {n : Nat}, (∀ m, m < n → f m = g m) → cutN f n = cutN g n
  | 0, _ => rfl
  | n + 1, h => by
    unfold cutN
    rw [h n (Nat.lt_succ_self n), cutN_congr fun m hm => h m (Nat.lt_succ_of_lt hm)]
theorem rwF_take (n k : Nat) (f : Nat → Int) (h : k ≤ n) : (rwF n f).take k = rwF k f := by
  unfold rwF
  rw [← List.map_take, List.take_range, Nat.min_eq_left h]
def φ_p_cut : Φ := fun ds Q => ∃ (n : Nat) (f : Nat → Int), ds = [rowD (rwF n f)] ∧ n ≤ 1000 ∧ Q (.pu (rowD (rwF (cutN f n) f)))
def tr_p_cut : US := (uSeq (uSet 1 (uLen (uVarV 0))) (uSeq (uWhile (uAnd (uTst (uOp (gCmp fun i j => decide (j < i)) (uVar 1) (uC (.int 0)))) (uTst (uOp (gEqB false) (uIx (uVarV 0) (uOp M.gSub (uVar 1) (uC (.int 1)))) (uC (.int 0))))) (uAug 1 (gI2 fun i j Q => Q (.pu (.int (i - j)))) (uC (.int 1)))) (uRet (uSlT (uVar 0) uNoPart (uPart (uVar 1))))))
theorem len_p_cut : ∀ ds Q, φ_p_cut ds Q → ds.length = 1 := by rintro ds Q ⟨n, f, rfl, _⟩; rfl
theorem rd_p_cut : ∀ ds Q, φ_p_cut ds Q → tr_p_cut { nx := fun _ => Q (.pu .non), rt := Q } (init ["r", "s"] ds) := by
  rintro ds Q ⟨n, f, rfl, hn, h⟩
  unfold tr_p_cut
  simp only [rowD]
  show (uSeq _ _ : US) _ [some (.pu (.tup ((rwF n f).map .int))), none]
  rw [uSeq_eq]
  walk_at "u"
  rw [rwF_mlen]
  refine ⟨fun m ρ => ρ = [some (.pu (.tup ((rwF n f).map .int))), some (.pu (.int (m : Int)))] ∧ m ≤ n ∧ cutN f m = cutN f n, ⟨n, rfl, Nat.le_refl _, rfl⟩, ?_⟩
  rintro m ρ ⟨rfl, hm, hc⟩
  walk_at "u"
  have fin : cutN f m = m → Q (.pu (.tup (cutD ((rwF n f).map D.int) none (some (m : Int))))) := fun e => by
    rw [cut_to _ _ (by rw [rwF_mlen]; exact hm), ← List.map_take, rwF_take _ _ _ hm]
    rw [← hc, e] at h
    exact h
  split
  · rename_i h0
    obtain ⟨m', rfl⟩ : ∃ m', m = m' + 1 := ⟨m - 1, by omega⟩
    rw [show ((m' + 1 : Nat) : Int) - 1 = (m' : Int) by omega, rwF_at (show m' < n by omega)]
    dsimp only
    split
    · rename_i h1
      refine ⟨m', by omega, ?_, by omega, ?_⟩
      · simp
      · rw [← hc]
        show _ = if f m' = 0 then cutN f m' else m' + 1
        rw [if_pos h1]
    · rename_i h1
      refine fin ?_
      show (if f m' = 0 then cutN f m' else m' + 1) = m' + 1
      rw [if_neg h1]
  · have : m = 0 := by omega
    subst this
    exact fin rfl
def shF (b : Nat → Int) (n m : Nat) : Int := if n ≤ m then b (m - n) else 0
def divS (b : Nat → Int) (d n : Nat) (f : Nat → Int) : Nat → Int := fun m => f m - f (n + d) * shF b n m
def divL (b : Nat → Int) (d : Nat) : Nat → (Nat → Int) → Nat → Int
  | 0, f => f
  | n + 1, f => divL b d n (divS b d n f)
def divQ (b : Nat → Int) (d : Nat) : Nat → (Nat → Int) → Nat → Int
  | 0, _ => fun _ => 0
  | n + 1, f => fun x => if x = n then f (n + d) else divQ b d n (divS b d n f) x
structure PartOk (L d a e : Nat) (f b : Nat → Int) : Prop where
  L9 : L ≤ 100
  d9 : d ≤ 100
  one : b d = 1
  beyond : ∀ j, d < j → b j = 0
  fb : ∀ m, m < L → (f m).natAbs ≤ 2 ^ a
  bb : ∀ j, (b j).natAbs ≤ 2 ^ e
  room : a + (e + 1) * L < 8000
  e8 : e < 8000
theorem divS_bound {b f : Nat → Int} {d n a e L : Nat} (hn : n + d < L) (hf : ∀ m, m < L → (f m).natAbs ≤ 2 ^ a) (hb : ∀ j, (b j).natAbs ≤ 2 ^ e) : ∀ m, m < L → (divS b d n f m).natAbs ≤ 2 ^ (a + (e + 1)) := by
  intro m hm
  unfold divS
  have h1 := hf m hm
  have h2 := hf (n + d) hn
  have h3 : (shF b n m).natAbs ≤ 2 ^ e := by
    unfold shF
    split
    · exact hb _
    · simp
  have h4 : (f (n + d) * shF b n m).natAbs ≤ 2 ^ a * 2 ^ e := by rw [Int.natAbs_mul]; exact Nat.mul_le_mul h2 h3
  have h5 := Int.natAbs_sub_le (f m) (f (n + d) * shF b n m)
  have e1 : 2 ^ (a + (e + 1)) = 2 ^ a * 2 ^ e + 2 ^ a * 2 ^ e := by rw [← Nat.add_assoc, Nat.pow_succ, Nat.pow_add]; omega
  have h6 : 2 ^ a ≤ 2 ^ a * 2 ^ e := Nat.le_mul_of_pos_right _ (Nat.pow_pos (by decide))
  omega
theorem zeros_rw5 (k : Nat) : (List.replicate k [D.int 0]).flatten = (rwF k fun _ => 0).map .int := by
  rw [rep_flat]
  congr 1
  apply List.ext_getElem <;> simp [rwF]
def φ_p_poly_parted : Φ := fun ds Q => ∃ (L d a e : Nat) (f b : Nat → Int), ds = [rowD (rwF L f), rowD (rwF (d + 1) b)] ∧ PartOk L d a e f b ∧
  Q (.pu (.tup [rowD (rwF (cutN (divQ b d (L - d) f) (L - d)) (divQ b d (L - d) f)), rowD (rwF (cutN (divL b d (L - d) f) L) (divL b d (L - d) f))]))
def tr_p_poly_parted5 : US := (uRet (uTup (uCons (uCall φ_p_cut (uCons (uCall gTupleOf (uCons (uVar 5) uNil)) uNil)) (uCons (uCall φ_p_cut (uCons (uCall gTupleOf (uCons (uVar 4) uNil)) uNil)) uNil))))
def tr_p_poly_parted4 : US := (uSeq (uFor (uRevR (uCons (uVar 3) uNil)) (uName 6) (uSeq (uSet 7 (uIx (uVarV 4) (uOp gAdd (uVar 6) (uVar 2)))) (uSeq (uSetI 5 (uVar 7) (uVar 6)) (uFor (uEnum (uCons (uVar 1) uNil)) (uTupG (uGCons 8 (uGCons 9 uGNil))) (uAugI 4 (fun i j => i - j) (uOp gAdd (uVar 6) (uVar 8)) (uOp gMul (uVar 7) (uVar 9))))))) tr_p_poly_parted5)
def tr_p_poly_parted : US := (uSeq (uSet 2 (uOp M.gSub (uLen (uVarV 1)) (uC (.int 1)))) (uSeq (uSet 3 (uCall gMax (uCons (uC (.int 0)) (uCons (uOp M.gSub (uLen (uVarV 0)) (uVar 2)) uNil)))) (uSeq (uSet 4 (uCall gListOf (uCons (uVar 0) uNil))) (uSeq (uSet 5 (uOp gMul (uLst (uCons (uC (.int 0)) uNil)) (uVar 3))) tr_p_poly_parted4))))
theorem len_p_poly_parted : ∀ ds Q, φ_p_poly_parted ds Q → ds.length = 2 := by rintro ds Q ⟨L, d, a, e, f, b, rfl, _⟩; rfl
theorem rd_p_poly_parted : ∀ ds Q, φ_p_poly_parted ds Q → tr_p_poly_parted { nx := fun _ => Q (.pu .non), rt := Q } (init ["f", "g", "d", "s", "l", "q", "a", "m", "j", "c"] ds) := by
  rintro ds Q ⟨L, d, a, e, f, b, rfl, ok, h⟩
  have L9 := ok.L9
  have d9 := ok.d9
  have room := ok.room
  unfold tr_p_poly_parted
  simp only [rowD] at h ⊢
  show (uSeq _ _ : US) _ [some (.pu (.tup ((rwF L f).map .int))), some (.pu (.tup ((rwF (d + 1) b).map .int))), none, none, none, none, none, none, none, none]
  walk_at "u"
  rw [rwF_mlen, rwF_mlen]
  obtain ⟨N, hN⟩ : ∃ N : Nat, N = L - d := ⟨_, rfl⟩
  have e1 : ((d + 1 : Nat) : Int) - 1 = (d : Int) := by omega
  have e2 : (if (L : Int) - (d : Int) > 0 then (L : Int) - (d : Int) else 0) = (N : Int) := by split <;> omega
  rw [e1, e2, Int.toNat_natCast, zeros_rw5]
  refine ⟨by decide, ⟨by omega, by omega, Nat.le_trans (show 1 * N ≤ 100 by omega) (by decide)⟩, ?_⟩
  unfold tr_p_poly_parted4
  rw [uSeq_eq]
  rw [← hN] at h
  refine uFor_intro N (fun k => .int (((N : Int)) - 1 - k)) [some (.pu (.tup ((rwF L f).map .int))), some (.pu (.tup ((rwF (d + 1) b).map .int))), some (.pu (.int (d : Int))), some (.pu (.int (N : Int))), some (.ow ((rwF L f).map .int)), some (.ow ((rwF N fun _ => 0).map .int)), none, none, none, none] ?_
    (fun k ρ => ∃ g q z6 z7 z8 z9, ρ = [some (.pu (.tup ((rwF L f).map .int))), some (.pu (.tup ((rwF (d + 1) b).map .int))), some (.pu (.int (d : Int))), some (.pu (.int (N : Int))), some (.ow ((rwF L g).map .int)), some (.ow ((rwF N q).map .int)), z6, z7, z8, z9] ∧
      divL b d (N - k) g = divL b d N f ∧ (∀ x, x < N → divQ b d N f x = if x < N - k then divQ b d (N - k) g x else q x) ∧ ∀ m, m < L → (g m).natAbs ≤ 2 ^ (a + (e + 1) * k))
    ⟨f, fun _ => 0, none, none, none, none, rfl, rfl, fun x hx => by rw [Nat.sub_zero, if_pos hx], fun m hm => by simpa using ok.fb m hm⟩ ?_ ?_
  · intro Q' q
    walk_at "u"
    refine ⟨⟨by omega, by omega⟩, ?_⟩
    rw [Int.toNat_natCast]
    exact q
  · rintro k ρ hk ⟨g, q, z6, z7, z8, z9, rfl, hL, hQ, hb⟩
    obtain ⟨i, hi⟩ : ∃ i : Nat, i = N - 1 - k := ⟨_, rfl⟩
    have ei : (N : Int) - 1 - (k : Int) = (i : Int) := by omega
    have hiN : i < N := by omega
    have hid : i + d < L := by omega
    rw [ei]
    have c1 : (i : Int) + (d : Int) = ((i + d : Nat) : Int) := by omega
    walk_at "u"
    rw [c1, rwF_at hid]
    dsimp only
    rw [rwF_mlen, ix_nat hiN]
    dsimp only
    rw [rwF_set hiN]
    refine ⟨by simp, ?_⟩
    have smg : Sm (g (i + d)) := Sm.pow (hb _ hid) (by
      have : (e + 1) * k ≤ (e + 1) * L := Nat.mul_le_mul_left _ (by omega)
      omega)
    refine uFor_intro (d + 1) (fun j => .tup [.int (j : Int), ((rwF (d + 1) b).map D.int).getD j .non]) [some (.pu (.tup ((rwF L f).map .int))), some (.pu (.tup ((rwF (d + 1) b).map .int))), some (.pu (.int (d : Int))), some (.pu (.int (N : Int))), some (.ow ((rwF L g).map .int)), some (.ow ((rwF N fun x => if x = i then g (i + d) else q x).map .int)), some (.pu (.int (i : Int))), some (.pu (.int (g (i + d)))), z8, z9] ?_
      (fun j ρ => ∃ z8 z9, ρ = [some (.pu (.tup ((rwF L f).map .int))), some (.pu (.tup ((rwF (d + 1) b).map .int))), some (.pu (.int (d : Int))), some (.pu (.int (N : Int))), some (.ow ((rwF L fun m => if m < i + j then divS b d i g m else g m).map .int)), some (.ow ((rwF N fun x => if x = i then g (i + d) else q x).map .int)), some (.pu (.int (i : Int))), some (.pu (.int (g (i + d)))), z8, z9]) ⟨z8, z9, ?_⟩ ?_ ?_
    · intro Q' qq
      walk_at "u"
      rw [rwF_mlen]
      exact qq
    · have : (rwF L fun m => if m < i + 0 then divS b d i g m else g m) = rwF L g := by
        apply rwF_congr
        intro m hm
        by_cases c : m < i + 0
        · rw [if_pos c]
          unfold divS shF
          rw [if_neg (by omega)]
          omega
        · rw [if_neg c]
      rw [this]
    · rintro j ρ hj ⟨z8, z9, rfl⟩
      rw [rwF_getD hj]
      have hij : i + j < L := by omega
      have c2 : (i : Int) + (j : Int) = ((i + j : Nat) : Int) := by omega
      simp only [uAugI]
      walk_at "u"
      rw [c2, rwF_mlen]
      refine ⟨by simp, by simp, trivial, _, i + j, g (i + j), rfl, ix_nat hij, by rw [rwF_mget hij, if_neg (by omega)], .inr ⟨smg, Sm.pow (ok.bb j) (by have := ok.e8; omega)⟩, _, rfl, some (.pu (.int (j : Int))), some (.pu (.int (b j))), ?_⟩
      rw [rwF_set hij]
      have : (rwF L fun x => if x = i + j then g (i + j) - g (i + d) * b j else if x < i + j then divS b d i g x else g x) = rwF L fun m => if m < i + (j + 1) then divS b d i g m else g m := by
        apply rwF_congr
        intro m hm
        by_cases c : m = i + j
        · subst c
          rw [if_pos rfl, if_pos (by omega)]
          unfold divS shF
          rw [if_pos (by omega), show i + j - i = j by omega]
        · rw [if_neg c]
          by_cases c3 : m < i + j
          · rw [if_pos c3, if_pos (by omega)]
          · rw [if_neg c3, if_neg (by omega)]
      rw [this]
    · rintro ρ ⟨z8, z9, rfl⟩
      have eg : (rwF L fun m => if m < i + (d + 1) then divS b d i g m else g m) = rwF L (divS b d i g) := by
        apply rwF_congr
        intro m hm
        by_cases c : m < i + (d + 1)
        · rw [if_pos c]
        · rw [if_neg c]
          unfold divS shF
          rw [if_pos (by omega), ok.beyond _ (by omega)]
          omega
      rw [eg]
      have en : N - k = i + 1 := by omega
      have en2 : N - (k + 1) = i := by omega
      rw [en] at hL hQ
      refine ⟨_, _, _, _, _, _, rfl, by rw [en2]; exact hL, fun x hx => ?_, ?_⟩
      · rw [en2, hQ x hx]
        by_cases c : x < i
        · rw [if_pos c, if_pos (by omega)]
          show (if x = i then _ else divQ b d i (divS b d i g) x) = _
          rw [if_neg (by omega)]
        · rw [if_neg c]
          by_cases c2 : x = i
          · subst c2
            rw [if_pos (by omega), if_pos rfl]
            show (if x = x then _ else _) = _
            rw [if_pos rfl]
          · rw [if_neg (by omega), if_neg c2]
      · have := divS_bound hid hb ok.bb
        rw [show a + (e + 1) * (k + 1) = a + (e + 1) * k + (e + 1) by rw [Nat.mul_succ]; omega]
        exact this
  · rintro ρ ⟨g, q, z6, z7, z8, z9, rfl, hL, hQ, hb⟩
    dsimp only
    unfold tr_p_poly_parted5
    rw [Nat.sub_self] at hL hQ
    have hg : g = divL b d N f := hL
    have hq : ∀ x, x < N → divQ b d N f x = q x := fun x hx => by rw [hQ x hx, if_neg (by omega)]
    walk_at "u"
    refine ⟨N, q, rfl, by omega, ?_⟩
    refine ⟨L, g, rfl, by omega, ?_⟩
    walk_at "u"
    refine ⟨by decide, ?_⟩
    have e3 : cutN (divQ b d N f) N = cutN q N := cutN_congr fun m hm => hq m hm
    have e4 : rwF (cutN q N) (divQ b d N f) = rwF (cutN q N) q := rwF_congr fun m hm => hq m (by have := cutN_le q N; omega)
    rw [e3, e4, ← hg] at h
    exact h
end M
end
section
set_option Elab.async false
set_option linter.all false
set_option maxRecDepth 100000
open PySem L2 M
local macro_rules | `(tactic| walk_at "u") => `(tactic| simp only [uRev, gRev, uSlT, gSlT, uSeq, uSet, uRet, uRetN, uRetV, uIfS, uTst, uOp, uC, uVar, slotE, uVarV, slotV, uV, uIx, gIx, uLen, seqOf, uCall, uCons, uNil, uLst, uTup, uApp, ownAt, uNeg, gAdd, M.gSub, gMul, gDiv, gMod, gPow, gI2, gCmp, gEqB, isB, B.d, uAnd, uOr, uNot, uAndV, uOrV, uNotV, uName, uNext, uPar, uAug, uSl, uPart, uNoPart, gSl, gAbs, gMax, gMin, gToInt, gTupleOf, gListOf, gIsi, g1, g2, gInt, uSetI, uIf, gAll, gSum, uDrop, uAsg, uTupG, uGCons, uGNil, uRng1, uRng2, uRngD, uRevR, uZip, uEnum, uSeqI, lend, capEv, frzL, frz1, Option.bind_some, Option.bind_none, Option.map_some, Option.map_none, Option.join,
  List.getElem?_cons_zero, List.getElem?_cons_succ, List.set_cons_zero, List.set_cons_succ, List.length_cons, List.length_nil, decide_eq_true_eq, Bool.false_xor, Bool.true_xor, Bool.not_eq_true', decide_eq_false_iff_not, if_true, if_false, reduceCtorEq])
namespace M
def conv (u b : Nat → Int) : Nat → Nat → Int
  | 0, _ => 0
  | n + 1, m => conv u b n m + u n * shF b n m
theorem conv_high {u b : Nat → Int} {d : Nat} (hb : ∀ j, d < j → b j = 0) : ∀ (n m : Nat), n + d ≤ m → conv u b n m = 0
  | 0, m, _ => rfl
  | n + 1, m, h => by
    show conv u b n m + u n * shF b n m = 0
    rw [conv_high hb n m (by omega)]
    unfold shF
    rw [if_pos (by omega), hb _ (by omega)]
    omega
theorem div_conv {u b low : Nat → Int} {d : Nat} (h1 : b d = 1) (hb : ∀ j, d < j → b j = 0) (hl : ∀ m, d ≤ m → low m = 0) : ∀ (n : Nat), divL b d n (fun m => conv u b n m + low m) = low ∧ ∀ x, x < n → divQ b d n (fun m => conv u b n m + low m) x = u x
  | 0 => ⟨by funext m; show 0 + low m = low m; omega, fun x hx => by omega⟩
  | n + 1 => by
    have top : conv u b (n + 1) (n + d) + low (n + d) = u n := by
      show conv u b n (n + d) + u n * shF b n (n + d) + low (n + d) = u n
      rw [conv_high hb n _ (Nat.le_refl _), hl _ (by omega)]
      unfold shF
      rw [if_pos (by omega), show n + d - n = d by omega, h1]
      omega
    have st : divS b d n (fun m => conv u b (n + 1) m + low m) = fun m => conv u b n m + low m := by
      funext m
      show (conv u b (n + 1) m + low m) - (conv u b (n + 1) (n + d) + low (n + d)) * shF b n m = _
      rw [top]
      show conv u b n m + u n * shF b n m + low m - u n * shF b n m = _
      omega
    obtain ⟨i1, i2⟩ := div_conv (u := u) h1 hb hl n
    refine ⟨?_, fun x hx => ?_⟩
    · show divL b d n (divS b d n _) = low
      rw [st]
      exact i1
    · show (if x = n then _ else divQ b d n (divS b d n _) x) = u x
      rw [st]
      by_cases c : x = n
      · rw [if_pos c, c]; exact top
      · rw [if_neg c]; exact i2 x (by omega)
def φ_is_poly : Φ := fun ds Q => ∃ (n : Nat) (f : Nat → Int), ds = [rowD (rwF n f)] ∧ n ≤ 1000 ∧ (n = 0 ∨ f (n - 1) ≠ 0) ∧ Q (.pu (.bl true))
def tr_is_poly2 : US := (uRet (uOrV (uOp (gEqB false) (uLen (uVarV 0)) (uC (.int 0))) (uOp (gEqB true) (uIx (uVarV 0) (uNeg (uC (.int 1)))) (uC (.int 0)))))
def tr_is_poly1 : US := (uSeq (uIfS (uNot (uTst (uCall gAll (uCons (uComp [] [none, none] 1 (uSeqI (uVar 0)) (uName 0) (fun ρ Q => Q true ρ) (uCall φ_whole (uCons (uVar 0) uNil))) uNil)))) (uRet (uC (.bl false))) uNext) tr_is_poly2)
def tr_is_poly : US := (uSeq (uIfS (uNot (uTst (uCall gIsi (uCons (uVar 0) (uCons (uC (.ty "tuple")) uNil))))) (uRet (uC (.bl false))) uNext) tr_is_poly1)
theorem len_is_poly : ∀ ds Q, φ_is_poly ds Q → ds.length = 1 := by rintro ds Q ⟨n, f, rfl, _⟩; rfl
theorem all_whole (Q : B → Ev → Prop) (z : Option B) (rest : Ev) (r : List Int) (hr : r.length ≤ 1000) (h : Q (.ow ((List.replicate r.length true).map D.bl)) (some (.pu (.tup (r.map .int))) :: rest)) :
    (uComp [] [none, none] 1 (uSeqI (uVar 0)) (uName 0) (fun ρ Q => Q true ρ) (uCall φ_whole (uCons (uVar 0) uNil)) : UE) (some (.pu (.tup (r.map .int))) :: rest) Q := by
  refine uComp_map (t0 := 0) r.length (fun k => (r.map D.int).getD k .non) (some (.pu (.tup (r.map .int))) :: rest) ?_ (by omega) (fun x l => [x, some (.ow l)]) none rfl (fun _ _ _ => rfl) (fun _ _ => Nat.zero_lt_succ _) (fun _ _ _ q => q) (fun _ _ _ => rfl) (fun _ => .bl true) ?_ ?_
  · intro Q' q
    walk_at "u"
    rw [List.length_map]
    exact q
  · intro k l Q' hk q
    obtain ⟨z, hz⟩ := getD_map (ys := r) (i := k) (by rw [List.length_map]; exact hk)
    rw [hz] at q ⊢
    walk_at "u"
    exact ⟨z, rfl, q⟩
  · have e : (List.range r.length).map (fun _ => D.bl true) = (List.replicate r.length true).map D.bl := by apply List.ext_getElem <;> simp
    rw [e]
    exact h
theorem rwF_at_last {n : Nat} {f : Nat → Int} (h : 0 < n) : atI ((rwF n f).map D.int) (-1) = some (.int (f (n - 1))) := by
  unfold L2.atI
  have e : ixN ((rwF n f).map D.int).length (-1) = some (n - 1) := by
    unfold ixN
    rw [rwF_mlen, if_neg (by decide), if_pos (by omega)]
    congr 1
    omega
  rw [e]
  exact rwF_mget (by omega)
theorem rd_is_poly : ∀ ds Q, φ_is_poly ds Q → tr_is_poly { nx := fun _ => Q (.pu .non), rt := Q } (init ["f"] ds) := by
  rintro ds Q ⟨n, f, rfl, hn, hl, h⟩
  unfold tr_is_poly
  simp only [rowD]
  show (uSeq _ _ : US) _ [some (.pu (.tup ((rwF n f).map .int)))]
  rw [uSeq_eq]
  have three : tr_is_poly2 { nx := fun _ => Q (.pu .non), rt := Q } [some (.pu (.tup ((rwF n f).map .int)))] := by
    unfold tr_is_poly2
    walk_at "u"
    rw [rwF_mlen]
    split
    · rename_i h0
      have h0' : n = 0 := by simpa using h0
      simpa [h0'] using h
    · rename_i h0
      have h0' : n ≠ 0 := by simpa using h0
      rw [rwF_at_last (by omega)]
      dsimp only
      rcases hl with h1 | h1
      · omega
      · simpa [h1] using h
  have two : tr_is_poly1 { nx := fun _ => Q (.pu .non), rt := Q } [some (.pu (.tup ((rwF n f).map .int)))] := by
    unfold tr_is_poly1
    rw [uSeq_eq]
    refine (show (uNot (uTst _)) _ _ from ?_)
    show (uCall gAll (uCons _ uNil)) _ _
    rw [uCall_eq, uCons_eq]
    refine all_whole _ none [] (rwF n f) (by rw [rwF_len]; exact hn) ?_
    walk_at "u"
    rw [boolsL_map]
    dsimp only
    have e2 : (List.replicate (rwF n f).length true).all id = true := by simp
    rw [e2]
    simpa using three
  walk_at "u"
  try simp only [Bool.not_true, Bool.false_eq_true, if_false]
  exact two
end M
end
section
set_option Elab.async false
set_option linter.all false
set_option maxRecDepth 100000
open PySem L2 M
local macro_rules | `(tactic| walk_at "u") => `(tactic| simp only [uRev, gRev, uSlT, gSlT, uSeq, uSet, uRet, uRetN, uRetV, uIfS, uTst, uOp, uC, uVar, slotE, uVarV, slotV, uV, uIx, gIx, uLen, seqOf, uCall, uCons, uNil, uLst, uTup, uApp, ownAt, uNeg, gAdd, M.gSub, gMul, gDiv, gMod, gPow, gI2, gCmp, gEqB, isB, B.d, uAnd, uOr, uNot, uAndV, uOrV, uNotV, uName, uNext, uPar, uAug, uSl, uPart, uNoPart, gSl, gAbs, gMax, gMin, gToInt, gTupleOf, gListOf, gIsi, g1, g2, gInt, uSetI, uIf, gAll, gSum, uDrop, uAsg, uTupG, uGCons, uGNil, uRng1, uRng2, uRngD, uRevR, uZip, uEnum, uSeqI, lend, capEv, frzL, frz1, Option.bind_some, Option.bind_none, Option.map_some, Option.map_none, Option.join,
  List.getElem?_cons_zero, List.getElem?_cons_succ, List.set_cons_zero, List.set_cons_succ, List.length_cons, List.length_nil, decide_eq_true_eq, Bool.false_xor, Bool.true_xor, Bool.not_eq_true', decide_eq_false_iff_not, if_true, if_false, reduceCtorEq])
namespace M
def φ_cut : Φ := fun ds Q => ∃ (n : Nat) (f : Nat → Int), ds = [.lst ((rwF n f).map .int)] ∧ n ≤ 1000 ∧ Q (.pu (rowD (rwF (cutN f n) f)))
def tr_cut : US := (uSeq (uSet 1 (uLen (uVarV 0))) (uSeq (uWhile (uAnd (uTst (uOp (gCmp fun i j => decide (j < i)) (uVar 1) (uC (.int 0)))) (uTst (uOp (gEqB false) (uIx (uVarV 0) (uOp M.gSub (uVar 1) (uC (.int 1)))) (uC (.int 0))))) (uSet 1 (uOp M.gSub (uVar 1) (uC (.int 1))))) (uRet (uCall gTupleOf (uCons (uSl (uVarV 0) uNoPart (uPart (uVar 1))) uNil)))))
theorem len_cut : ∀ ds Q, φ_cut ds Q → ds.length = 1 := by rintro ds Q ⟨n, f, rfl, _⟩; rfl
theorem rd_cut : ∀ ds Q, φ_cut ds Q → tr_cut { nx := fun _ => Q (.pu .non), rt := Q } (init ["r", "s"] ds) := by
  rintro ds Q ⟨n, f, rfl, hn, h⟩
  unfold tr_cut
  show (uSeq _ _ : US) _ [some (.pu (.lst ((rwF n f).map .int))), none]
  rw [uSeq_eq]
  walk_at "u"
  rw [rwF_mlen]
  refine ⟨fun m ρ => ρ = [some (.pu (.lst ((rwF n f).map .int))), some (.pu (.int (m : Int)))] ∧ m ≤ n ∧ cutN f m = cutN f n, ⟨n, rfl, Nat.le_refl _, rfl⟩, ?_⟩
  rintro m ρ ⟨rfl, hm, hc⟩
  walk_at "u"
  have fin : cutN f m = m → Q (.pu (.tup (cutD ((rwF n f).map D.int) none (some (m : Int))))) := fun e => by
    rw [cut_to _ _ (by rw [rwF_mlen]; exact hm), ← List.map_take, rwF_take _ _ _ hm]
    rw [← hc, e] at h
    exact h
  split
  · rename_i h0
    obtain ⟨m', rfl⟩ : ∃ m', m = m' + 1 := ⟨m - 1, by omega⟩
    rw [show ((m' + 1 : Nat) : Int) - 1 = (m' : Int) by omega, rwF_at (show m' < n by omega)]
    dsimp only
    split
    · rename_i h1
      refine ⟨m', by omega, rfl, by omega, ?_⟩
      rw [← hc]
      show _ = if f m' = 0 then cutN f m' else m' + 1
      rw [if_pos h1]
    · rename_i h1
      refine fin ?_
      show (if f m' = 0 then cutN f m' else m' + 1) = m' + 1
      rw [if_neg h1]
  · have : m = 0 := by omega
    subst this
    exact fin rfl
end M
end
section
set_option Elab.async false
set_option linter.all false
set_option maxRecDepth 100000
open PySem L2 M
local macro_rules | `(tactic| walk_at "u") => `(tactic| simp only [uRev, gRev, uSlT, gSlT, uChain, uPop, uRevT, gMulT, uSeq, uSet, uRet, uRetN, uRetV, uIfS, uTst, uOp, uC, uVar, slotE, uVarV, slotV, uV, uIx, gIx, uLen, seqOf, uCall, uCons, uNil, uLst, uTup, uApp, ownAt, uNeg, gAdd, M.gSub, gMul, gDiv, gMod, gPow, gI2, gCmp, gEqB, isB, B.d, uAnd, uOr, uNot, uAndV, uOrV, uNotV, uName, uNext, uPar, uAug, uSl, uPart, uNoPart, gSl, gAbs, gMax, gMin, gToInt, gTupleOf, gListOf, gIsi, g1, g2, gInt, uSetI, uIf, gAll, gSum, uDrop, uAsg, uTupG, uGCons, uGNil, uRng1, uRng2, uRngD, uRevR, uZip, uEnum, uSeqI, lend, capEv, frzL, frz1, Option.bind_some, Option.bind_none, Option.map_some, Option.map_none, Option.join,
  List.getElem?_cons_zero, List.getElem?_cons_succ, List.set_cons_zero, List.set_cons_succ, List.length_cons, List.length_nil, decide_eq_true_eq, Bool.false_xor, Bool.true_xor, Bool.not_eq_true', decide_eq_false_iff_not, if_true, if_false, reduceCtorEq])
namespace M
theorem cut_beyond {f : Nat → Int} {n : Nat} (hf : ∀ m, n ≤ m → f m = 0) : ∀ m, cutN f n ≤ m → f m = 0 := fun m hm => by
  by_cases c : m < n
  · exact cutN_zero f n m hm c
  · exact hf m (by omega)
def md (p : Int) (f : Nat → Int) : Nat → Int := fun j => f j % p
def powm (c p : Int) : Nat → Int
  | 0 => 1
  | n + 1 => powm c p n * c % p
theorem powm_range {c p : Int} (hp : 2 ≤ p) : ∀ n, 0 ≤ powm c p n ∧ powm c p n < p
  | 0 => ⟨by show (0 : Int) ≤ 1; omega, by show (1 : Int) < p; omega⟩
  | n + 1 => ⟨Int.emod_nonneg _ (by omega), Int.emod_lt_of_pos _ (by omega)⟩
structure Pr (p : Int) : Prop where
  lo : 2 ≤ p
  hi : p < 200
  inv : ∀ c : Int, 0 < c → c < p → powm c p (p.toNat - 2) * c % p = 1
def Cg (p : Int) (f g : Nat → Int) : Prop := ∀ m, f m % p = g m % p
theorem Cg.divS {p : Int} {b f g : Nat → Int} {d n : Nat} (h : Cg p f g) : Cg p (divS b d n f) (divS b d n g) := fun m => by
  show (f m - f (n + d) * shF b n m) % p = (g m - g (n + d) * shF b n m) % p
  have h1 := h m
  have h2 : f (n + d) * shF b n m % p = g (n + d) * shF b n m % p := by rw [Int.mul_emod, h (n + d), ← Int.mul_emod]
  rw [Int.sub_emod, h1, h2, ← Int.sub_emod]
theorem Cg.divL {p : Int} {b : Nat → Int} {d : Nat} : ∀ (n : Nat) {f g : Nat → Int}, Cg p f g → Cg p (divL b d n f) (divL b d n g)
  | 0, _, _, h => h
  | n + 1, _, _, h => Cg.divL n h.divS
theorem Cg.divQ {p : Int} {b : Nat → Int} {d : Nat} : ∀ (n : Nat) {f g : Nat → Int}, Cg p f g → Cg p (divQ b d n f) (divQ b d n g)
  | 0, _, _, h => fun _ => rfl
  | n + 1, f, g, h => fun x => by
    show (if x = n then f (n + d) else M.divQ b d n (M.divS b d n f) x) % p = (if x = n then g (n + d) else M.divQ b d n (M.divS b d n g) x) % p
    by_cases c : x = n
    · rw [if_pos c, if_pos c]; exact h _
    · rw [if_neg c, if_neg c]; exact Cg.divQ n h.divS x
theorem divQ_beyond {b : Nat → Int} {d : Nat} : ∀ (n : Nat) (f : Nat → Int) (x : Nat), n ≤ x → divQ b d n f x = 0
  | 0, _, _, _ => rfl
  | n + 1, f, x, h => by
    show (if x = n then f (n + d) else divQ b d n (divS b d n f) x) = 0
    rw [if_neg (by omega)]
    exact divQ_beyond n _ x (by omega)
theorem conv_cg {p : Int} {u u' b b' : Nat → Int} (h : ∀ i j, u' i * b' j % p = u i * b j % p) : ∀ n, Cg p (conv u' b' n) (conv u b n)
  | 0, _ => rfl
  | n + 1, m => by
    show (conv u' b' n m + u' n * shF b' n m) % p = (conv u b n m + u n * shF b n m) % p
    have h1 := conv_cg h n m
    have h2 : u' n * shF b' n m % p = u n * shF b n m % p := by
      unfold shF
      by_cases c : n ≤ m
      · rw [if_pos c, if_pos c]; exact h _ _
      · rw [if_neg c, if_neg c, Int.mul_zero, Int.mul_zero]
    rw [Int.add_emod, h1, h2, ← Int.add_emod]
theorem conv_top {u b : Nat → Int} {d U : Nat} (hb : ∀ j, d < j → b j = 0) : conv u b (U + 1) (U + d) = u U * b d := by
  show conv u b U (U + d) + u U * shF b U (U + d) = _
  rw [conv_high hb U _ (Nat.le_refl _)]
  unfold shF
  rw [if_pos (by omega), show U + d - U = d by omega]
  omega
theorem mod_math {p t : Int} {B0 u low A : Nat → Int} {d U n : Nat} (hp : 2 ≤ p) (hB : ∀ j, d < j → B0 j = 0) (hU : U = 0 ∨ u (U - 1) ≠ 0) (uR : ∀ j, 0 ≤ u j ∧ u j < p) (uz : ∀ j, U ≤ j → u j = 0) (lz : ∀ j, d ≤ j → low j = 0) (lR : ∀ j, 0 ≤ low j ∧ low j < p)
    (ht : t * B0 d % p = 1) (hA : ∀ m, A m = (conv u B0 U m + low m) % p) (hn : U + d ≤ n) :
    let b := fun j => t * B0 j % p
    let LA := cutN A n
    LA ≤ U + d ∧ (∀ j, t * divQ b d (LA - d) A j % p = u j) ∧ (∀ j, divL b d (LA - d) A j % p = low j) ∧ (∀ m, LA ≤ m → divL b d (LA - d) A m % p = 0) := by
  intro b LA
  have b1 : b d = 1 := ht
  have bz : ∀ j, d < j → b j = 0 := fun j hj => by
    show t * B0 j % p = 0
    rw [hB j hj, Int.mul_zero, Int.zero_emod]
  have tc : ∀ x : Int, t * (B0 d * x) % p = x % p := fun x => by
    rw [← Int.mul_assoc, Int.mul_emod, ht, Int.one_mul, Int.emod_emod]
  have cg : Cg p A (fun m => conv (fun i => B0 d * u i) b U m + low m) := fun m => by
    rw [hA m, Int.emod_emod]
    have := conv_cg (p := p) (u := u) (b := B0) (u' := fun i => B0 d * u i) (b' := b) (fun i j => by
      show B0 d * u i * (t * B0 j % p) % p = u i * B0 j % p
      rw [Int.mul_emod, Int.emod_emod, ← Int.mul_emod]
      have e : B0 d * u i * (t * B0 j) = t * (B0 d * (u i * B0 j)) := by
        simp only [Int.mul_comm, Int.mul_left_comm, Int.mul_assoc]
      rw [e, tc]) U m
    show (conv u B0 U m + low m) % p = (conv (fun i => B0 d * u i) b U m + low m) % p
    rw [Int.add_emod, ← this, ← Int.add_emod]
  obtain ⟨e1, e2⟩ := div_conv (u := fun i => B0 d * u i) (low := low) b1 bz lz U
  have Az : ∀ m, U + d ≤ m → A m = 0 := fun m hm => by
    rw [hA m, conv_high hB U m hm, lz m (by omega)]
    exact Int.zero_emod _
  have hL : (U = 0 ∧ LA ≤ d) ∨ (0 < U ∧ LA = U + d) := by
    have hle : LA ≤ U + d := by
      rcases cutN_last A n with h | h
      · show cutN A n ≤ U + d
        omega
      · exact Decidable.byContradiction fun q => h (Az _ (by show U + d ≤ LA - 1; omega))
    by_cases c : U = 0
    · exact .inl ⟨c, by omega⟩
    · refine .inr ⟨by omega, ?_⟩
      refine cutN_eq hn (fun m m1 m2 => Az m m1) (.inr fun q => ?_)
      obtain ⟨U', rfl⟩ : ∃ U', U = U' + 1 := ⟨U - 1, by omega⟩
      rw [show U' + 1 + d - 1 = U' + d by omega, hA, conv_top hB, lz _ (by omega), Int.add_zero] at q
      have h1 := tc (u U')
      rw [Int.mul_emod, show B0 d * u U' = u U' * B0 d from Int.mul_comm _ _, q, Int.mul_zero, Int.zero_emod, Int.emod_eq_of_lt (uR _).1 (uR _).2] at h1
      rcases hU with h | h
      · omega
      · exact h (by simpa using h1.symm)
  have hN : LA - d = U := by omega
  have r : ∀ j, divL b d U A j % p = low j := fun j => by
    rw [Cg.divL U cg j, e1, Int.emod_eq_of_lt (lR j).1 (lR j).2]
  refine ⟨by omega, fun j => ?_, fun j => by rw [hN]; exact r j, fun m hm => ?_⟩
  · rw [hN]
    by_cases c : j < U
    · have h1 := Cg.divQ (b := b) (d := d) U cg j
      rw [e2 j c] at h1
      rw [Int.mul_emod, h1, ← Int.mul_emod]
      show t * (B0 d * u j) % p = u j
      rw [tc, Int.emod_eq_of_lt (uR _).1 (uR _).2]
    · rw [divQ_beyond U A j (by omega), uz j (by omega), Int.mul_zero, Int.zero_emod]
  · rw [hN]
    rcases hL with ⟨h1, h2⟩ | ⟨h1, h2⟩
    · subst h1
      show A m % p = 0
      rw [cut_beyond (fun m hm => Az m (by omega)) m hm]
      exact Int.zero_emod _
    · rw [r m]
      exact lz m (by omega)
def φ_p_mod_poly : Φ := fun ds Q => ∃ (n : Nat) (f : Nat → Int) (p : Int), ds = [rowD (rwF n f), .int p] ∧ n ≤ 1000 ∧ 0 < p ∧ Q (.pu (rowD (rwF (cutN (md p f) n) (md p f))))
def tr_p_mod_poly : US := (uRet (uCall φ_p_cut (uCons (uCall gTupleOf (uCons (uComp [1] [none, some 1, none] 2 (uSeqI (uVar 0)) (uName 0) (fun ρ Q => Q true ρ) (uOp gMod (uVar 0) (uVar 1))) uNil)) uNil)))
theorem len_p_mod_poly : ∀ ds Q, φ_p_mod_poly ds Q → ds.length = 2 := by rintro ds Q ⟨n, f, p, rfl, _⟩; rfl
theorem comp_md (Q : B → Ev → Prop) (n : Nat) (f : Nat → Int) (p : Int) (hn : n ≤ 1000) (hp : 0 < p) (k : Nat → D) (rest : Ev) (x0 : D) (hx : x0 = rowD (rwF n f) ∨ x0 = .lst ((rwF n f).map .int)) (h : Q (.ow ((rwF n (md p f)).map .int)) (some (.pu x0) :: some (.pu (.int p)) :: rest)) :
    (uComp [1] [none, some 1, none] 2 (uSeqI (uVar 0)) (uName 0) (fun ρ Q => Q true ρ) (uOp gMod (uVar 0) (uVar 1)) : UE) (some (.pu x0) :: some (.pu (.int p)) :: rest) Q := by
  refine uComp_map (t0 := 0) n (fun k => ((rwF n f).map D.int).getD k .non) (some (.pu x0) :: some (.pu (.int p)) :: rest) ?_ (by omega) (fun x l => [x, some (.pu (.int p)), some (.ow l)]) none rfl (fun _ _ _ => rfl) (fun _ _ => Nat.zero_lt_succ _) (fun _ _ _ q => q) (fun _ _ _ => rfl) (fun k => .int (md p f k)) ?_ ?_
  · intro Q' q
    rcases hx with rfl | rfl
    · simp only [rowD] at q ⊢
      walk_at "u"
      rw [rwF_mlen]
      exact q
    · walk_at "u"
      rw [rwF_mlen]
      exact q
  · intro k l Q' hk q
    rw [rwF_getD hk] at q ⊢
    walk_at "u"
    refine ⟨by omega, ?_⟩
    rw [fmod_pos _ hp]
    exact q
  · rw [map_ints]
    exact h
theorem rd_p_mod_poly : ∀ ds Q, φ_p_mod_poly ds Q → tr_p_mod_poly { nx := fun _ => Q (.pu .non), rt := Q } (init ["r", "p"] ds) := by
  rintro ds Q ⟨n, f, p, rfl, hn, hp, h⟩
  unfold tr_p_mod_poly
  show (uRet _ : US) _ [some (.pu (rowD (rwF n f))), some (.pu (.int p))]
  rw [uRet_eq, uCall_eq, uCons_eq, uCall_eq, uCons_eq]
  refine comp_md _ n f p hn hp (fun _ => .non) [] _ (.inl rfl) ?_
  walk_at "u"
  exact ⟨n, md p f, rfl, hn, h⟩
theorem conv_step0 (u b : Nat → Int) (i N : Nat) : (rwF N fun m => if m < i + 0 then conv u b (i + 1) m else conv u b i m) = rwF N (conv u b i) := by
  apply rwF_congr
  intro m hm
  by_cases c : m < i + 0
  · rw [if_pos c]
    show conv u b i m + u i * shF b i m = _
    unfold shF
    rw [if_neg (by omega)]
    omega
  · rw [if_neg c]
theorem conv_stepV {u b : Nat → Int} {i V N : Nat} (hz : ∀ j, V ≤ j → b j = 0) : (rwF N fun m => if m < i + V then conv u b (i + 1) m else conv u b i m) = rwF N (conv u b (i + 1)) := by
  apply rwF_congr
  intro m hm
  by_cases c : m < i + V
  · rw [if_pos c]
  · rw [if_neg c]
    show _ = conv u b i m + u i * shF b i m
    unfold shF
    rw [if_pos (by omega), hz _ (by omega)]
    omega
theorem conv_stepJ (u b : Nat → Int) (i j N : Nat) : (rwF N fun x => if x = i + j then conv u b i (i + j) + u i * b j else if x < i + j then conv u b (i + 1) x else conv u b i x) = rwF N fun m => if m < i + (j + 1) then conv u b (i + 1) m else conv u b i m := by
  apply rwF_congr
  intro m hm
  by_cases c : m = i + j
  · subst c
    rw [if_pos rfl, if_pos (by omega)]
    show _ = conv u b i (i + j) + u i * shF b i (i + j)
    unfold shF
    rw [if_pos (by omega), show i + j - i = j by omega]
  · rw [if_neg c]
    by_cases c3 : m < i + j
    · rw [if_pos c3, if_pos (by omega)]
    · rw [if_neg c3, if_neg (by omega)]
theorem conv_cut {u b : Nat → Int} {U : Nat} : ∀ n, (∀ j, U ≤ j → j < n → u j = 0) → U ≤ n → ∀ m, conv u b n m = conv u b U m
  | 0, h, h2, m => by rw [show U = 0 by omega]
  | n + 1, h, h2, m => by
    by_cases c : U = n + 1
    · rw [c]
    · show conv u b n m + u n * shF b n m = _
      rw [h n (by omega) (by omega), conv_cut n (fun j a c => h j a (by omega)) (by omega) m]
      omega
theorem md_nat {p : Int} (h1 : 2 ≤ p) (h2 : p < 200) (f : Nat → Int) (j : Nat) : (md p f j).natAbs ≤ 2 ^ 8 := by
  unfold md
  have a1 := Int.emod_nonneg (f j) (show p ≠ 0 by omega)
  have a2 := Int.emod_lt_of_pos (f j) (show 0 < p by omega)
  show _ ≤ 256
  omega
def φ_p_scaled : Φ := fun ds Q => ∃ (n : Nat) (f : Nat → Int) (k p : Int), ds = [rowD (rwF n f), .int k, .int p] ∧ n ≤ 1000 ∧ 0 ≤ k ∧ k < 200 ∧ 0 < p ∧ Q (.pu (rowD (rwF (cutN (fun j => k * f j % p) n) (fun j => k * f j % p))))
def tr_p_scaled : US := (uRet (uCall φ_p_mod_poly (uCons (uCall gTupleOf (uCons (uComp [1] [none, some 1, none] 2 (uSeqI (uVar 0)) (uName 0) (fun ρ Q => Q true ρ) (uOp gMul (uVar 1) (uVar 0))) uNil)) (uCons (uVar 2) uNil))))
theorem len_p_scaled : ∀ ds Q, φ_p_scaled ds Q → ds.length = 3 := by rintro ds Q ⟨n, f, k, p, rfl, _⟩; rfl
theorem rd_p_scaled : ∀ ds Q, φ_p_scaled ds Q → tr_p_scaled { nx := fun _ => Q (.pu .non), rt := Q } (init ["f", "k", "p"] ds) := by
  rintro ds Q ⟨n, f, k, p, rfl, hn, k0, k9, hp, h⟩
  unfold tr_p_scaled
  show (uRet _ : US) _ [some (.pu (rowD (rwF n f))), some (.pu (.int k)), some (.pu (.int p))]
  rw [uRet_eq, uCall_eq, uCons_eq, uCall_eq, uCons_eq]
  refine uComp_map (t0 := 0) n (fun i => ((rwF n f).map D.int).getD i .non) [some (.pu (rowD (rwF n f))), some (.pu (.int k)), some (.pu (.int p))] ?_ (by omega) (fun x l => [x, some (.pu (.int k)), some (.ow l)]) none rfl (fun _ _ _ => rfl) (fun _ _ => Nat.zero_lt_succ _) (fun _ _ _ q => q) (fun _ _ _ => rfl) (fun i => .int (k * f i)) ?_ ?_
  · intro Q' q
    simp only [rowD] at q ⊢
    walk_at "u"
    rw [rwF_mlen]
    exact q
  · intro i l Q' hk q
    rw [rwF_getD hk] at q ⊢
    walk_at "u"
    exact ⟨cmL (by omega) (by omega), q⟩
  · rw [map_ints]
    walk_at "u"
    exact ⟨n, fun i => k * f i, p, rfl, hn, hp, h⟩
def φ_p_inverse_of : Φ := fun ds Q => ∃ c p : Int, ds = [.int c, .int p] ∧ 0 ≤ c ∧ c < p ∧ 2 ≤ p ∧ p < 200 ∧ Q (.pu (.int (powm c p (p.toNat - 2))))
def tr_p_inverse_of : US := (uSeq (uSet 2 (uC (.int 1))) (uSeq (uFor (uRng1 (uCons (uOp M.gSub (uVar 1) (uC (.int 2))) uNil)) (uName 3) (uSet 2 (uOp gMod (uOp gMul (uVar 2) (uVar 0)) (uVar 1)))) (uRetV 2)))
theorem len_p_inverse_of : ∀ ds Q, φ_p_inverse_of ds Q → ds.length = 2 := by rintro ds Q ⟨c, p, rfl, _⟩; rfl
theorem rd_p_inverse_of : ∀ ds Q, φ_p_inverse_of ds Q → tr_p_inverse_of { nx := fun _ => Q (.pu .non), rt := Q } (init ["c", "p", "v", "s"] ds) := by
  rintro ds Q ⟨c, p, rfl, c0, c1, p2, p9, h⟩
  unfold tr_p_inverse_of
  show (uSeq _ _ : US) _ [some (.pu (.int c)), some (.pu (.int p)), none, none]
  walk_at "u"
  refine uFor_intro (p.toNat - 2) (fun k => .int (0 + k)) [some (.pu (.int c)), some (.pu (.int p)), some (.pu (.int 1)), none] ?_
    (fun k ρ => ∃ z, ρ = [some (.pu (.int c)), some (.pu (.int p)), some (.pu (.int (powm c p k))), z]) ⟨none, rfl⟩ ?_ ?_
  · intro Q' q
    walk_at "u"
    refine ⟨⟨by omega, by omega⟩, ?_⟩
    rw [show (p - 2).toNat = p.toNat - 2 by omega]
    exact q
  · rintro k ρ hk ⟨z, rfl⟩
    have := powm_range (c := c) p2 k
    walk_at "u"
    refine ⟨by simp, cmL (by omega) (by omega), by omega, some (.pu (.int (0 + (k : Int)))), ?_⟩
    rw [fmod_pos _ (by omega)]
    rfl
  · rintro ρ ⟨z, rfl⟩
    walk_at "u"
    exact h
def φ_p_mod_parted : Φ := fun ds Q => ∃ (n k d : Nat) (f g : Nat → Int) (p : Int), ds = [rowD (rwF n f), rowD (rwF k g), .int p] ∧ n ≤ 50 ∧ k ≤ 50 ∧ Pr p ∧ (∀ j, k ≤ j → g j = 0) ∧ d < k ∧ (∀ j, d < j → md p g j = 0) ∧ md p g d ≠ 0 ∧
  ∀ t, t * md p g d % p = 1 → 0 ≤ t → t < p →
    let b := fun j => t * md p g j % p
    let LA := cutN (md p f) n
    let q := divQ b d (LA - d) (md p f)
    let r := divL b d (LA - d) (md p f)
    Q (.pu (.tup [rowD (rwF (cutN (fun j => t * q j % p) (cutN q (LA - d))) fun j => t * q j % p), rowD (rwF (cutN (md p r) (cutN r LA)) (md p r))]))
def tr_p_mod_parted3 : US := (uRet (uTup (uCons (uCall φ_p_scaled (uCons (uVar 5) (uCons (uVar 4) (uCons (uVar 2) uNil)))) (uCons (uCall φ_p_mod_poly (uCons (uVar 6) (uCons (uVar 2) uNil))) uNil))))
def tr_p_mod_parted2 : US := (uSeq (uAsg (uCall φ_p_poly_parted (uCons (uCall φ_p_mod_poly (uCons (uVar 0) (uCons (uVar 2) uNil))) (uCons (uCall φ_p_scaled (uCons (uVar 3) (uCons (uVar 4) (uCons (uVar 2) uNil)))) uNil))) (uTupG (uGCons 5 (uGCons 6 uGNil)))) tr_p_mod_parted3)
def tr_p_mod_parted : US := (uSeq (uSet 3 (uCall φ_p_mod_poly (uCons (uVar 1) (uCons (uVar 2) uNil)))) (uSeq (uSet 4 (uCall φ_p_inverse_of (uCons (uIx (uVarV 3) (uNeg (uC (.int 1)))) (uCons (uVar 2) uNil)))) tr_p_mod_parted2))
theorem len_p_mod_parted : ∀ ds Q, φ_p_mod_parted ds Q → ds.length = 3 := by rintro ds Q ⟨n, k, d, f, g, p, rfl, _⟩; rfl
theorem rd_p_mod_parted : ∀ ds Q, φ_p_mod_parted ds Q → tr_p_mod_parted { nx := fun _ => Q (.pu .non), rt := Q } (init ["a", "b", "p", "l", "t", "q", "r"] ds) := by
  rintro ds Q ⟨n, k, d, f, g, p, rfl, hn, hk, pp, gz, dk, dz, d0, h⟩
  have p2 := pp.lo
  have p9 := pp.hi
  unfold tr_p_mod_parted
  show (uSeq _ _ : US) _ [some (.pu (rowD (rwF n f))), some (.pu (rowD (rwF k g))), some (.pu (.int p)), none, none, none, none]
  have ed : cutN (md p g) k = d + 1 := cutN_eq (by omega) (fun m m1 m2 => dz m (by omega)) (.inr (by simpa using d0))
  have c1 := Int.emod_nonneg (g d) (show p ≠ 0 by omega)
  have c2 := Int.emod_lt_of_pos (g d) (show 0 < p by omega)
  have c3 : 0 < md p g d := by
    have : md p g d = g d % p := rfl
    omega
  have tR := powm_range (c := md p g d) p2 (p.toNat - 2)
  have ht := pp.inv _ c3 c2
  generalize et : powm (md p g d) p (p.toNat - 2) = t at tR ht
  have bA : ∀ j, 0 ≤ t * md p g j % p ∧ t * md p g j % p < p := fun j => ⟨Int.emod_nonneg _ (by omega), Int.emod_lt_of_pos _ (by omega)⟩
  have hc : cutN (fun j => t * md p g j % p) (d + 1) = d + 1 := cutN_eq (Nat.le_refl _) (fun m a b => by omega) (.inr (by
    show t * md p g d % p ≠ 0
    rw [ht]; decide))
  have LA9 := cutN_le (md p f) n
  have low : rowD (rwF (cutN (md p g) k) (md p g)) = .tup ((rwF (d + 1) (md p g)).map .int) := by rw [ed]; rfl
  walk_at "u"
  refine ⟨k, g, p, rfl, by omega, by omega, ?_⟩
  rw [low]
  walk_at "u"
  rw [rwF_at_last (by omega)]
  walk_at "u"
  refine ⟨md p g d, p, rfl, by omega, c2, p2, p9, ?_⟩
  rw [et]
  show tr_p_mod_parted2 _ [some (.pu (rowD (rwF n f))), some (.pu (rowD (rwF k g))), some (.pu (.int p)), some (.pu (rowD (rwF (d + 1) (md p g)))), some (.pu (.int t)), none, none]
  unfold tr_p_mod_parted2
  walk_at "u"
  refine ⟨n, f, p, rfl, by omega, by omega, ?_⟩
  refine ⟨d + 1, md p g, t, p, rfl, by omega, by omega, by omega, by omega, ?_⟩
  rw [hc]
  refine ⟨cutN (md p f) n, d, 8, 8, md p f, fun j => t * md p g j % p, rfl, ⟨by omega, by omega, ht, fun j hj => by
    show t * md p g j % p = 0
    rw [dz j hj, Int.mul_zero, Int.zero_emod], fun m _ => md_nat p2 p9 f m, fun j => by
      have := bA j
      show (t * md p g j % p).natAbs ≤ 256
      omega, by omega, by decide⟩, ?_⟩
  have hh := h t ht tR.1 tR.2
  have q9 := cutN_le (divQ (fun j => t * md p g j % p) d (cutN (md p f) n - d) (md p f)) (cutN (md p f) n - d)
  have r9 := cutN_le (divL (fun j => t * md p g j % p) d (cutN (md p f) n - d) (md p f)) (cutN (md p f) n)
  simp only [] at hh
  walk_at "u"
  refine ⟨by simp, by simp, trivial, ?_⟩
  unfold tr_p_mod_parted3
  walk_at "u"
  refine ⟨_, _, t, p, rfl, by omega, by omega, by omega, by omega, ?_⟩
  refine ⟨_, _, p, rfl, by omega, by omega, ?_⟩
  walk_at "u"
  exact ⟨by decide, hh⟩
end M
end
section
set_option Elab.async false
set_option linter.all false
set_option maxRecDepth 100000
open PySem L2 M
local macro_rules | `(tactic| walk_at "u") => `(tactic| simp only [uRev, gRev, uSlT, gSlT, uChain, uPop, uRevT, gMulT, uSeq, uSet, uRet, uRetN, uRetV, uIfS, uTst, uOp, uC, uVar, slotE, uVarV, slotV, uV, uIx, gIx, uLen, seqOf, uCall, uCons, uNil, uLst, uTup, uApp, ownAt, uNeg, gAdd, M.gSub, gMul, gDiv, gMod, gPow, gI2, gCmp, gEqB, isB, B.d, uAnd, uOr, uNot, uAndV, uOrV, uNotV, uName, uNext, uPar, uAug, uSl, uPart, uNoPart, gSl, gAbs, gMax, gMin, gToInt, gTupleOf, gListOf, gIsi, g1, g2, gInt, uSetI, uIf, gAll, gSum, uDrop, uAsg, uTupG, uGCons, uGNil, uRng1, uRng2, uRngD, uRevR, uZip, uEnum, uSeqI, lend, capEv, frzL, frz1, Option.bind_some, Option.bind_none, Option.map_some, Option.map_none, Option.join,
  List.getElem?_cons_zero, List.getElem?_cons_succ, List.set_cons_zero, List.set_cons_succ, List.length_cons, List.length_nil, decide_eq_true_eq, Bool.false_xor, Bool.true_xor, Bool.not_eq_true', decide_eq_false_iff_not, if_true, if_false, reduceCtorEq])
namespace M
theorem uComp_filter {js : List Nat} {cap : List (Option Nat)} {last t0 : Nat} {ui : UI} {tt : UT} {te : UE} {ρ : Ev} {Q : B → Ev → Prop} (n : Nat) (it : Nat → D) (ρ1 : Ev) (hui : ∀ Q : Nat → (Nat → D) → Ev → Prop, Q n it ρ1 → ui ρ Q) (hn : n ≤ 1000)
    (G : Option B → List D → Ev) (x0 : Option B) (h0 : capEv (frzL ρ1 js) cap last = G x0 []) (h1 : ∀ x l b, (G x l).set t0 (some b) = G (some b) l) (h1' : ∀ x l, t0 < (G x l).length) (h2 : ∀ x l (Q : List D → Prop), Q l → ownAt (G x l) last Q) (h3 : ∀ x l l', (G x l).set last (some (.ow l')) = G x l')
    (c : Nat → Bool) (f : Nat → D) (htt : ∀ i l (Q' : Bool → Ev → Prop), i < n → Q' (c i) (G (some (.pu (it i))) l) → tt (G (some (.pu (it i))) l) Q')
    (hte : ∀ i l (Q' : B → Ev → Prop), i < n → Q' (.pu (f i)) (G (some (.pu (it i))) l) → te (G (some (.pu (it i))) l) Q') (hq : Q (.ow (((List.range n).filter c).map f)) (frzL ρ1 js)) :
    uComp js cap last ui (uName t0) tt te ρ Q := by
  refine hui _ ⟨fun i ρ' => ∃ x, ρ' = G x (((List.range i).filter c).map f), ⟨x0, h0⟩, ?_, ?_⟩
  · rintro i ρ' hi ⟨x, rfl⟩
    refine ⟨h1' _ _, ?_⟩
    rw [h1]
    dsimp only
    refine htt i _ _ hi ?_
    by_cases hc : c i = true
    · rw [if_pos hc]
      refine hte i _ _ hi (h2 _ _ _ ⟨?_, some (.pu (it i)), ?_⟩)
      · rw [List.length_map]
        exact Nat.lt_of_le_of_lt (List.length_filter_le ..) (by rw [List.length_range]; exact Nat.lt_of_lt_of_le hi (Nat.le_trans hn (by decide)))
      · rw [h3, List.range_succ, List.filter_append, List.map_append]
        simp [hc]
        rfl
    · rw [if_neg hc]
      refine ⟨some (.pu (it i)), ?_⟩
      rw [List.range_succ, List.filter_append, List.map_append]
      simp [hc]
  · rintro ρ' ⟨x, rfl⟩
    exact h2 _ _ _ hq
theorem atI_in {ns : List Int} {k : Int} (h0 : 0 ≤ k) (h1 : k < ns.length) : ∃ z ∈ ns, atI (ns.map D.int) k = some (.int z) := by
  obtain ⟨i, rfl⟩ : ∃ i : Nat, k = (i : Int) := ⟨k.toNat, by omega⟩
  have hi : i < ns.length := by omega
  exact ⟨ns[i], List.getElem_mem hi, atI_nat (by rw [List.getElem?_map, List.getElem?_eq_getElem hi]; rfl)⟩
def prB (i k : Nat) : Bool := if (2 : Int) + (i : Int) = 2 + (k : Int) then true else !decide (((2 : Int) + (i : Int)) % (2 + (k : Int)) = 0)
def prC (i : Nat) : Bool := ((List.range 13).map (prB i)).all id
def prL : List Int := ((List.range 198).filter prC).map fun i : Nat => (2 : Int) + (i : Int)
theorem powm_nat {c p : Nat} (hp : 2 ≤ p) : ∀ n, powm (c : Int) (p : Int) n = ((c ^ n % p : Nat) : Int)
  | 0 => by
    show (1 : Int) = _
    rw [Nat.pow_zero, Nat.mod_eq_of_lt (by omega)]
    rfl
  | n + 1 => by
    show powm (c : Int) (p : Int) n * (c : Int) % (p : Int) = _
    rw [powm_nat hp n, ← Int.natCast_mul, ← Int.natCast_emod, Nat.pow_succ, Nat.mod_mul_mod]
theorem pr_all : prL.all (fun p => decide (2 ≤ p) && decide (p < 200) && (List.range p.toNat).all fun c => decide (c = 0) || decide (c ^ (p.toNat - 2) % p.toNat * c % p.toNat = 1)) = true := by decide +kernel
theorem pr_len : prL.length = 46 := by decide +kernel
theorem prL_ok {p : Int} (h : p ∈ prL) : Pr p := by
  have h1 := List.all_eq_true.mp pr_all p h
  simp only [Bool.and_eq_true, decide_eq_true_eq, List.all_eq_true, List.mem_range, Bool.or_eq_true] at h1
  obtain ⟨⟨a, b⟩, c⟩ := h1
  refine ⟨a, b, fun x x0 x1 => ?_⟩
  obtain ⟨q, rfl⟩ : ∃ q : Nat, p = (q : Int) := ⟨p.toNat, by omega⟩
  obtain ⟨y, rfl⟩ : ∃ y : Nat, x = (y : Int) := ⟨x.toNat, by omega⟩
  have h2 := c y (by omega)
  rw [Int.toNat_natCast] at h2 ⊢
  rw [powm_nat (by omega), ← Int.natCast_mul, ← Int.natCast_emod]
  rcases h2 with h2 | h2
  · omega
  · rw [h2]; rfl
def φ_primes : Φ := fun ds Q => ds = [] ∧ Q (.ow (prL.map .int))
def tr_primes : US := (uRet (uComp [] [none, none] 1 (uRng2 (uCons (uC (.int 2)) (uCons (uC (.int 200)) uNil))) (uName 0) (uTst (uCall gAll (uCons (uComp [0] [none, some 0, none] 2 (uRng2 (uCons (uC (.int 2)) (uCons (uC (.int 15)) uNil))) (uName 0) (fun ρ Q => Q true ρ) (uOrV (uOp (gEqB false) (uVar 1) (uVar 0)) (uOp (gEqB true) (uOp gMod (uVar 1) (uVar 0)) (uC (.int 0))))) uNil))) (uVar 0)))
theorem len_primes : ∀ ds Q, φ_primes ds Q → ds.length = 0 := by rintro ds Q ⟨rfl, _⟩; rfl
theorem rd_primes : ∀ ds Q, φ_primes ds Q → tr_primes { nx := fun _ => Q (.pu .non), rt := Q } (init [] ds) := by
  rintro ds Q ⟨rfl, h⟩
  unfold tr_primes
  show (uRet _ : US) _ []
  rw [uRet_eq]
  refine uComp_filter (t0 := 0) 198 (fun k => .int (2 + (k : Int))) [] ?_ (by decide) (fun x l => [x, some (.ow l)]) none rfl (fun _ _ _ => rfl) (fun _ _ => Nat.zero_lt_succ _) (fun _ _ _ q => q) (fun _ _ _ => rfl) prC (fun i => .int (2 + (i : Int))) ?_ ?_ ?_
  · intro Q' q
    walk_at "u"
    exact ⟨by decide, q⟩
  · intro i l Q' hi q
    show (uCall gAll (uCons _ uNil)) _ _
    rw [uCall_eq, uCons_eq]
    refine uComp_map (t0 := 0) 13 (fun k => .int (2 + (k : Int))) [some (.pu (.int (2 + (i : Int)))), some (.ow l)] ?_ (by decide) (fun x l' => [x, some (.pu (.int (2 + (i : Int)))), some (.ow l')]) none rfl (fun _ _ _ => rfl) (fun _ _ => Nat.zero_lt_succ _) (fun _ _ _ q => q) (fun _ _ _ => rfl) (fun k => .bl (prB i k)) ?_ ?_
    · intro Q'' q'
      walk_at "u"
      exact ⟨by decide, q'⟩
    · intro k l' Q'' hk q'
      walk_at "u"
      unfold prB at q'
      by_cases c : (2 : Int) + (i : Int) = 2 + (k : Int)
      · rw [if_pos c] at q' ⊢
        exact q'
      · rw [if_neg c] at q' ⊢
        refine ⟨by omega, ?_⟩
        rw [fmod_pos _ (by omega)]
        exact q'
    · have e : (List.range 13).map (fun k => D.bl (prB i k)) = ((List.range 13).map (prB i)).map D.bl := by rw [List.map_map]; rfl
      rw [e]
      walk_at "u"
      rw [boolsL_map]
      exact q
  · intro i l Q' hi q
    walk_at "u"
    exact q
  · have e : ((List.range 198).filter prC).map (fun i : Nat => D.int (2 + (i : Int))) = prL.map .int := by unfold prL; rw [List.map_map]; rfl
    rw [e]
    exact h
def φ_prime : Φ := fun ds Q => ∃ c q : Int, ds = [.int c, .int q] ∧ 0 < q ∧ ∀ p ∈ prL, Q (.pu (.int p))
def tr_prime1 : US := (uSeq (uIfS (uTst (uOp (gEqB false) (uIx (uVarV 2) (uC (.int 0))) (uC (.int 0)))) (uRet (uIx (uV (uCall φ_primes uNil)) (uOp gMod (uIx (uVarV 2) (uC (.int 1))) (uC (.int 6))))) uNext) (uRet (uIx (uV (uCall φ_primes uNil)) (uIx (uVarV 2) (uC (.int 1))))))
def tr_prime : US := (uSeq (uSet 2 (uCall φ_draws (uCons (uVar 0) (uCons (uLst (uCons (uC (.int 2)) (uCons (uC (.int 46)) uNil))) (uCons (uVar 1) uNil))))) tr_prime1)
theorem len_prime : ∀ ds Q, φ_prime ds Q → ds.length = 2 := by rintro ds Q ⟨c, q, rfl, _⟩; rfl
theorem rd_prime : ∀ ds Q, φ_prime ds Q → tr_prime { nx := fun _ => Q (.pu .non), rt := Q } (init ["c", "p", "f"] ds) := by
  rintro ds Q ⟨c, q, rfl, hq, h⟩
  unfold tr_prime
  show (uSeq _ _ : US) _ [some (.pu (.int c)), some (.pu (.int q)), none]
  rw [uSeq_eq]
  walk_at "u"
  refine ⟨by decide, c, [2, 46], q, rfl, by decide, hq, by decide, fun xs hx => ?_⟩
  obtain ⟨a, b, rfl⟩ : ∃ a b, xs = [a, b] := by
    match xs, hx.1 with
    | [a, b], _ => exact ⟨a, b, rfl⟩
  have b1 := hx.2 1 b 46 rfl rfl
  have a0 : atI [D.int a, .int b] 0 = some (.int a) := atI_nat (j := 0) rfl
  have a1 : atI [D.int a, .int b] 1 = some (.int b) := atI_nat (j := 1) rfl
  show tr_prime1 _ [some (.pu (.int c)), some (.pu (.int q)), some (.ow [.int a, .int b])]
  unfold tr_prime1
  walk_at "u"
  rw [a0]
  dsimp only
  split
  · refine ⟨rfl, ?_⟩
    walk_at "u"
    rw [a1]
    dsimp only
    rw [fmod_pos _ (by decide)]
    have c1 := Int.emod_nonneg b (show (6 : Int) ≠ 0 by decide)
    have c2 := Int.emod_lt_of_pos b (show (0 : Int) < 6 by decide)
    obtain ⟨z, hz, e⟩ := atI_in (ns := prL) c1 (by rw [pr_len]; omega)
    rw [e]
    exact ⟨by decide, h z hz⟩
  · refine ⟨rfl, ?_⟩
    walk_at "u"
    rw [a1]
    dsimp only
    obtain ⟨z, hz, e⟩ := atI_in (ns := prL) b1.1 (by rw [pr_len]; omega)
    rw [e]
    exact h z hz
def φ_mod_places : Φ := fun ds Q => ∃ (c : Int) (m : Nat) (p q : Int), ds = [.int c, .int (m : Int), .int p, .int q] ∧ m ≤ 100 ∧ 0 < p ∧ p < 18446744073709551616 ∧ 0 < q ∧ ∀ f : Nat → Int, (∀ j, 0 ≤ f j ∧ f j < p) → (∀ j, m ≤ j → f j = 0) → Q (.ow ((rwF m f).map .int))
def tr_mod_places : US := (uRet (uCall φ_draws (uCons (uVar 0) (uCons (uOp gMul (uLst (uCons (uVar 2) uNil)) (uVar 1)) (uCons (uVar 3) uNil)))))
theorem len_mod_places : ∀ ds Q, φ_mod_places ds Q → ds.length = 4 := by rintro ds Q ⟨c, m, p, q, rfl, _⟩; rfl
theorem rd_mod_places : ∀ ds Q, φ_mod_places ds Q → tr_mod_places { nx := fun _ => Q (.pu .non), rt := Q } (init ["c", "m", "p", "q"] ds) := by
  rintro ds Q ⟨c, m, p, q, rfl, hm, hp, hp2, hq, h⟩
  unfold tr_mod_places
  show (uRet _ : US) _ [some (.pu (.int c)), some (.pu (.int (m : Int))), some (.pu (.int p)), some (.pu (.int q))]
  walk_at "u"
  rw [Int.toNat_natCast, rep_flat]
  refine ⟨by decide, ⟨by omega, by omega, Nat.le_trans (show 1 * m ≤ 100 by omega) (by decide)⟩, c, List.replicate m p, q, rfl, by rw [List.length_replicate]; omega, hq, fun w hw => ?_, fun xs hx => ?_⟩
  · rw [List.eq_of_mem_replicate hw]; exact ⟨hp, hp2⟩
  · have el : xs.length = m := by have := hx.1; rwa [List.length_replicate] at this
    have e := rwF_of xs
    rw [el] at e
    rw [e]
    refine h (fun j => xs.getD j 0) (fun j => ?_) (fun j hj => ?_)
    · by_cases c : j < m
      · have h1 : xs[j]? = some xs[j] := List.getElem?_eq_getElem (by omega)
        have := hx.2 j xs[j] p h1 (by rw [List.getElem?_replicate, if_pos c])
        show 0 ≤ xs.getD j 0 ∧ xs.getD j 0 < p
        rw [List.getD_eq_getElem?_getD, h1]
        exact this
      · show 0 ≤ xs.getD j 0 ∧ xs.getD j 0 < p
        rw [List.getD_eq_getElem?_getD, List.getElem?_eq_none (by omega)]
        exact ⟨by decide, hp⟩
    · show xs.getD j 0 = 0
      rw [List.getD_eq_getElem?_getD, List.getElem?_eq_none (by omega)]
      rfl
theorem rwF_md (N : Nat) (p : Int) (f : Nat → Int) : rwF N (md p f) = (rwF N f).map fun x => x % p := by
  unfold rwF
  rw [List.map_map]
  rfl
theorem conv_step0m (p : Int) (u b : Nat → Int) (i N : Nat) : rwF N (md p fun m => if m < i + 0 then conv u b (i + 1) m else conv u b i m) = rwF N (md p (conv u b i)) := by rw [rwF_md, conv_step0, ← rwF_md]
theorem conv_stepVm (p : Int) {u b : Nat → Int} {i V N : Nat} (hz : ∀ j, V ≤ j → b j = 0) : rwF N (md p fun m => if m < i + V then conv u b (i + 1) m else conv u b i m) = rwF N (md p (conv u b (i + 1))) := by rw [rwF_md, conv_stepV hz, ← rwF_md]
theorem conv_stepJm (p : Int) (u b : Nat → Int) (i j N : Nat) : rwF N (md p fun x => if x = i + j then conv u b i (i + j) + u i * b j else if x < i + j then conv u b (i + 1) x else conv u b i x) = rwF N (md p fun m => if m < i + (j + 1) then conv u b (i + 1) m else conv u b i m) := by rw [rwF_md, conv_stepJ, ← rwF_md]
def φ_mod_times : Φ := fun ds Q => ∃ (U V : Nat) (u b : Nat → Int) (p : Int) (x : D), ds = [rowD (rwF U u), x, .int p] ∧ (x = rowD (rwF V b) ∨ x = .lst ((rwF V b).map .int)) ∧ U ≤ 100 ∧ V ≤ 100 ∧ 0 < p ∧ p < 200 ∧ (∀ j, V ≤ j → b j = 0) ∧ (∀ j, 0 ≤ u j ∧ u j < p) ∧ (∀ j, 0 ≤ b j ∧ b j < p) ∧ Q (.pu (rowD (rwF (cutN (md p (conv u b U)) (U + V)) (md p (conv u b U)))))
def tr_mod_times2 : US := (uRet (uCall φ_cut (uCons (uVar 3) uNil)))
def tr_mod_times : US := (uSeq (uSet 3 (uOp gMul (uLst (uCons (uC (.int 0)) uNil)) (uOp gAdd (uLen (uVarV 0)) (uLen (uVarV 1))))) (uSeq (uFor (uRng1 (uCons (uLen (uVarV 0)) uNil)) (uName 4) (uFor (uRng1 (uCons (uLen (uVarV 1)) uNil)) (uName 5) (uSetI 3 (uOp gMod (uOp gAdd (uIx (uVarV 3) (uOp gAdd (uVar 4) (uVar 5))) (uOp gMul (uIx (uVarV 0) (uVar 4)) (uIx (uVarV 1) (uVar 5)))) (uVar 2)) (uOp gAdd (uVar 4) (uVar 5))))) tr_mod_times2))
theorem len_mod_times : ∀ ds Q, φ_mod_times ds Q → ds.length = 3 := by rintro ds Q ⟨U, d, u, b, p, x, rfl, _⟩; rfl
theorem rd_mtT (Q : B → Prop) (U V : Nat) (u b : Nat → Int) (p : Int) (U9 : U ≤ 100) (V9 : V ≤ 100) (p0 : 0 < p) (p9 : p < 200) (hz : ∀ j, V ≤ j → b j = 0) (hu : ∀ j, 0 ≤ u j ∧ u j < p) (hb : ∀ j, 0 ≤ b j ∧ b j < p) (h : Q (.pu (rowD (rwF (cutN (md p (conv u b U)) (U + V)) (md p (conv u b U)))))) :
    tr_mod_times { nx := fun _ => Q (.pu .non), rt := Q } [some (.pu (rowD (rwF U u))), some (.pu (.tup ((rwF V b).map .int))), some (.pu (.int p)), none, none, none] := by
  unfold tr_mod_times
  simp only [rowD] at h ⊢
  show (uSeq _ _ : US) _ [some (.pu (.tup ((rwF U u).map .int))), some (.pu (.tup ((rwF V b).map .int))), some (.pu (.int p)), none, none, none]
  walk_at "u"
  rw [rwF_mlen, rwF_mlen, show (U : Int) + (V : Int) = ((U + V : Nat) : Int) by omega, Int.toNat_natCast, zeros_rw5]
  refine ⟨by decide, ⟨by omega, by omega, Nat.le_trans (show 1 * (U + V) ≤ 300 by omega) (by decide)⟩, ?_⟩
  refine uFor_intro U (fun i => .int (0 + i)) [some (.pu (.tup ((rwF U u).map .int))), some (.pu (.tup ((rwF V b).map .int))), some (.pu (.int p)), some (.ow ((rwF (U + V) fun _ => 0).map .int)), none, none] ?_
    (fun i ρ => ∃ x y, ρ = [some (.pu (.tup ((rwF U u).map .int))), some (.pu (.tup ((rwF V b).map .int))), some (.pu (.int p)), some (.ow ((rwF (U + V) (md p (conv u b i))).map .int)), x, y]) ⟨none, none, ?_⟩ ?_ ?_
  · intro Q' q
    walk_at "u"
    rw [rwF_mlen]
    refine ⟨⟨by omega, by omega⟩, ?_⟩
    rw [Int.toNat_natCast]
    exact q
  · have : (rwF (U + V) fun _ => 0) = rwF (U + V) (md p (conv u b 0)) := rwF_congr fun m _ => by show (0 : Int) = 0 % p; rw [Int.zero_emod]
    rw [this]
  · rintro i ρ hi ⟨x, y, rfl⟩
    rw [Int.zero_add]
    refine ⟨by simp, ?_⟩
    show (uFor _ _ _ : US) _ [some (.pu (.tup ((rwF U u).map .int))), some (.pu (.tup ((rwF V b).map .int))), some (.pu (.int p)), some (.ow ((rwF (U + V) (md p (conv u b i))).map .int)), some (.pu (.int (i : Int))), y]
    refine uFor_intro V (fun j => .int (0 + j)) [some (.pu (.tup ((rwF U u).map .int))), some (.pu (.tup ((rwF V b).map .int))), some (.pu (.int p)), some (.ow ((rwF (U + V) (md p (conv u b i))).map .int)), some (.pu (.int (i : Int))), y] ?_
      (fun j ρ => ∃ y, ρ = [some (.pu (.tup ((rwF U u).map .int))), some (.pu (.tup ((rwF V b).map .int))), some (.pu (.int p)), some (.ow ((rwF (U + V) (md p fun m => if m < i + j then conv u b (i + 1) m else conv u b i m)).map .int)), some (.pu (.int (i : Int))), y]) ⟨y, by rw [conv_step0m]⟩ ?_ ?_
    · intro Q' q
      walk_at "u"
      rw [rwF_mlen]
      refine ⟨⟨by omega, by omega⟩, ?_⟩
      rw [Int.toNat_natCast]
      exact q
    · rintro j ρ hj ⟨y, rfl⟩
      rw [Int.zero_add]
      have hij : i + j < U + V := by omega
      have c2 : (i : Int) + (j : Int) = ((i + j : Nat) : Int) := by omega
      have u1 := hu i
      have b1 := hb j
      walk_at "u"
      rw [c2, rwF_at hij, rwF_at hi, rwF_at hj]
      dsimp only
      rw [rwF_mlen, ix_nat hij]
      refine ⟨by simp, cmL (by omega) (by omega), by omega, some (.pu (.int (j : Int))), ?_⟩
      rw [fmod_pos _ p0]
      have e1 : (md p (fun m => if m < i + j then conv u b (i + 1) m else conv u b i m) (i + j) + u i * b j) % p = (conv u b i (i + j) + u i * b j) % p := by
        show ((if i + j < i + j then conv u b (i + 1) (i + j) else conv u b i (i + j)) % p + u i * b j) % p = _
        rw [if_neg (by omega), Int.emod_add_emod]
      rw [e1, rwF_set hij]
      have e2 : (rwF (U + V) fun x => if x = i + j then (conv u b i (i + j) + u i * b j) % p else md p (fun m => if m < i + j then conv u b (i + 1) m else conv u b i m) x) = rwF (U + V) (md p fun x => if x = i + j then conv u b i (i + j) + u i * b j else if x < i + j then conv u b (i + 1) x else conv u b i x) := rwF_congr fun m _ => by
        unfold md
        dsimp only
        by_cases c : m = i + j
        · rw [if_pos c, if_pos c]
        · rw [if_neg c, if_neg c]
      rw [e2, conv_stepJm]
    · rintro ρ ⟨y, rfl⟩
      rw [conv_stepVm p hz]
      exact ⟨_, _, rfl⟩
  · rintro ρ ⟨x, y, rfl⟩
    dsimp only
    unfold tr_mod_times2
    walk_at "u"
    exact ⟨U + V, md p (conv u b U), rfl, by omega, h⟩
theorem rd_mtL (Q : B → Prop) (U V : Nat) (u b : Nat → Int) (p : Int) (U9 : U ≤ 100) (V9 : V ≤ 100) (p0 : 0 < p) (p9 : p < 200) (hz : ∀ j, V ≤ j → b j = 0) (hu : ∀ j, 0 ≤ u j ∧ u j < p) (hb : ∀ j, 0 ≤ b j ∧ b j < p) (h : Q (.pu (rowD (rwF (cutN (md p (conv u b U)) (U + V)) (md p (conv u b U)))))) :
    tr_mod_times { nx := fun _ => Q (.pu .non), rt := Q } [some (.pu (rowD (rwF U u))), some (.pu (.lst ((rwF V b).map .int))), some (.pu (.int p)), none, none, none] := by
  unfold tr_mod_times
  simp only [rowD] at h ⊢
  show (uSeq _ _ : US) _ [some (.pu (.tup ((rwF U u).map .int))), some (.pu (.lst ((rwF V b).map .int))), some (.pu (.int p)), none, none, none]
  walk_at "u"
  rw [rwF_mlen, rwF_mlen, show (U : Int) + (V : Int) = ((U + V : Nat) : Int) by omega, Int.toNat_natCast, zeros_rw5]
  refine ⟨by decide, ⟨by omega, by omega, Nat.le_trans (show 1 * (U + V) ≤ 300 by omega) (by decide)⟩, ?_⟩
  refine uFor_intro U (fun i => .int (0 + i)) [some (.pu (.tup ((rwF U u).map .int))), some (.pu (.lst ((rwF V b).map .int))), some (.pu (.int p)), some (.ow ((rwF (U + V) fun _ => 0).map .int)), none, none] ?_
    (fun i ρ => ∃ x y, ρ = [some (.pu (.tup ((rwF U u).map .int))), some (.pu (.lst ((rwF V b).map .int))), some (.pu (.int p)), some (.ow ((rwF (U + V) (md p (conv u b i))).map .int)), x, y]) ⟨none, none, ?_⟩ ?_ ?_
  · intro Q' q
    walk_at "u"
    rw [rwF_mlen]
    refine ⟨⟨by omega, by omega⟩, ?_⟩
    rw [Int.toNat_natCast]
    exact q
  · have : (rwF (U + V) fun _ => 0) = rwF (U + V) (md p (conv u b 0)) := rwF_congr fun m _ => by show (0 : Int) = 0 % p; rw [Int.zero_emod]
    rw [this]
  · rintro i ρ hi ⟨x, y, rfl⟩
    rw [Int.zero_add]
    refine ⟨by simp, ?_⟩
    show (uFor _ _ _ : US) _ [some (.pu (.tup ((rwF U u).map .int))), some (.pu (.lst ((rwF V b).map .int))), some (.pu (.int p)), some (.ow ((rwF (U + V) (md p (conv u b i))).map .int)), some (.pu (.int (i : Int))), y]
    refine uFor_intro V (fun j => .int (0 + j)) [some (.pu (.tup ((rwF U u).map .int))), some (.pu (.lst ((rwF V b).map .int))), some (.pu (.int p)), some (.ow ((rwF (U + V) (md p (conv u b i))).map .int)), some (.pu (.int (i : Int))), y] ?_
      (fun j ρ => ∃ y, ρ = [some (.pu (.tup ((rwF U u).map .int))), some (.pu (.lst ((rwF V b).map .int))), some (.pu (.int p)), some (.ow ((rwF (U + V) (md p fun m => if m < i + j then conv u b (i + 1) m else conv u b i m)).map .int)), some (.pu (.int (i : Int))), y]) ⟨y, by rw [conv_step0m]⟩ ?_ ?_
    · intro Q' q
      walk_at "u"
      rw [rwF_mlen]
      refine ⟨⟨by omega, by omega⟩, ?_⟩
      rw [Int.toNat_natCast]
      exact q
    · rintro j ρ hj ⟨y, rfl⟩
      rw [Int.zero_add]
      have hij : i + j < U + V := by omega
      have c2 : (i : Int) + (j : Int) = ((i + j : Nat) : Int) := by omega
      have u1 := hu i
      have b1 := hb j
      walk_at "u"
      rw [c2, rwF_at hij, rwF_at hi, rwF_at hj]
      dsimp only
      rw [rwF_mlen, ix_nat hij]
      refine ⟨by simp, cmL (by omega) (by omega), by omega, some (.pu (.int (j : Int))), ?_⟩
      rw [fmod_pos _ p0]
      have e1 : (md p (fun m => if m < i + j then conv u b (i + 1) m else conv u b i m) (i + j) + u i * b j) % p = (conv u b i (i + j) + u i * b j) % p := by
        show ((if i + j < i + j then conv u b (i + 1) (i + j) else conv u b i (i + j)) % p + u i * b j) % p = _
        rw [if_neg (by omega), Int.emod_add_emod]
      rw [e1, rwF_set hij]
      have e2 : (rwF (U + V) fun x => if x = i + j then (conv u b i (i + j) + u i * b j) % p else md p (fun m => if m < i + j then conv u b (i + 1) m else conv u b i m) x) = rwF (U + V) (md p fun x => if x = i + j then conv u b i (i + j) + u i * b j else if x < i + j then conv u b (i + 1) x else conv u b i x) := rwF_congr fun m _ => by
        unfold md
        dsimp only
        by_cases c : m = i + j
        · rw [if_pos c, if_pos c]
        · rw [if_neg c, if_neg c]
      rw [e2, conv_stepJm]
    · rintro ρ ⟨y, rfl⟩
      rw [conv_stepVm p hz]
      exact ⟨_, _, rfl⟩
  · rintro ρ ⟨x, y, rfl⟩
    dsimp only
    unfold tr_mod_times2
    walk_at "u"
    exact ⟨U + V, md p (conv u b U), rfl, by omega, h⟩
theorem rd_mod_times : ∀ ds Q, φ_mod_times ds Q → tr_mod_times { nx := fun _ => Q (.pu .non), rt := Q } (init ["f", "g", "p", "r", "i", "j"] ds) := by
  rintro ds Q ⟨U, V, u, b, p, X, rfl, hx, U9, V9, p0, p9, hz, hu, hb, h⟩
  rcases hx with rfl | rfl
  · exact rd_mtT Q U V u b p U9 V9 p0 p9 hz hu hb h
  · exact rd_mtL Q U V u b p U9 V9 p0 p9 hz hu hb h
def φ_is_mod : Φ := fun ds Q => ∃ (n : Nat) (f : Nat → Int) (p : Int), ds = [rowD (rwF n f), .int p] ∧ n ≤ 1000 ∧ (n = 0 ∨ f (n - 1) ≠ 0) ∧ (∀ j, 0 ≤ f j ∧ f j < p) ∧ Q (.pu (.bl true))
def tr_is_mod : US := (uRet (uAndV (uCall φ_is_poly (uCons (uVar 0) uNil)) (uCall gAll (uCons (uComp [1] [none, some 1, none] 2 (uSeqI (uVar 0)) (uName 0) (fun ρ Q => Q true ρ) (uChain (gCmp fun i j => decide (i ≤ j)) (gCmp fun i j => decide (i < j)) (uC (.int 0)) (uVar 0) (uVar 1))) uNil))))
theorem len_is_mod : ∀ ds Q, φ_is_mod ds Q → ds.length = 2 := by rintro ds Q ⟨n, f, p, rfl, _⟩; rfl
theorem rd_is_mod : ∀ ds Q, φ_is_mod ds Q → tr_is_mod { nx := fun _ => Q (.pu .non), rt := Q } (init ["f", "p"] ds) := by
  rintro ds Q ⟨n, f, p, rfl, hn, hl, hr, h⟩
  unfold tr_is_mod
  show (uRet _ : US) _ [some (.pu (rowD (rwF n f))), some (.pu (.int p))]
  rw [uRet_eq]
  refine ⟨n, f, rfl, hn, hl, ?_⟩
  simp only [isB, if_true]
  rw [uCall_eq, uCons_eq]
  refine uComp_map (t0 := 0) n (fun k => ((rwF n f).map D.int).getD k .non) [some (.pu (rowD (rwF n f))), some (.pu (.int p))] ?_ (by omega) (fun x l => [x, some (.pu (.int p)), some (.ow l)]) none rfl (fun _ _ _ => rfl) (fun _ _ => Nat.zero_lt_succ _) (fun _ _ _ q => q) (fun _ _ _ => rfl) (fun _ => .bl true) ?_ ?_
  · intro Q' q
    simp only [rowD] at q ⊢
    walk_at "u"
    rw [rwF_mlen]
    exact q
  · intro k l Q' hk q
    rw [rwF_getD hk] at q ⊢
    walk_at "u"
    rw [if_pos (hr k).1]
    have := (hr k).2
    simpa [this] using q
  · have e : (List.range n).map (fun _ => D.bl true) = (List.replicate n true).map D.bl := by apply List.ext_getElem <;> simp
    rw [e]
    walk_at "u"
    rw [boolsL_map]
    have e2 : (List.replicate n true).all id = true := by simp
    dsimp only
    rw [e2]
    exact h
def φ_written : Φ := fun ds Q => ∃ (n : Nat) (f : Nat → Int) (p c q : Int) (x : D), ds = [x, .int p, .int c, .int q] ∧ (x = rowD (rwF n f) ∨ x = .lst ((rwF n f).map .int)) ∧ n ≤ 100 ∧ 0 < p ∧ p < 200 ∧ 0 < q ∧ ∀ g : Nat → Int, (∀ j, g j % p = f j % p) → Q (.ow ((rwF n g).map .int))
def tr_written2 : US := (uRet (uComp [1, 5] [none, none, some 1, some 5, none] 4 (uZip (uCons (uVar 0) (uCons (uSl (uVarV 4) (uPart (uC (.int 1))) uNoPart) uNil))) (uTupG (uGCons 0 (uGCons 1 uGNil))) (fun ρ Q => Q true ρ) (uOp gAdd (uVar 0) (uOp gMul (uOp gMul (uVar 2) (uVar 3)) (uOp M.gSub (uVar 1) (uOp gMul (uC (.int 5)) (uOp gPow (uC (.int 10)) (uC (.int 7)))))))))
def tr_written1 : US := (uSeq (uSet 5 (uIx (uV (uLst (uCons (uC (.int 0)) (uCons (uC (.int 1)) (uCons (uOp gPow (uC (.int 10)) (uC (.int 20))) (uCons (uOp gMul (uOp gPow (uC (.int 10)) (uC (.int 44))) (uOp gPow (uC (.int 10)) (uC (.int 44)))) uNil)))))) (uIx (uVarV 4) (uC (.int 0))))) tr_written2)
def tr_written : US := (uSeq (uSet 4 (uCall φ_draws (uCons (uVar 2) (uCons (uOp gAdd (uLst (uCons (uC (.int 4)) uNil)) (uOp gMul (uLst (uCons (uOp gPow (uC (.int 10)) (uC (.int 8))) uNil)) (uLen (uVarV 0)))) (uCons (uVar 3) uNil))))) tr_written1)
theorem len_written : ∀ ds Q, φ_written ds Q → ds.length = 4 := by rintro ds Q ⟨n, f, p, c, q, x, rfl, _⟩; rfl
theorem rd_wrT (Q : B → Prop) (n : Nat) (f : Nat → Int) (p c q : Int) (hn : n ≤ 100) (p0 : 0 < p) (p9 : p < 200) (hq : 0 < q) (h : ∀ g : Nat → Int, (∀ j, g j % p = f j % p) → Q (.ow ((rwF n g).map .int))) :
    tr_written { nx := fun _ => Q (.pu .non), rt := Q } [some (.pu (.tup ((rwF n f).map .int))), some (.pu (.int p)), some (.pu (.int c)), some (.pu (.int q)), none, none] := by
  unfold tr_written
  show (uSeq _ _ : US) _ [some (.pu (.tup ((rwF n f).map .int))), some (.pu (.int p)), some (.pu (.int c)), some (.pu (.int q)), none, none]
  rw [uSeq_eq]
  walk_at "u"
  rw [rwF_mlen, Int.toNat_natCast, rep_flat]
  have el : [D.int 4] ++ (List.replicate n ((10 : Int) ^ (8 : Int).toNat)).map D.int = (4 :: List.replicate n ((10 : Int) ^ (8 : Int).toNat)).map D.int := rfl
  have far : ∀ xs : List Int, xs.length = n + 1 → (∀ x ∈ xs, 0 ≤ x ∧ x < 100000000) → (xs.getD 0 0 < 4) → tr_written1 { nx := fun _ => Q (.pu .non), rt := Q } [some (.pu (.tup ((rwF n f).map .int))), some (.pu (.int p)), some (.pu (.int c)), some (.pu (.int q)), some (.ow (xs.map .int)), none] := by
    intro xs hl hx h4
    unfold tr_written1
    rw [uSeq_eq]
    have x0 : 0 ≤ xs.getD 0 0 := by
      match xs, hl with
      | x :: xs, _ => exact (hx x (by simp)).1
    obtain ⟨a, -, ea⟩ := atI_in (ns := [0, 1, (10 : Int) ^ (20 : Int).toNat, (10 : Int) ^ (44 : Int).toNat * (10 : Int) ^ (44 : Int).toNat]) x0 (by simp only [List.length_cons, List.length_nil]; omega)
    simp only [List.map_cons, List.map_nil] at ea
    walk_at "u"
    rw [atI_row0 (by omega)]
    dsimp only
    rw [ea]
    refine ⟨cp10' (by decide) (by decide), cp10' (by decide) (by decide), cp10' (by decide) (by decide), .inr ⟨Sm.pow (k := 150) (by decide) (by decide), Sm.pow (k := 150) (by decide) (by decide)⟩, by decide, ?_⟩
    dsimp only
    unfold tr_written2
    rw [uRet_eq]
    have ec : cutD (xs.map D.int) (some 1) none = (xs.drop 1).map D.int := by rw [show (1 : Int) = ((1 : Nat) : Int) from rfl, cut_from _ _ (by rw [List.length_map]; omega), List.map_drop]
    refine uComp_map2 (t0 := 0) (t1 := 1) n (fun k => ((rwF n f).map D.int).getD k .non) (fun k => ((xs.drop 1).map D.int).getD k .non) [some (.pu (.tup ((rwF n f).map .int))), some (.pu (.int p)), some (.pu (.int c)), some (.pu (.int q)), some (.ow (xs.map .int)), some (.pu (.int a))] ?_ (by omega)
      (fun x y l => [x, y, some (.pu (.int p)), some (.pu (.int a)), some (.ow l)]) none none rfl (fun _ _ _ _ _ => rfl) (fun _ _ _ => ⟨by simp, by simp⟩) (fun _ _ _ _ q => q) (fun _ _ _ _ => rfl) (fun k => .int (f k + p * a * ((xs.drop 1).getD k 0 - 5 * 10 ^ (7 : Int).toNat))) ?_ ?_
    · intro Q' qq
      walk_at "u"
      rw [ec, rwF_mlen, List.length_map, List.length_drop, show min n (xs.length - 1) = n by omega]
      exact qq
    · intro k l Q' hk qq
      have hk2 : k < (xs.drop 1).length := by rw [List.length_drop]; omega
      have e2 : ((xs.drop 1).map D.int).getD k .non = .int ((xs.drop 1).getD k 0) := by
        rw [List.getD_eq_getElem?_getD, List.getElem?_map, List.getElem?_eq_getElem hk2, List.getD_eq_getElem?_getD, List.getElem?_eq_getElem hk2]
        rfl
      have e3 : (xs.drop 1).getD k 0 ∈ xs := by
        rw [List.getD_eq_getElem?_getD, List.getElem?_eq_getElem hk2]
        exact List.mem_of_mem_drop (List.getElem_mem hk2)
      have e4 := hx _ e3
      rw [rwF_getD hk, e2] at qq ⊢
      generalize (xs.drop 1).getD k 0 = y at e4 qq ⊢
      walk_at "u"
      refine ⟨cmL (by omega) (by omega), cp10' (by decide) (by decide), cmL (by decide) (by decide), cmR ?_ ?_, qq⟩
      · show _ < y - 5 * 10 ^ (7 : Nat)
        omega
      · show y - 5 * 10 ^ (7 : Nat) < _
        omega
    · rw [map_ints]
      refine h _ fun j => ?_
      show (f j + p * a * ((xs.drop 1).getD j 0 - 5 * 10 ^ (7 : Int).toNat)) % p = f j % p
      rw [Int.mul_assoc, Int.add_mul_emod_self_left]
  refine ⟨by decide, cp10' (by decide) (by decide), by decide, ⟨by omega, by omega, Nat.le_trans (show 1 * n ≤ 100 by omega) (by decide)⟩, ?_, ?_⟩
  · rw [List.length_map, List.length_replicate]
    exact Nat.le_trans (show _ ≤ 200 by omega) (by decide)
  · refine ⟨c, 4 :: List.replicate n ((10 : Int) ^ (8 : Int).toNat), q, rfl, by simp; omega, hq, fun w hw => ?_, fun xs hx => ?_⟩
    · rcases List.mem_cons.mp hw with rfl | hw
      · decide
      · rw [List.eq_of_mem_replicate hw]; decide
    · have hl : xs.length = n + 1 := by have := hx.1; simpa using this
      refine far xs hl (fun x hxm => ?_) ?_
      · obtain ⟨i, hi, rfl⟩ := List.getElem_of_mem hxm
        cases i with
        | zero => have := hx.2 0 _ 4 (List.getElem?_eq_getElem hi) rfl; omega
        | succ i =>
          have := hx.2 (i + 1) _ ((10 : Int) ^ (8 : Int).toNat) (List.getElem?_eq_getElem hi) (by rw [List.getElem?_cons_succ, List.getElem?_replicate, if_pos (by omega)])
          have e : ((10 : Int) ^ (8 : Int).toNat) = 100000000 := by decide
          omega
      · match xs, hl with
        | x :: xs, _ => exact (hx.2 0 x 4 rfl rfl).2
theorem rd_wrL (Q : B → Prop) (n : Nat) (f : Nat → Int) (p c q : Int) (hn : n ≤ 100) (p0 : 0 < p) (p9 : p < 200) (hq : 0 < q) (h : ∀ g : Nat → Int, (∀ j, g j % p = f j % p) → Q (.ow ((rwF n g).map .int))) :
    tr_written { nx := fun _ => Q (.pu .non), rt := Q } [some (.pu (.lst ((rwF n f).map .int))), some (.pu (.int p)), some (.pu (.int c)), some (.pu (.int q)), none, none] := by
  unfold tr_written
  show (uSeq _ _ : US) _ [some (.pu (.lst ((rwF n f).map .int))), some (.pu (.int p)), some (.pu (.int c)), some (.pu (.int q)), none, none]
  rw [uSeq_eq]
  walk_at "u"
  rw [rwF_mlen, Int.toNat_natCast, rep_flat]
  have el : [D.int 4] ++ (List.replicate n ((10 : Int) ^ (8 : Int).toNat)).map D.int = (4 :: List.replicate n ((10 : Int) ^ (8 : Int).toNat)).map D.int := rfl
  have far : ∀ xs : List Int, xs.length = n + 1 → (∀ x ∈ xs, 0 ≤ x ∧ x < 100000000) → (xs.getD 0 0 < 4) → tr_written1 { nx := fun _ => Q (.pu .non), rt := Q } [some (.pu (.lst ((rwF n f).map .int))), some (.pu (.int p)), some (.pu (.int c)), some (.pu (.int q)), some (.ow (xs.map .int)), none] := by
    intro xs hl hx h4
    unfold tr_written1
    rw [uSeq_eq]
    have x0 : 0 ≤ xs.getD 0 0 := by
      match xs, hl with
      | x :: xs, _ => exact (hx x (by simp)).1
    obtain ⟨a, -, ea⟩ := atI_in (ns := [0, 1, (10 : Int) ^ (20 : Int).toNat, (10 : Int) ^ (44 : Int).toNat * (10 : Int) ^ (44 : Int).toNat]) x0 (by simp only [List.length_cons, List.length_nil]; omega)
    simp only [List.map_cons, List.map_nil] at ea
    walk_at "u"
    rw [atI_row0 (by omega)]
    dsimp only
    rw [ea]
    refine ⟨cp10' (by decide) (by decide), cp10' (by decide) (by decide), cp10' (by decide) (by decide), .inr ⟨Sm.pow (k := 150) (by decide) (by decide), Sm.pow (k := 150) (by decide) (by decide)⟩, by decide, ?_⟩
    dsimp only
    unfold tr_written2
    rw [uRet_eq]
    have ec : cutD (xs.map D.int) (some 1) none = (xs.drop 1).map D.int := by rw [show (1 : Int) = ((1 : Nat) : Int) from rfl, cut_from _ _ (by rw [List.length_map]; omega), List.map_drop]
    refine uComp_map2 (t0 := 0) (t1 := 1) n (fun k => ((rwF n f).map D.int).getD k .non) (fun k => ((xs.drop 1).map D.int).getD k .non) [some (.pu (.lst ((rwF n f).map .int))), some (.pu (.int p)), some (.pu (.int c)), some (.pu (.int q)), some (.ow (xs.map .int)), some (.pu (.int a))] ?_ (by omega)
      (fun x y l => [x, y, some (.pu (.int p)), some (.pu (.int a)), some (.ow l)]) none none rfl (fun _ _ _ _ _ => rfl) (fun _ _ _ => ⟨by simp, by simp⟩) (fun _ _ _ _ q => q) (fun _ _ _ _ => rfl) (fun k => .int (f k + p * a * ((xs.drop 1).getD k 0 - 5 * 10 ^ (7 : Int).toNat))) ?_ ?_
    · intro Q' qq
      walk_at "u"
      rw [ec, rwF_mlen, List.length_map, List.length_drop, show min n (xs.length - 1) = n by omega]
      exact qq
    · intro k l Q' hk qq
      have hk2 : k < (xs.drop 1).length := by rw [List.length_drop]; omega
      have e2 : ((xs.drop 1).map D.int).getD k .non = .int ((xs.drop 1).getD k 0) := by
        rw [List.getD_eq_getElem?_getD, List.getElem?_map, List.getElem?_eq_getElem hk2, List.getD_eq_getElem?_getD, List.getElem?_eq_getElem hk2]
        rfl
      have e3 : (xs.drop 1).getD k 0 ∈ xs := by
        rw [List.getD_eq_getElem?_getD, List.getElem?_eq_getElem hk2]
        exact List.mem_of_mem_drop (List.getElem_mem hk2)
      have e4 := hx _ e3
      rw [rwF_getD hk, e2] at qq ⊢
      generalize (xs.drop 1).getD k 0 = y at e4 qq ⊢
      walk_at "u"
      refine ⟨cmL (by omega) (by omega), cp10' (by decide) (by decide), cmL (by decide) (by decide), cmR ?_ ?_, qq⟩
      · show _ < y - 5 * 10 ^ (7 : Nat)
        omega
      · show y - 5 * 10 ^ (7 : Nat) < _
        omega
    · rw [map_ints]
      refine h _ fun j => ?_
      show (f j + p * a * ((xs.drop 1).getD j 0 - 5 * 10 ^ (7 : Int).toNat)) % p = f j % p
      rw [Int.mul_assoc, Int.add_mul_emod_self_left]
  refine ⟨by decide, cp10' (by decide) (by decide), by decide, ⟨by omega, by omega, Nat.le_trans (show 1 * n ≤ 100 by omega) (by decide)⟩, ?_, ?_⟩
  · rw [List.length_map, List.length_replicate]
    exact Nat.le_trans (show _ ≤ 200 by omega) (by decide)
  · refine ⟨c, 4 :: List.replicate n ((10 : Int) ^ (8 : Int).toNat), q, rfl, by simp; omega, hq, fun w hw => ?_, fun xs hx => ?_⟩
    · rcases List.mem_cons.mp hw with rfl | hw
      · decide
      · rw [List.eq_of_mem_replicate hw]; decide
    · have hl : xs.length = n + 1 := by have := hx.1; simpa using this
      refine far xs hl (fun x hxm => ?_) ?_
      · obtain ⟨i, hi, rfl⟩ := List.getElem_of_mem hxm
        cases i with
        | zero => have := hx.2 0 _ 4 (List.getElem?_eq_getElem hi) rfl; omega
        | succ i =>
          have := hx.2 (i + 1) _ ((10 : Int) ^ (8 : Int).toNat) (List.getElem?_eq_getElem hi) (by rw [List.getElem?_cons_succ, List.getElem?_replicate, if_pos (by omega)])
          have e : ((10 : Int) ^ (8 : Int).toNat) = 100000000 := by decide
          omega
      · match xs, hl with
        | x :: xs, _ => exact (hx.2 0 x 4 rfl rfl).2
theorem rd_written : ∀ ds Q, φ_written ds Q → tr_written { nx := fun _ => Q (.pu .non), rt := Q } (init ["r", "p", "c", "q", "f", "a"] ds) := by
  rintro ds Q ⟨n, f, p, c, q, X, rfl, hx, hn, p0, p9, hq, h⟩
  rcases hx with rfl | rfl
  · exact rd_wrT Q n f p c q hn p0 p9 hq h
  · exact rd_wrL Q n f p c q hn p0 p9 hq h
theorem rwF_snoc (n : Nat) (f : Nat → Int) (v : Int) : (rwF n f).map D.int ++ [D.int v] = (rwF (n + 1) fun j => if j = n then v else f j).map D.int := by
  have e : rwF (n + 1) (fun j => if j = n then v else f j) = rwF n f ++ [v] := by
    unfold rwF
    rw [List.range_succ, List.map_append]
    congr 1
    · apply List.map_congr_left
      intro i hi
      have := List.mem_range.mp hi
      show (if i = n then v else f i) = f i
      rw [if_neg (by omega)]
    · simp
  rw [e, List.map_append]
  rfl
end M
end
section
set_option Elab.async false
set_option linter.all false
set_option maxRecDepth 100000
open PySem L2 M
local macro_rules | `(tactic| walk_at "u") => `(tactic| simp only [uRev, gRev, uSlT, gSlT, uChain, uPop, uRevT, gMulT, gAny, uIsN, D.isN, gMaxL, uLook, uLookE, uAppZ, gSort2, uSeq, uSet, uRet, uRetN, uRetV, uIfS, uTst, uOp, uC, uVar, slotE, uVarV, slotV, uV, uIx, gIx, uLen, seqOf, uCall, uCons, uNil, uLst, uTup, uApp, ownAt, uNeg, gAdd, M.gSub, gMul, gDiv, gMod, gPow, gI2, gCmp, gEqB, isB, B.d, uAnd, uOr, uNot, uAndV, uOrV, uNotV, uName, uNext, uPar, uAug, uSl, uPart, uNoPart, gSl, gAbs, gMax, gMin, gToInt, gTupleOf, gListOf, gIsi, g1, g2, gInt, uSetI, uIf, gAll, gSum, uDrop, uAsg, uTupG, uGCons, uGNil, uRng1, uRng2, uRngD, uRevR, uZip, uEnum, uSeqI, lend, capEv, frzL, frz1, Option.bind_some, Option.bind_none, Option.map_some, Option.map_none, Option.join,
  List.getElem?_cons_zero, List.getElem?_cons_succ, List.set_cons_zero, List.set_cons_succ, List.length_cons, List.length_nil, decide_eq_true_eq, Bool.false_xor, Bool.true_xor, Bool.not_eq_true', decide_eq_false_iff_not, if_true, if_false, reduceCtorEq])
namespace M
def T_SMALL_PRIMES : List Int := [2, 3, 5, 7, 11, 13, 17, 19, 23, 29, 31, 37, 41, 43, 47, 53, 59, 61, 67, 71, 73, 79, 83, 89, 97, 101, 103, 107, 109, 113, 127, 131, 137, 139, 149, 151, 157, 163, 167, 173, 179, 181, 191, 193, 197, 199]
def φ_p_small_primes : Φ := fun ds Q => ds = [] ∧ Q (.ow (T_SMALL_PRIMES.map .int))
def tr_p_small_primes : US := (uRet (uCall gListOf (uCons (uC (.tup (T_SMALL_PRIMES.map .int))) uNil)))
theorem len_p_small_primes : ∀ ds Q, φ_p_small_primes ds Q → ds.length = 0 := by rintro ds Q ⟨rfl, _⟩; rfl
theorem rd_p_small_primes : ∀ ds Q, φ_p_small_primes ds Q → tr_p_small_primes { nx := fun _ => Q (.pu .non), rt := Q } (init [] ds) := by
  rintro ds Q ⟨rfl, h⟩
  unfold tr_p_small_primes
  show (uRet _ : US) _ []
  walk_at "u"
  exact h
theorem prL_eq : prL = T_SMALL_PRIMES := by decide +kernel
def ps (f : Nat → Int) (z : Int) : Nat → Int
  | 0 => 0
  | n + 1 => ps f z n + f n * z ^ n
def hor (f : Nat → Int) (n : Nat) (z : Int) : Nat → Int
  | 0 => 0
  | k + 1 => hor f n z k * z + f (n - 1 - k)
theorem hor_ps (f : Nat → Int) (n : Nat) (z : Int) : ∀ k, k ≤ n → hor f n z k * z ^ (n - k) + ps f z (n - k) = ps f z n
  | 0, _ => by show (0 : Int) * _ + _ = _; rw [Int.zero_mul, Int.zero_add]; rfl
  | k + 1, h => by
    have ih := hor_ps f n z k (by omega)
    obtain ⟨m, hm⟩ : ∃ m, n - k = m + 1 := ⟨n - k - 1, by omega⟩
    have e1 : n - (k + 1) = m := by omega
    have e2 : n - 1 - k = m := by omega
    rw [hm] at ih
    show (hor f n z k * z + f (n - 1 - k)) * z ^ (n - (k + 1)) + ps f z (n - (k + 1)) = _
    rw [e1, e2, ← ih]
    show _ = hor f n z k * z ^ (m + 1) + (ps f z m + f m * z ^ m)
    rw [Int.pow_succ, Int.add_mul]
    have e3 : hor f n z k * z * z ^ m = hor f n z k * (z ^ m * z) := by rw [Int.mul_assoc, Int.mul_comm z]
    omega
theorem hor_all (f : Nat → Int) (n : Nat) (z : Int) : hor f n z n = ps f z n := by
  have := hor_ps f n z n (Nat.le_refl _)
  rw [Nat.sub_self] at this
  have e : hor f n z n * z ^ 0 + ps f z 0 = hor f n z n := by
    show hor f n z n * z ^ 0 + 0 = _
    rw [Int.pow_zero, Int.mul_one, Int.add_zero]
  omega
theorem hor_bound {f : Nat → Int} {n a b : Nat} {z : Int} (hf : ∀ j, (f j).natAbs ≤ 2 ^ a) (hz : z.natAbs ≤ 2 ^ b) : ∀ k, (hor f n z k).natAbs ≤ 2 ^ (a + (b + 1) * k)
  | 0 => by simp [hor]
  | k + 1 => by
    show (hor f n z k * z + f (n - 1 - k)).natAbs ≤ _
    have ih := hor_bound (n := n) hf hz k
    have h1 : (hor f n z k * z).natAbs ≤ 2 ^ (a + (b + 1) * k) * 2 ^ b := by rw [Int.natAbs_mul]; exact Nat.mul_le_mul ih hz
    have h2 := hf (n - 1 - k)
    have h3 := Int.natAbs_add_le (hor f n z k * z) (f (n - 1 - k))
    have e1 : 2 ^ (a + (b + 1) * (k + 1)) = 2 ^ (a + (b + 1) * k) * 2 ^ b + 2 ^ (a + (b + 1) * k) * 2 ^ b := by
      rw [Nat.mul_succ, ← Nat.add_assoc, ← Nat.add_assoc, Nat.pow_succ, Nat.pow_add 2 (a + (b + 1) * k) b]; omega
    have h4 : 2 ^ a ≤ 2 ^ (a + (b + 1) * k) * 2 ^ b := by
      rw [← Nat.pow_add]
      exact Nat.pow_le_pow_right (by decide) (by omega)
    omega
theorem ps_add (f g : Nat → Int) (z : Int) : ∀ n, ps (fun j => f j + g j) z n = ps f z n + ps g z n
  | 0 => rfl
  | n + 1 => by
    show ps (fun j => f j + g j) z n + (f n + g n) * z ^ n = ps f z n + f n * z ^ n + (ps g z n + g n * z ^ n)
    rw [ps_add f g z n, Int.add_mul]
    omega
theorem ps_mul (c : Int) (f : Nat → Int) (z : Int) : ∀ n, ps (fun j => c * f j) z n = c * ps f z n
  | 0 => by show (0 : Int) = c * 0; rw [Int.mul_zero]
  | n + 1 => by
    show ps (fun j => c * f j) z n + c * f n * z ^ n = c * (ps f z n + f n * z ^ n)
    rw [ps_mul c f z n, Int.mul_add, Int.mul_assoc]
theorem ps_ext {f : Nat → Int} {z : Int} {n : Nat} : ∀ m, n ≤ m → (∀ j, n ≤ j → j < m → f j = 0) → ps f z m = ps f z n
  | 0, h, _ => by rw [show n = 0 by omega]
  | m + 1, h, hz => by
    by_cases c : n = m + 1
    · rw [c]
    · show ps f z m + f m * z ^ m = _
      rw [hz m (by omega) (by omega), Int.zero_mul, Int.add_zero]
      exact ps_ext m (by omega) fun j a b => hz j a (by omega)
theorem ps_shift0 (b : Nat → Int) (z : Int) (U : Nat) : ∀ n, n ≤ U → ps (shF b U) z n = 0
  | 0, _ => rfl
  | n + 1, h => by
    show ps (shF b U) z n + shF b U n * z ^ n = 0
    rw [ps_shift0 b z U n (by omega)]
    unfold shF
    rw [if_neg (by omega), Int.zero_mul]
    rfl
theorem ps_shift (b : Nat → Int) (z : Int) (U : Nat) : ∀ m, ps (shF b U) z (U + m) = z ^ U * ps b z m
  | 0 => by rw [Nat.add_zero, ps_shift0 b z U U (Nat.le_refl _)]; show (0 : Int) = z ^ U * 0; rw [Int.mul_zero]
  | m + 1 => by
    show ps (shF b U) z (U + m) + shF b U (U + m) * z ^ (U + m) = z ^ U * (ps b z m + b m * z ^ m)
    rw [ps_shift b z U m]
    unfold shF
    rw [if_pos (by omega), show U + m - U = m by omega, Int.pow_add, Int.mul_add, Int.mul_left_comm]
theorem ps_conv {u b : Nat → Int} {z : Int} {V : Nat} (hb : ∀ j, V ≤ j → b j = 0) : ∀ U N, U + V ≤ N → ps (conv u b U) z N = ps u z U * ps b z V
  | 0, N, _ => by
    have : ps (conv u b 0) z N = 0 := by
      have e : ps (conv u b 0) z N = ps (conv u b 0) z 0 := ps_ext N (Nat.zero_le _) fun _ _ _ => rfl
      rw [e]; rfl
    rw [this]
    show (0 : Int) = 0 * _
    rw [Int.zero_mul]
  | U + 1, N, h => by
    have e : conv u b (U + 1) = fun m => conv u b U m + u U * shF b U m := rfl
    rw [e, ps_add (conv u b U) (fun m => u U * shF b U m), ps_conv hb U N (by omega), ps_mul]
    obtain ⟨m, rfl⟩ : ∃ m, N = U + m := ⟨N - U, by omega⟩
    rw [ps_shift, ps_ext (n := V) m (by omega) fun j a _ => hb j a]
    show _ = (ps u z U + u U * z ^ U) * ps b z V
    rw [Int.add_mul, Int.mul_assoc (u U)]
structure HorOk (n a b : Nat) (f : Nat → Int) (z : Int) : Prop where
  fb : ∀ j, (f j).natAbs ≤ 2 ^ a
  zb : z.natAbs ≤ 2 ^ b
  room : a + (b + 1) * n < 8000
  b8 : b < 8000
  n9 : n ≤ 200
def φ_p_poly_at : Φ := fun ds Q => ∃ (n a b : Nat) (f : Nat → Int) (z : Int), ds = [rowD (rwF n f), .int z] ∧ HorOk n a b f z ∧ Q (.pu (.int (ps f z n)))
def tr_p_poly_at : US := (uSeq (uSet 2 (uC (.int 0))) (uSeq (uFor (uRevT (uCons (uVar 0) uNil)) (uName 3) (uSet 2 (uOp gAdd (uOp gMul (uVar 2) (uVar 1)) (uVar 3)))) (uRetV 2)))
theorem len_p_poly_at : ∀ ds Q, φ_p_poly_at ds Q → ds.length = 2 := by rintro ds Q ⟨n, a, b, f, z, rfl, _⟩; rfl
theorem rd_p_poly_at : ∀ ds Q, φ_p_poly_at ds Q → tr_p_poly_at { nx := fun _ => Q (.pu .non), rt := Q } (init ["f", "z", "v", "c"] ds) := by
  rintro ds Q ⟨n, a, b, f, z, rfl, ok, h⟩
  unfold tr_p_poly_at
  simp only [rowD]
  show (uSeq _ _ : US) _ [some (.pu (.tup ((rwF n f).map .int))), some (.pu (.int z)), none, none]
  walk_at "u"
  refine uFor_intro n (fun k => ((rwF n f).map D.int).getD (n - 1 - k) .non) [some (.pu (.tup ((rwF n f).map .int))), some (.pu (.int z)), some (.pu (.int 0)), none] ?_
    (fun k ρ => ∃ c, ρ = [some (.pu (.tup ((rwF n f).map .int))), some (.pu (.int z)), some (.pu (.int (hor f n z k))), c]) ⟨none, rfl⟩ ?_ ?_
  · intro Q' q
    walk_at "u"
    rw [rwF_mlen]
    exact q
  · rintro k ρ hk ⟨c, rfl⟩
    rw [rwF_getD (by omega)]
    walk_at "u"
    have room := ok.room
    have : (b + 1) * k ≤ (b + 1) * n := Nat.mul_le_mul_left _ (by omega)
    exact ⟨by simp, .inr ⟨Sm.pow (hor_bound ok.fb ok.zb k) (by omega), Sm.pow ok.zb (by have := ok.b8; omega)⟩, _, rfl⟩
  · rintro ρ ⟨c, rfl⟩
    walk_at "u"
    rw [hor_all]
    exact h
theorem shF_add (f g : Nat → Int) (n m : Nat) : shF (fun j => f j + g j) n m = shF f n m + shF g n m := by
  unfold shF; dsimp only; split <;> omega
theorem shF_mul (c : Int) (f : Nat → Int) (n m : Nat) : shF (fun j => c * f j) n m = c * shF f n m := by
  unfold shF; dsimp only; split
  · rfl
  · rw [Int.mul_zero]
theorem shF_sh (h : Nat → Int) (n k m : Nat) : shF (shF h n) k m = shF h (n + k) m := by
  unfold shF
  by_cases c : k ≤ m
  · rw [if_pos c]
    by_cases d : n ≤ m - k
    · rw [if_pos d, if_pos (by omega), show m - k - n = m - (n + k) by omega]
    · rw [if_neg d, if_neg (by omega)]
  · rw [if_neg c, if_neg (by omega)]
theorem conv_addL (f g b : Nat → Int) (m : Nat) : ∀ n, conv (fun j => f j + g j) b n m = conv f b n m + conv g b n m
  | 0 => rfl
  | n + 1 => by
    show conv (fun j => f j + g j) b n m + (f n + g n) * shF b n m = conv f b n m + f n * shF b n m + (conv g b n m + g n * shF b n m)
    rw [conv_addL f g b m n, Int.add_mul]
    omega
theorem conv_mulL (c : Int) (f b : Nat → Int) (m : Nat) : ∀ n, conv (fun j => c * f j) b n m = c * conv f b n m
  | 0 => by show (0 : Int) = c * 0; rw [Int.mul_zero]
  | n + 1 => by
    show conv (fun j => c * f j) b n m + c * f n * shF b n m = c * (conv f b n m + f n * shF b n m)
    rw [conv_mulL c f b m n, Int.mul_add, Int.mul_assoc]
theorem conv_shL (f b : Nat → Int) (k m : Nat) : ∀ n, conv (shF f k) b (k + n) m = shF (conv f b n) k m
  | 0 => by
    have e : ∀ j, j ≤ k → conv (shF f k) b j m = 0 := by
      intro j
      induction j with
      | zero => intro _; rfl
      | succ j ih =>
        intro hj
        show conv (shF f k) b j m + shF f k j * shF b j m = 0
        rw [ih (by omega)]
        unfold shF
        rw [if_neg (by omega), Int.zero_mul]
        rfl
    rw [Nat.add_zero, e k (Nat.le_refl _)]
    unfold shF
    split <;> rfl
  | n + 1 => by
    show conv (shF f k) b (k + n) m + shF f k (k + n) * shF b (k + n) m = shF (fun m => conv f b n m + f n * shF b n m) k m
    rw [conv_shL f b k m n, shF_add, shF_mul, shF_sh, Nat.add_comm n k]
    congr 2
    unfold shF
    rw [if_pos (by omega), show k + n - k = n by omega]
theorem conv_assoc {u b c : Nat → Int} {V : Nat} (hb : ∀ j, V ≤ j → b j = 0) (m : Nat) : ∀ U, conv u (conv b c V) U m = conv (conv u b U) c (U + V) m
  | 0 => by
    have e : ∀ n, conv (conv u b 0) c n m = 0 := by
      intro n
      induction n with
      | zero => rfl
      | succ n ih =>
        show conv (conv u b 0) c n m + 0 * shF c n m = 0
        rw [ih, Int.zero_mul]; rfl
    rw [e]; rfl
  | U + 1 => by
    show conv u (conv b c V) U m + u U * shF (conv b c V) U m = conv (fun m => conv u b U m + u U * shF b U m) c (U + 1 + V) m
    rw [conv_addL, conv_mulL, conv_assoc hb m U]
    have z1 : ∀ j, U + V ≤ j → j < U + 1 + V → conv u b U j = 0 := fun j h1 h2 => by
      have : ∀ i, V < i + 1 → b i = 0 := fun i hi => hb i (by omega)
      by_cases v : V = 0
      · subst v
        have e : b = fun _ => 0 := funext fun j => hb j (Nat.zero_le _)
        rw [e]
        have nul : ∀ n, conv u (fun _ => 0) n j = 0 := by
          intro n
          induction n with
          | zero => rfl
          | succ n ih =>
            show conv u (fun _ => 0) n j + u n * shF (fun _ => 0) n j = 0
            rw [ih]
            unfold shF
            split <;> rw [Int.mul_zero] <;> rfl
        exact nul U
      · exact conv_high (d := V - 1) (fun i hi => hb i (by omega)) U j (by omega)
    rw [conv_cut (u := conv u b U) (b := c) (U := U + V) (U + 1 + V) z1 (by omega)]
    have z2 : ∀ j, U + V ≤ j → j < U + 1 + V → shF b U j = 0 := fun j h1 h2 => by
      unfold shF
      rw [if_pos (by omega)]
      exact hb _ (by omega)
    rw [conv_cut (u := shF b U) (b := c) (U := U + V) (U + 1 + V) z2 (by omega), conv_shL]
theorem conv_addR (u f g : Nat → Int) (m : Nat) : ∀ n, conv u (fun j => f j + g j) n m = conv u f n m + conv u g n m
  | 0 => rfl
  | n + 1 => by
    show conv u (fun j => f j + g j) n m + u n * shF (fun j => f j + g j) n m = conv u f n m + u n * shF f n m + (conv u g n m + u n * shF g n m)
    rw [conv_addR u f g m n, shF_add, Int.mul_add]
    omega
theorem conv_one {u : Nat → Int} {n : Nat} (c : Int) (k : Nat) (hu : ∀ j, n ≤ j → u j = 0) (m : Nat) : conv u (fun j => if j = k then c else 0) n m = c * shF u k m := by
  have e : ∀ n, conv u (fun j => if j = k then c else 0) n m = if k ≤ m ∧ m - k < n then c * u (m - k) else 0 := by
    intro n
    induction n with
    | zero => rw [if_neg (by omega)]; rfl
    | succ n ih =>
      show conv u (fun j => if j = k then c else 0) n m + u n * shF (fun j => if j = k then c else 0) n m = _
      have sh : shF (fun j => if j = k then c else 0) n m = if n ≤ m ∧ m - n = k then c else 0 := by
        unfold shF
        dsimp only
        by_cases h3 : n ≤ m
        · rw [if_pos h3]
          by_cases h4 : m - n = k
          · rw [if_pos h4, if_pos ⟨h3, h4⟩]
          · rw [if_neg h4, if_neg (fun z => h4 z.2)]
        · rw [if_neg h3, if_neg (fun z => h3 z.1)]
      rw [ih, sh]
      by_cases h1 : k ≤ m ∧ m - k < n
      · rw [if_pos h1, if_neg (show ¬ (n ≤ m ∧ m - n = k) by omega), if_pos (show k ≤ m ∧ m - k < n + 1 by omega), Int.mul_zero, Int.add_zero]
      · rw [if_neg h1]
        by_cases h2 : k ≤ m ∧ m - k = n
        · rw [if_pos (show n ≤ m ∧ m - n = k by omega), if_pos (show k ≤ m ∧ m - k < n + 1 by omega), h2.2, Int.zero_add, Int.mul_comm]
        · rw [if_neg (show ¬ (n ≤ m ∧ m - n = k) by omega), if_neg (show ¬ (k ≤ m ∧ m - k < n + 1) by omega), Int.mul_zero]
          rfl
  rw [e n]
  unfold shF
  by_cases h1 : k ≤ m
  · rw [if_pos h1]
    by_cases h2 : m - k < n
    · rw [if_pos ⟨h1, h2⟩]
    · rw [if_neg (by omega), hu _ (by omega), Int.mul_zero]
  · rw [if_neg h1, if_neg (by omega), Int.mul_zero]
theorem conv_comm {u b : Nat → Int} {U V : Nat} (hu : ∀ j, U ≤ j → u j = 0) (hb : ∀ j, V ≤ j → b j = 0) (m : Nat) : conv u b U m = conv b u V m := by
  have e : ∀ n, conv u b n m = conv b (fun j => if j < n then u j else 0) V m := by
    intro n
    induction n with
    | zero =>
      have : (fun j => if j < 0 then u j else 0) = fun j => if j = 0 then (0 : Int) else 0 := funext fun j => by simp
      rw [this, conv_one 0 0 hb, Int.zero_mul]
      rfl
    | succ n ih =>
      have : (fun j => if j < n + 1 then u j else 0) = fun j => (if j < n then u j else 0) + (if j = n then u n else 0) := funext fun j => by
        by_cases h1 : j < n
        · rw [if_pos (by omega), if_pos h1, if_neg (by omega), Int.add_zero]
        · by_cases h2 : j = n
          · subst h2; rw [if_pos (by omega), if_neg h1, if_pos rfl, Int.zero_add]
          · rw [if_neg (by omega), if_neg h1, if_neg h2]; rfl
      rw [this, conv_addR b (fun j => if j < n then u j else 0) (fun j => if j = n then u n else 0), conv_one _ _ hb, ← ih]
      rfl
  rw [e U]
  congr 1
  funext j
  by_cases h : j < U
  · rw [if_pos h]
  · rw [if_neg h, hu j (by omega)]
theorem emL (a b p : Int) : a % p * b % p = a * b % p := by rw [Int.mul_emod, Int.emod_emod, ← Int.mul_emod]
theorem emR (a b p : Int) : a * (b % p) % p = a * b % p := by rw [Int.mul_emod, Int.emod_emod, ← Int.mul_emod]
structure MP (p : Int) (n : Nat) (f : Nat → Int) : Prop where
  top : f n = 1
  hi : ∀ j, n < j → f j = 0
  rng : ∀ j, 0 ≤ f j ∧ f j < p
theorem MP.z {p : Int} {n : Nat} {f : Nat → Int} (h : MP p n f) : ∀ j, n + 1 ≤ j → f j = 0 := fun j hj => h.hi j hj
def tm (p : Int) (a b : Nat × (Nat → Int)) : Nat × (Nat → Int) := (a.1 + b.1, md p (conv a.2 b.2 (a.1 + 1)))
theorem conv_mdL {p : Int} (u b : Nat → Int) (n m : Nat) : conv (md p u) b n m % p = conv u b n m % p := conv_cg (fun i j => by show u i % p * b j % p = _; rw [emL]) n m
theorem conv_mdR {p : Int} (u b : Nat → Int) (n m : Nat) : conv u (md p b) n m % p = conv u b n m % p := conv_cg (fun i j => by show u i * (b j % p) % p = _; rw [emR]) n m
theorem MP.tm {p : Int} {a b : Nat × (Nat → Int)} (hp : 2 ≤ p) (ha : MP p a.1 a.2) (hb : MP p b.1 b.2) : MP p (M.tm p a b).1 (M.tm p a b).2 := by
  refine ⟨?_, fun j hj => ?_, fun j => ⟨Int.emod_nonneg _ (by omega), Int.emod_lt_of_pos _ (by omega)⟩⟩
  · show conv a.2 b.2 (a.1 + 1) (a.1 + b.1) % p = 1
    rw [conv_top hb.hi, ha.top, hb.top]
    exact Int.emod_eq_of_lt (by decide) (by omega)
  · show conv a.2 b.2 (a.1 + 1) j % p = 0
    have hj' : a.1 + b.1 < j := hj
    rw [conv_high (d := b.1) hb.hi (a.1 + 1) j (by omega), Int.zero_emod]
theorem tm_assoc {p : Int} {a b c : Nat × (Nat → Int)} (hb : ∀ j, b.1 < j → b.2 j = 0) : tm p a (tm p b c) = tm p (tm p a b) c := by
  refine Prod.ext (Nat.add_assoc _ _ _).symm (funext fun m => ?_)
  show conv a.2 (md p (conv b.2 c.2 (b.1 + 1))) (a.1 + 1) m % p = conv (md p (conv a.2 b.2 (a.1 + 1))) c.2 (a.1 + b.1 + 1) m % p
  rw [conv_mdR, conv_mdL, conv_assoc (V := b.1 + 1) (fun j hj => hb j hj) m (a.1 + 1)]
  rw [conv_cut (u := conv a.2 b.2 (a.1 + 1)) (b := c.2) (U := a.1 + b.1 + 1) (a.1 + 1 + (b.1 + 1)) (fun j h1 h2 => conv_high (d := b.1) hb (a.1 + 1) j (by omega)) (by omega)]
theorem tm_comm {p : Int} {a b : Nat × (Nat → Int)} (ha : ∀ j, a.1 < j → a.2 j = 0) (hb : ∀ j, b.1 < j → b.2 j = 0) : tm p a b = tm p b a := by
  refine Prod.ext (Nat.add_comm _ _) (funext fun m => ?_)
  show conv a.2 b.2 (a.1 + 1) m % p = conv b.2 a.2 (b.1 + 1) m % p
  rw [conv_comm (U := a.1 + 1) (V := b.1 + 1) (fun j hj => ha j hj) (fun j hj => hb j hj)]
def oneF : Nat × (Nat → Int) := (0, fun j => if j = 0 then 1 else 0)
theorem MP.one {p : Int} (hp : 2 ≤ p) : MP p oneF.1 oneF.2 := ⟨rfl, fun j hj => if_neg (by have : 0 < j := hj; omega), fun j => by show 0 ≤ (if j = 0 then (1 : Int) else 0) ∧ (if j = 0 then (1 : Int) else 0) < p; split <;> omega⟩
theorem tm_one {p : Int} {a : Nat × (Nat → Int)} (ha : MP p a.1 a.2) : tm p oneF a = a := by
  refine Prod.ext (Nat.zero_add _) (funext fun m => ?_)
  show (0 + (if (0 : Nat) = 0 then (1 : Int) else 0) * shF a.2 0 m) % p = a.2 m
  rw [if_pos rfl, Int.one_mul, Int.zero_add]
  unfold shF
  rw [if_pos (Nat.zero_le _), Nat.sub_zero]
  exact Int.emod_eq_of_lt (ha.rng m).1 (ha.rng m).2
def linF (c : Int) : Nat × (Nat → Int) := (1, fun j => if j = 0 then c else if j = 1 then 1 else 0)
theorem MP.lin {p c : Int} (hp : 2 ≤ p) (h0 : 0 ≤ c) (h1 : c < p) : MP p (linF c).1 (linF c).2 := ⟨rfl, fun j hj => by
    have : 1 < j := hj
    show (if j = 0 then c else if j = 1 then 1 else 0) = 0
    rw [if_neg (by omega), if_neg (by omega)], fun j => by
    show 0 ≤ (if j = 0 then c else if j = 1 then 1 else 0) ∧ (if j = 0 then c else if j = 1 then 1 else 0) < p
    split
    · omega
    · split <;> omega⟩
def va (p : Int) (a : Nat × (Nat → Int)) (z : Int) : Int := ps a.2 z (a.1 + 1) % p
theorem ps_md (p : Int) (f : Nat → Int) (z : Int) : ∀ n, ps (md p f) z n % p = ps f z n % p
  | 0 => rfl
  | n + 1 => by
    show (ps (md p f) z n + f n % p * z ^ n) % p = (ps f z n + f n * z ^ n) % p
    rw [Int.add_emod, ps_md p f z n, emL, ← Int.add_emod]
theorem va_tm {p : Int} {a b : Nat × (Nat → Int)} (hb : ∀ j, b.1 < j → b.2 j = 0) (z : Int) : va p (tm p a b) z = va p a z * va p b z % p := by
  show ps (md p (conv a.2 b.2 (a.1 + 1))) z (a.1 + b.1 + 1) % p = ps a.2 z (a.1 + 1) % p * (ps b.2 z (b.1 + 1) % p) % p
  rw [ps_md, ← Int.mul_emod]
  have h := ps_conv (u := a.2) (b := b.2) (z := z) (V := b.1 + 1) (fun j hj => hb j hj) (a.1 + 1) (a.1 + 1 + (b.1 + 1)) (Nat.le_refl _)
  rw [← h, ps_ext (n := a.1 + b.1 + 1) (a.1 + 1 + (b.1 + 1)) (by omega) (fun j h1 h2 => conv_high (d := b.1) hb (a.1 + 1) j (by omega))]
def hqA (c : Int) (f : Nat → Int) (n : Nat) : Nat → Int
  | 0 => f n
  | k + 1 => f (n - 1 - k) - c * hqA c f n k
def hq (c : Int) (f : Nat → Int) (n : Nat) : Nat → Int := fun j => if j < n then hqA c f n (n - 1 - j) else 0
theorem hq_step {c : Int} {f : Nat → Int} {n : Nat} (hf : ∀ j, n < j → f j = 0) (j : Nat) (hj : 1 ≤ j) : f j = hq c f n (j - 1) + c * hq c f n j := by
  unfold hq
  by_cases h1 : j < n
  · rw [if_pos (show j - 1 < n by omega), if_pos h1, show n - 1 - (j - 1) = (n - 1 - j) + 1 by omega]
    show f j = f (n - 1 - (n - 1 - j)) - c * hqA c f n (n - 1 - j) + c * hqA c f n (n - 1 - j)
    rw [show n - 1 - (n - 1 - j) = j by omega]
    omega
  · by_cases h2 : j = n
    · subst h2
      rw [if_pos (show j - 1 < j by omega), if_neg h1, show j - 1 - (j - 1) = 0 by omega, Int.mul_zero, Int.add_zero]
      rfl
    · rw [if_neg (show ¬ j - 1 < n by omega), if_neg h1, hf j (by omega), Int.mul_zero]
      rfl
theorem hq_ps {c : Int} {f : Nat → Int} {n : Nat} (hf : ∀ j, n < j → f j = 0) : ∀ m, ps f (-c) (m + 1) = f 0 - c * hq c f n 0 + c * hq c f n m * (-c) ^ m
  | 0 => by
    show 0 + f 0 * (-c) ^ 0 = _
    rw [Int.pow_zero, Int.mul_one, Int.mul_one]
    omega
  | m + 1 => by
    show ps f (-c) (m + 1) + f (m + 1) * (-c) ^ (m + 1) = _
    rw [hq_ps hf m, hq_step (c := c) hf (m + 1) (by omega), Nat.add_sub_cancel, Int.pow_succ]
    grind
theorem hq_at {c : Int} {f : Nat → Int} {n : Nat} (hf : ∀ j, n < j → f j = 0) : ps f (-c) (n + 1) = f 0 - c * hq c f n 0 := by
  rw [hq_ps hf n]
  have : hq c f n n = 0 := by unfold hq; rw [if_neg (Nat.lt_irrefl _)]
  rw [this, Int.mul_zero, Int.zero_mul, Int.add_zero]
theorem conv_lin {u : Nat → Int} {n : Nat} (c : Int) (hu : ∀ j, n ≤ j → u j = 0) (m : Nat) : conv u (linF c).2 n m = c * u m + (if m = 0 then 0 else u (m - 1)) := by
  have e : (linF c).2 = fun j => (if j = 0 then c else 0) + (if j = 1 then 1 else 0) := funext fun j => by
    show (if j = 0 then c else if j = 1 then 1 else 0) = _
    by_cases h0 : j = 0
    · subst h0; simp
    · rw [if_neg h0, if_neg h0, Int.zero_add]
  rw [e, conv_addR u (fun j => if j = 0 then c else 0) (fun j => if j = 1 then 1 else 0), conv_one c 0 hu, conv_one 1 1 hu, Int.one_mul]
  unfold shF
  rw [if_pos (Nat.zero_le _), Nat.sub_zero]
  congr 1
  by_cases h0 : m = 0
  · rw [if_pos h0, if_neg (by omega)]
  · rw [if_neg h0, if_pos (by omega)]
theorem hq_conv {c : Int} {f : Nat → Int} {n : Nat} (hf : ∀ j, n < j → f j = 0) (m : Nat) : f m = conv (hq c f n) (linF c).2 n m + (if m = 0 then f 0 - c * hq c f n 0 else 0) := by
  rw [conv_lin c (fun j hj => by unfold hq; rw [if_neg (by omega)])]
  by_cases h0 : m = 0
  · subst h0; rw [if_pos rfl, if_pos rfl]; omega
  · rw [if_neg h0, if_neg h0, hq_step (c := c) hf m (by omega)]; omega
end M
end
section
set_option Elab.async false
set_option linter.all false
set_option maxRecDepth 100000
open PySem L2 M
local macro_rules | `(tactic| walk_at "u") => `(tactic| simp only [uRev, gRev, uSlT, gSlT, uChain, uPop, uRevT, gMulT, gAny, uIsN, D.isN, gMaxL, uLook, uLookE, uAppZ, gSort2, uSeq, uSet, uRet, uRetN, uRetV, uIfS, uTst, uOp, uC, uVar, slotE, uVarV, slotV, uV, uIx, gIx, uLen, seqOf, uCall, uCons, uNil, uLst, uTup, uApp, ownAt, uNeg, gAdd, M.gSub, gMul, gDiv, gMod, gPow, gI2, gCmp, gEqB, isB, B.d, uAnd, uOr, uNot, uAndV, uOrV, uNotV, uName, uNext, uPar, uAug, uSl, uPart, uNoPart, gSl, gAbs, gMax, gMin, gToInt, gTupleOf, gListOf, gIsi, g1, g2, gInt, uSetI, uIf, gAll, gSum, uDrop, uAsg, uTupG, uGCons, uGNil, uRng1, uRng2, uRngD, uRevR, uZip, uEnum, uSeqI, lend, capEv, frzL, frz1, Option.bind_some, Option.bind_none, Option.map_some, Option.map_none, Option.join,
  List.getElem?_cons_zero, List.getElem?_cons_succ, List.set_cons_zero, List.set_cons_succ, List.length_cons, List.length_nil, decide_eq_true_eq, Bool.false_xor, Bool.true_xor, Bool.not_eq_true', decide_eq_false_iff_not, if_true, if_false, reduceCtorEq])
namespace M
def powT (p : Int) (a g : Nat × (Nat → Int)) : Nat → Nat × (Nat → Int)
  | 0 => a
  | k + 1 => tm p (powT p a g k) g
theorem MP.powT {p : Int} {a g : Nat × (Nat → Int)} (hp : 2 ≤ p) (ha : MP p a.1 a.2) (hg : MP p g.1 g.2) : ∀ k, MP p (M.powT p a g k).1 (M.powT p a g k).2
  | 0 => ha
  | k + 1 => MP.tm hp (MP.powT hp ha hg k) hg
theorem powT_deg (p : Int) (a g : Nat × (Nat → Int)) : ∀ k, (powT p a g k).1 = a.1 + g.1 * k
  | 0 => rfl
  | k + 1 => by
    show (powT p a g k).1 + g.1 = _
    rw [powT_deg p a g k, Nat.mul_succ, Nat.add_assoc]
def allT (p : Int) (a : Nat × (Nat → Int)) : List ((Nat × (Nat → Int)) × Nat) → Nat × (Nat → Int)
  | [] => a
  | x :: l => allT p (powT p a x.1 x.2) l
theorem allT_append (p : Int) : ∀ (l m : List ((Nat × (Nat → Int)) × Nat)) (a : Nat × (Nat → Int)), allT p a (l ++ m) = allT p (allT p a l) m
  | [], m, a => rfl
  | x :: l, m, a => allT_append p l m _
theorem MP.allT {p : Int} (hp : 2 ≤ p) : ∀ (l : List ((Nat × (Nat → Int)) × Nat)) {a : Nat × (Nat → Int)}, MP p a.1 a.2 → (∀ x ∈ l, MP p x.1.1 x.1.2) → MP p (M.allT p a l).1 (M.allT p a l).2
  | [], a, ha, _ => ha
  | x :: l, a, ha, h => MP.allT hp l (MP.powT hp ha (h x (.head _)) x.2) fun y hy => h y (.tail _ hy)
theorem allT_deg (p : Int) : ∀ (l : List ((Nat × (Nat → Int)) × Nat)) (a : Nat × (Nat → Int)) (x : (Nat × (Nat → Int)) × Nat), x ∈ l → a.1 + x.1.1 * x.2 ≤ (allT p a l).1
  | y :: l, a, x, hx => by
    show _ ≤ (allT p (powT p a y.1 y.2) l).1
    have mono : ∀ (l : List ((Nat × (Nat → Int)) × Nat)) (a : Nat × (Nat → Int)), a.1 ≤ (allT p a l).1 := by
      intro l
      induction l with
      | nil => intro a; exact Nat.le_refl _
      | cons z l ih => intro a; exact Nat.le_trans (by rw [powT_deg]; omega) (ih (powT p a z.1 z.2))
    rcases List.mem_cons.mp hx with rfl | hx
    · have := mono l (powT p a x.1 x.2)
      rw [powT_deg] at this
      exact this
    · have := allT_deg p l (powT p a y.1 y.2) x hx
      rw [powT_deg] at this
      omega
def partD (x : (Nat × (Nat → Int)) × Nat) : D := .tup [rowD (rwF (x.1.1 + 1) x.1.2), .int (x.2 : Int)]
def lnP (x : Int × Nat) : (Nat × (Nat → Int)) × Nat := (linF x.1, x.2)
structure LK (p : Int) (F : Nat × (Nat → Int)) (C : Nat) (cs : List (Int × Nat)) (L : Nat × (Nat → Int)) : Prop where
  prod : F = tm p (allT p oneF (cs.map lnP)) L
  mp : MP p L.1 L.2
  asc : cs.Pairwise fun a b => a.1 < b.1
  mem : ∀ x ∈ cs, 0 ≤ x.1 ∧ x.1 < (C : Int) ∧ 1 ≤ x.2
  nr : ∀ c : Nat, c < C → va p L (-(c : Int)) ≠ 0
  len : cs.length ≤ C
theorem lin_mps {p : Int} (hp : 2 ≤ p) {cs : List (Int × Nat)} (h : ∀ x ∈ cs, 0 ≤ x.1 ∧ x.1 < p) : ∀ y ∈ cs.map lnP, MP p y.1.1 y.1.2 := by
  intro y hy
  obtain ⟨x, hx, rfl⟩ := List.mem_map.mp hy
  exact MP.lin hp (h x hx).1 (h x hx).2
def φ_p_lines_out : Φ := fun ds Q => ∃ (n : Nat) (f : Nat → Int) (p : Int), ds = [rowD (rwF (n + 1) f), .int p] ∧ n ≤ 40 ∧ Pr p ∧ MP p n f ∧ ∀ cs L, LK p (n, f) p.toNat cs L → Q (.pu (.tup [.lst (cs.map fun x => partD (lnP x)), rowD (rwF (L.1 + 1) L.2)]))
def tr_p_lines_out3 : US := (uRet (uTup (uCons (uVar 2) (uCons (uVar 3) uNil))))
def tr_p_lines_out2 : US := (uSeq (uFor (uRng1 (uCons (uVar 1) uNil)) (uName 4) (uSeq (uSet 5 (uC (.int 0))) (uSeq (uWhile (uTst (uOp (gEqB false) (uOp gMod (uCall φ_p_poly_at (uCons (uVar 3) (uCons (uNeg (uVar 4)) uNil))) (uVar 1)) (uC (.int 0)))) (uSeq (uSet 3 (uIx (uV (uCall φ_p_mod_parted (uCons (uVar 3) (uCons (uTup (uCons (uVar 4) (uCons (uC (.int 1)) uNil))) (uCons (uVar 1) uNil))))) (uC (.int 0)))) (uAug 5 (gI2 fun i j Q => Q (.pu (.int (i + j)))) (uC (.int 1))))) (uIfS (uTst (uOp (gCmp fun i j => decide (j < i)) (uVar 5) (uC (.int 0)))) (uApp 2 (uTup (uCons (uTup (uCons (uVar 4) (uCons (uC (.int 1)) uNil))) (uCons (uVar 5) uNil)))) uNext)))) tr_p_lines_out3)
def tr_p_lines_out1 : US := (uSeq (uSet 3 (uVar 0)) tr_p_lines_out2)
def tr_p_lines_out : US := (uSeq (uSet 2 (uLst uNil)) tr_p_lines_out1)
theorem len_p_lines_out : ∀ ds Q, φ_p_lines_out ds Q → ds.length = 2 := by rintro ds Q ⟨n, f, p, rfl, _⟩; rfl
theorem line_out {p : Int} (pp : Pr p) {L : Nat × (Nat → Int)} (mp : MP p L.1 L.2) {c : Int} (c0 : 0 ≤ c) (c1 : c < p) (hz : va p L (-c) = 0) {t : Int} (ht : t * md p (linF c).2 1 % p = 1) (t0 : 0 ≤ t) (t1 : t < p) :
    1 ≤ L.1 ∧ ∃ u : Nat → Int, MP p (L.1 - 1) u ∧ L = tm p (L.1 - 1, u) (linF c) ∧
      (let b := fun j => t * md p (linF c).2 j % p
       let LA := cutN (md p L.2) (L.1 + 1)
       let q := divQ b 1 (LA - 1) (md p L.2)
       rwF (cutN (fun j => t * q j % p) (cutN q (LA - 1))) (fun j => t * q j % p) = rwF L.1 u) := by
  have p2 := pp.lo
  have mdL : md p L.2 = L.2 := funext fun j => Int.emod_eq_of_lt (mp.rng j).1 (mp.rng j).2
  have ml := MP.lin p2 c0 c1
  have mdG : md p (linF c).2 = (linF c).2 := funext fun j => Int.emod_eq_of_lt (ml.rng j).1 (ml.rng j).2
  have l1 : 1 ≤ L.1 := by
    refine Nat.pos_of_ne_zero fun z => ?_
    unfold va at hz
    rw [z] at hz
    have e : ps L.2 (-c) (0 + 1) = L.2 0 * (-c) ^ 0 := by show 0 + L.2 0 * (-c) ^ 0 = _; omega
    have e2 : L.2 0 = 1 := by have := mp.top; rw [z] at this; exact this
    rw [e, e2, Int.pow_zero, Int.mul_one, Int.emod_eq_of_lt (by decide) (by omega)] at hz
    cases hz
  have r0 : (L.2 0 - c * hq c L.2 L.1 0) % p = 0 := by rw [← hq_at mp.hi]; exact hz
  have fm : ∀ m, L.2 m = conv (md p (hq c L.2 L.1)) (linF c).2 L.1 m % p := fun m => by
    have h := hq_conv (c := c) mp.hi m
    rw [conv_mdL]
    have e : L.2 m % p = L.2 m := Int.emod_eq_of_lt (mp.rng m).1 (mp.rng m).2
    rw [← e]
    conv => lhs; rw [h]
    by_cases h0 : m = 0
    · rw [if_pos h0, Int.add_emod, r0, Int.add_zero, Int.emod_emod]
    · rw [if_neg h0, Int.add_zero]
  have ut : md p (hq c L.2 L.1) (L.1 - 1) = 1 := by
    show hq c L.2 L.1 (L.1 - 1) % p = 1
    unfold hq
    rw [if_pos (by omega), Nat.sub_self]
    show L.2 L.1 % p = 1
    rw [mp.top]
    exact Int.emod_eq_of_lt (by decide) (by omega)
  have uz : ∀ j, L.1 ≤ j → md p (hq c L.2 L.1) j = 0 := fun j hj => by
    show hq c L.2 L.1 j % p = 0
    unfold hq
    rw [if_neg (by omega), Int.zero_emod]
  have ur : ∀ j, 0 ≤ md p (hq c L.2 L.1) j ∧ md p (hq c L.2 L.1) j < p := fun j => ⟨Int.emod_nonneg _ (by omega), Int.emod_lt_of_pos _ (by omega)⟩
  refine ⟨l1, md p (hq c L.2 L.1), ⟨ut, fun j hj => uz j (by omega), ur⟩, ?_, ?_⟩
  · refine Prod.ext (show L.1 = L.1 - 1 + 1 by omega) (funext fun m => ?_)
    show L.2 m = conv (md p (hq c L.2 L.1)) (linF c).2 (L.1 - 1 + 1) m % p
    rw [show L.1 - 1 + 1 = L.1 by omega]
    exact fm m
  · have mm := mod_math (p := p) (t := t) (B0 := md p (linF c).2) (u := md p (hq c L.2 L.1)) (low := fun _ => 0) (A := md p L.2) (d := 1) (U := L.1) (n := L.1 + 1) p2 (fun j hj => by rw [mdG]; exact ml.hi j hj) (.inr (by rw [ut]; decide)) ur uz (fun _ _ => rfl) (fun _ => ⟨by decide, by omega⟩) ht (fun m => by rw [mdL, mdG, Int.add_zero]; exact fm m) (Nat.le_refl _)
    obtain ⟨_, e1, _, _⟩ := mm
    have eLA : cutN (md p L.2) (L.1 + 1) = L.1 + 1 := cutN_eq (Nat.le_refl _) (fun m h1 h2 => by omega) (.inr (by rw [mdL, Nat.add_sub_cancel, mp.top]; decide))
    rw [eLA] at e1 ⊢
    have eu : (fun j => t * divQ (fun j => t * md p (linF c).2 j % p) 1 (L.1 + 1 - 1) (md p L.2) j % p) = md p (hq c L.2 L.1) := funext e1
    dsimp only
    rw [eu]
    have eq : cutN (divQ (fun j => t * md p (linF c).2 j % p) 1 (L.1 + 1 - 1) (md p L.2)) (L.1 + 1 - 1) = L.1 := by
      rw [Nat.add_sub_cancel]
      refine cutN_eq (Nat.le_refl _) (fun m h1 h2 => by omega) (.inr fun z => ?_)
      have h := e1 (L.1 - 1)
      rw [Nat.add_sub_cancel] at h
      rw [z, Int.mul_zero, Int.zero_emod, ut] at h
      cases h
    rw [eq, cutN_eq (k := L.1) (Nat.le_refl _) (fun m h1 h2 => by omega) (.inr (by rw [ut]; decide))]
theorem va_ne {p : Int} {a b : Nat × (Nat → Int)} (hb : ∀ j, b.1 < j → b.2 j = 0) {z : Int} (h : va p (tm p a b) z ≠ 0) : va p a z ≠ 0 ∧ va p b z ≠ 0 := by
  rw [va_tm hb] at h
  refine ⟨fun e => h ?_, fun e => h ?_⟩
  · rw [e, Int.zero_mul, Int.zero_emod]
  · rw [e, Int.mul_zero, Int.zero_emod]
theorem mp_nat {p : Int} (pp : Pr p) {n : Nat} {f : Nat → Int} (h : MP p n f) (j : Nat) : (f j).natAbs ≤ 2 ^ 8 := by
  have h1 := h.rng j
  have h2 := pp.hi
  have : (2 : Nat) ^ 8 = 256 := rfl
  omega
theorem rd_p_lines_out : ∀ ds Q, φ_p_lines_out ds Q → tr_p_lines_out { nx := fun _ => Q (.pu .non), rt := Q } (init ["f", "p", "a", "l", "c", "o"] ds) := by
  rintro ds Q ⟨n, f, p, rfl, n4, pp, mp, h⟩
  have p2 := pp.lo
  have p3 := pp.hi
  unfold tr_p_lines_out
  show (uSeq _ _ : US) _ [some (.pu (rowD (rwF (n + 1) f))), some (.pu (.int p)), none, none, none, none]
  rw [uSeq_eq]
  walk_at "u"
  refine ⟨by decide, ?_⟩
  unfold tr_p_lines_out1
  rw [uSeq_eq]
  walk_at "u"
  unfold tr_p_lines_out2
  rw [uSeq_eq]
  refine uFor_intro p.toNat (fun i => .int (0 + i)) [some (.pu (rowD (rwF (n + 1) f))), some (.pu (.int p)), some (.ow []), some (.pu (rowD (rwF (n + 1) f))), none, none] ?_
    (fun i ρ => ∃ (cs : List (Int × Nat)) (L : Nat × (Nat → Int)) (x y : Option B), ρ = [some (.pu (rowD (rwF (n + 1) f))), some (.pu (.int p)), some (.ow (cs.map fun x => partD (lnP x))), some (.pu (rowD (rwF (L.1 + 1) L.2))), x, y] ∧ LK p (n, f) i cs L)
    ⟨[], (n, f), none, none, rfl, (tm_one (p := p) (a := (n, f)) mp).symm, mp, .nil, (by simp), (by simp), Nat.le_refl _⟩ ?_ ?_
  · intro Q' q
    walk_at "u"
    refine ⟨⟨by omega, by omega⟩, ?_⟩
    exact q
  · rintro i ρ hi ⟨cs, L, x, y, rfl, lk⟩
    have hLn : L.1 ≤ n := by
      have := congrArg Prod.fst lk.prod
      have e : n = (allT p oneF (cs.map lnP)).1 + L.1 := this
      omega
    have mcs := lin_mps p2 (cs := cs) (fun x hx => ⟨(lk.mem x hx).1, by have := (lk.mem x hx).2.1; omega⟩)
    have mA := MP.allT p2 (cs.map lnP) (MP.one p2) mcs
    have mlin := MP.lin p2 (c := (i : Int)) (by omega) (by omega)
    rw [Int.zero_add]
    walk_at "u"
    refine ⟨by simp, ?_⟩
    refine ⟨fun k ρ => ∃ (o : Nat) (L' : Nat × (Nat → Int)), ρ = [some (.pu (rowD (rwF (n + 1) f))), some (.pu (.int p)), some (.ow (cs.map fun x => partD (lnP x))), some (.pu (rowD (rwF (L'.1 + 1) L'.2))), some (.pu (.int (i : Int))), some (.pu (.int (o : Int)))] ∧ k = L'.1 ∧ L'.1 ≤ n ∧ (n, f) = tm p (powT p (allT p oneF (cs.map lnP)) (linF (i : Int)) o) L' ∧ MP p L'.1 L'.2 ∧ ∀ c : Nat, c < i → va p L' (-(c : Int)) ≠ 0, ⟨L.1, 0, L, rfl, rfl, hLn, lk.prod, lk.mp, lk.nr⟩, ?_⟩
    rintro k ρ ⟨o, L', rfl, rfl, hL', e, mp', nr⟩
    walk_at "u"
    refine ⟨L'.1 + 1, 8, 8, L'.2, -(i : Int), rfl, ⟨mp_nat pp mp', by have : (2 : Nat) ^ 8 = 256 := rfl; omega, by omega, by decide, by omega⟩, ?_⟩
    walk_at "u"
    refine ⟨by omega, ?_⟩
    rw [fmod_pos _ (by omega)]
    by_cases c : va p L' (-(i : Int)) = 0
    · rw [if_pos (show ps L'.2 (-(i : Int)) (L'.1 + 1) % p = 0 from c)]
      refine ⟨by decide, L'.1 + 1, 2, 1, L'.2, (linF (i : Int)).2, p, rfl, by omega, by decide, pp, fun j hj => mlin.hi j hj, by decide, fun j hj => by show (linF (i : Int)).2 j % p = 0; rw [mlin.hi j hj, Int.zero_emod], by show (1 : Int) % p ≠ 0; rw [Int.emod_eq_of_lt (by decide) (by omega)]; decide, fun t ht t0 t1 => ?_⟩
      obtain ⟨l1, u, mu, eu, er⟩ := line_out pp mp' (c := (i : Int)) (by omega) (by omega) c ht t0 t1
      dsimp only at er ⊢
      rw [er, atI_head]
      dsimp only
      have eL : rwF L'.1 u = rwF (L'.1 - 1 + 1) u := by rw [show L'.1 - 1 + 1 = L'.1 by omega]
      rw [eL]
      refine ⟨L'.1 - 1, by omega, o + 1, (L'.1 - 1, u), by rw [Int.natCast_succ], rfl, by show L'.1 - 1 ≤ n; omega, ?_, mu, fun c' hc' => ?_⟩
      · show (n, f) = tm p (tm p (powT p (allT p oneF (cs.map lnP)) (linF (i : Int)) o) (linF (i : Int))) (L'.1 - 1, u)
        rw [e]
        conv => lhs; rw [eu]
        rw [tm_comm (a := (L'.1 - 1, u)) (fun j hj => mu.hi j hj) mlin.hi, tm_assoc mlin.hi]
      · have := nr c' hc'
        rw [eu] at this
        exact (va_ne mlin.hi this).1
    · rw [if_neg (show ¬ ps L'.2 (-(i : Int)) (L'.1 + 1) % p = 0 from c)]
      have nr' : ∀ c : Nat, c < i + 1 → va p L' (-(c : Int)) ≠ 0 := fun c' hc' => by
        by_cases h1 : c' < i
        · exact nr c' h1
        · rw [show c' = i by omega]; exact c
      by_cases c2 : (0 : Int) < (o : Int)
      · rw [if_pos c2]
        refine ⟨by decide, by decide, ?_, cs ++ [((i : Int), o)], L', _, _, by rw [List.map_append]; rfl, ?_, mp', ?_, ?_, nr', ?_⟩
        · rw [List.length_map]
          exact Nat.lt_of_le_of_lt lk.len (Nat.lt_of_lt_of_le hi (Nat.le_trans (show p.toNat ≤ 200 by omega) (by decide)))
        · rw [List.map_append, allT_append]
          exact e
        · rw [List.pairwise_append]
          refine ⟨lk.asc, List.pairwise_singleton _ _, fun a ha b hb => ?_⟩
          rw [List.mem_singleton.mp hb]
          exact (lk.mem a ha).2.1
        · intro z hz
          rcases List.mem_append.mp hz with hz | hz
          · have := lk.mem z hz
            exact ⟨this.1, by omega, this.2.2⟩
          · rw [List.mem_singleton.mp hz]
            exact ⟨by show (0 : Int) ≤ (i : Int); omega, by show (i : Int) < ((i + 1 : Nat) : Int); omega, by show 1 ≤ o; omega⟩
        · rw [List.length_append]
          exact Nat.succ_le_succ lk.len
      · rw [if_neg c2]
        have o0 : o = 0 := by omega
        subst o0
        exact ⟨cs, L', _, _, rfl, e, mp', lk.asc, fun z hz => ⟨(lk.mem z hz).1, by have := (lk.mem z hz).2.1; omega, (lk.mem z hz).2.2⟩, nr', Nat.le_succ_of_le lk.len⟩
  · rintro ρ ⟨cs, L, x, y, rfl, lk⟩
    dsimp only
    unfold tr_p_lines_out3
    walk_at "u"
    exact ⟨by decide, h cs L lk⟩
end M
end
section
set_option Elab.async false
set_option linter.all false
set_option maxRecDepth 100000
open PySem L2 M
local macro_rules | `(tactic| walk_at "u") => `(tactic| simp only [uRev, gRev, uSlT, gSlT, uChain, uPop, uRevT, gMulT, gAny, uIsN, D.isN, gMaxL, uLook, uLookE, uAppZ, gSort2, uSeq, uSet, uRet, uRetN, uRetV, uIfS, uTst, uOp, uC, uVar, slotE, uVarV, slotV, uV, uIx, gIx, uLen, seqOf, uCall, uCons, uNil, uLst, uTup, uApp, ownAt, uNeg, gAdd, M.gSub, gMul, gDiv, gMod, gPow, gI2, gCmp, gEqB, isB, B.d, uAnd, uOr, uNot, uAndV, uOrV, uNotV, uName, uNext, uPar, uAug, uSl, uPart, uNoPart, gSl, gAbs, gMax, gMin, gToInt, gTupleOf, gListOf, gIsi, g1, g2, gInt, uSetI, uIf, gAll, gSum, uDrop, uAsg, uTupG, uGCons, uGNil, uRng1, uRng2, uRngD, uRevR, uZip, uEnum, uSeqI, lend, capEv, frzL, frz1, Option.bind_some, Option.bind_none, Option.map_some, Option.map_none, Option.join,
  List.getElem?_cons_zero, List.getElem?_cons_succ, List.set_cons_zero, List.set_cons_succ, List.length_cons, List.length_nil, decide_eq_true_eq, Bool.false_xor, Bool.true_xor, Bool.not_eq_true', decide_eq_false_iff_not, if_true, if_false, reduceCtorEq])
namespace M
def quF (v u : Int) : Nat × (Nat → Int) := (2, fun j => if j = 0 then v else if j = 1 then u else if j = 2 then 1 else 0)
theorem MP.qu {p v u : Int} (hp : 2 ≤ p) (v0 : 0 ≤ v) (v1 : v < p) (u0 : 0 ≤ u) (u1 : u < p) : MP p (quF v u).1 (quF v u).2 := ⟨rfl, fun j hj => by
    have : 2 < j := hj
    show (if j = 0 then v else if j = 1 then u else if j = 2 then 1 else 0) = 0
    rw [if_neg (by omega), if_neg (by omega), if_neg (by omega)], fun j => by
    show 0 ≤ (if j = 0 then v else if j = 1 then u else if j = 2 then 1 else 0) ∧ (if j = 0 then v else if j = 1 then u else if j = 2 then 1 else 0) < p
    split
    · omega
    · split
      · omega
      · split <;> omega⟩
theorem conv_qu (v u w s : Int) : conv (quF v u).2 (quF w s).2 3 0 = v * w ∧ conv (quF v u).2 (quF w s).2 3 1 = v * s + u * w ∧ conv (quF v u).2 (quF w s).2 3 2 = v + u * s + w ∧ conv (quF v u).2 (quF w s).2 3 3 = u + s := by
  refine ⟨?_, ?_, ?_, ?_⟩ <;> simp [conv, shF, quF]
theorem tm_qu {p : Int} {f : Nat → Int} (mp : MP p 4 f) {v u w s : Int} (m1 : MP p (quF v u).1 (quF v u).2) (m2 : MP p (quF w s).1 (quF w s).2) (hp : 2 ≤ p) :
    ((4, f) : Nat × (Nat → Int)) = tm p (quF v u) (quF w s) ↔ f 0 = v * w % p ∧ f 1 = (v * s + u * w) % p ∧ f 2 = (v + u * s + w) % p ∧ f 3 = (u + s) % p := by
  obtain ⟨e0, e1, e2, e3⟩ := conv_qu v u w s
  have mt := MP.tm hp m1 m2
  constructor
  · intro e
    have h : ∀ m, f m = conv (quF v u).2 (quF w s).2 3 m % p := fun m => congrFun (congrArg Prod.snd e) m
    exact ⟨by rw [h 0, e0], by rw [h 1, e1], by rw [h 2, e2], by rw [h 3, e3]⟩
  · rintro ⟨h0, h1, h2, h3⟩
    refine Prod.ext rfl (funext fun m => ?_)
    show f m = conv (quF v u).2 (quF w s).2 3 m % p
    match m with
    | 0 => rw [h0, e0]
    | 1 => rw [h1, e1]
    | 2 => rw [h2, e2]
    | 3 => rw [h3, e3]
    | 4 => exact mp.top.trans mt.top.symm
    | m + 5 => exact (mp.hi _ (by omega)).trans (mt.hi (m + 5) (show 2 + 2 < m + 5 by omega)).symm
def NoQ (p : Int) (F : Nat × (Nat → Int)) : Prop := ∀ v u w s : Int, 0 ≤ v → v < p → 0 ≤ u → u < p → 0 ≤ w → w < p → 0 ≤ s → s < p → F ≠ tm p (quF v u) (quF w s)
def φ_p_two_by_two : Φ := fun ds Q => ∃ (f : Nat → Int) (p : Int), ds = [rowD (rwF 5 f), .int p] ∧ Pr p ∧ MP p 4 f ∧
  (∀ v u w s : Int, 0 ≤ v → v < p → 0 ≤ u → u < p → 0 ≤ w → w < p → 0 ≤ s → s < p → ((4, f) : Nat × (Nat → Int)) = tm p (quF v u) (quF w s) → Q (.ow [rowD [v, u, 1], rowD [w, s, 1]])) ∧ (NoQ p (4, f) → Q (.ow []))
def tr_p_two_by_two1 : US := (uRet (uLst uNil))
def tr_p_two_by_two : US := (uSeq (uFor (uRng1 (uCons (uVar 1) uNil)) (uName 2) (uSeq (uSet 3 (uOp gMod (uOp M.gSub (uIx (uVarV 0) (uC (.int 3))) (uVar 2)) (uVar 1))) (uSeq (uSet 4 (uOp M.gSub (uIx (uVarV 0) (uC (.int 2))) (uOp gMul (uVar 2) (uVar 3)))) (uFor (uRng1 (uCons (uVar 1) uNil)) (uName 5) (uSeq (uSet 6 (uOp gMod (uOp M.gSub (uVar 4) (uVar 5)) (uVar 1))) (uIfS (uAnd (uTst (uOp (gEqB false) (uOp gMod (uOp gMul (uVar 5) (uVar 6)) (uVar 1)) (uIx (uVarV 0) (uC (.int 0))))) (uTst (uOp (gEqB false) (uOp gMod (uOp gAdd (uOp gMul (uVar 2) (uVar 6)) (uOp gMul (uVar 5) (uVar 3))) (uVar 1)) (uIx (uVarV 0) (uC (.int 1)))))) (uRet (uLst (uCons (uTup (uCons (uVar 5) (uCons (uVar 2) (uCons (uC (.int 1)) uNil)))) (uCons (uTup (uCons (uVar 6) (uCons (uVar 3) (uCons (uC (.int 1)) uNil)))) uNil)))) uNext)))))) tr_p_two_by_two1)
theorem len_p_two_by_two : ∀ ds Q, φ_p_two_by_two ds Q → ds.length = 2 := by rintro ds Q ⟨f, p, rfl, _⟩; rfl
def hitQ (p : Int) (f : Nat → Int) (u v : Int) : Prop := v * ((f 2 - u * ((f 3 - u) % p) - v) % p) % p = f 0 ∧ (u * ((f 2 - u * ((f 3 - u) % p) - v) % p) + v * ((f 3 - u) % p)) % p = f 1
theorem sub_back {p a b x : Int} (h0 : 0 ≤ a) (h1 : a < p) (h : x = (a + b) % p) : (x - b) % p = a := by
  rw [h, Int.sub_emod, Int.emod_emod, ← Int.sub_emod, Int.add_sub_cancel]
  exact Int.emod_eq_of_lt h0 h1
theorem rd_p_two_by_two : ∀ ds Q, φ_p_two_by_two ds Q → tr_p_two_by_two { nx := fun _ => Q (.pu .non), rt := Q } (init ["f", "p", "u", "s", "t", "v", "w"] ds) := by
  rintro ds Q ⟨f, p, rfl, pp, mp, yes, no⟩
  have p2 := pp.lo
  have p3 := pp.hi
  have a0 : atI ((rwF 5 f).map D.int) 0 = some (.int (f 0)) := rwF_at (i := 0) (by decide)
  have a1 : atI ((rwF 5 f).map D.int) 1 = some (.int (f 1)) := rwF_at (i := 1) (by decide)
  have a2 : atI ((rwF 5 f).map D.int) 2 = some (.int (f 2)) := rwF_at (i := 2) (by decide)
  have a3 : atI ((rwF 5 f).map D.int) 3 = some (.int (f 3)) := rwF_at (i := 3) (by decide)
  unfold tr_p_two_by_two
  simp only [rowD]
  show (uSeq _ _ : US) _ [some (.pu (.tup ((rwF 5 f).map .int))), some (.pu (.int p)), none, none, none, none, none]
  rw [uSeq_eq]
  refine uFor_intro p.toNat (fun i => .int (0 + i)) [some (.pu (.tup ((rwF 5 f).map .int))), some (.pu (.int p)), none, none, none, none, none] ?_
    (fun i ρ => ∃ x y z a b, ρ = [some (.pu (.tup ((rwF 5 f).map .int))), some (.pu (.int p)), x, y, z, a, b] ∧ ∀ u v : Nat, u < i → v < p.toNat → ¬ hitQ p f (u : Int) (v : Int))
    ⟨none, none, none, none, none, rfl, fun u v hu => by omega⟩ ?_ ?_
  · intro Q' q
    walk_at "u"
    refine ⟨⟨by omega, by omega⟩, ?_⟩
    exact q
  · rintro i ρ hi ⟨x, y, z, a, b, rfl, nh⟩
    rw [Int.zero_add]
    walk_at "u"
    rw [a3]
    dsimp only
    refine ⟨by simp, by omega, ?_⟩
    rw [fmod_pos _ (by omega), a2]
    dsimp only
    have s0 := Int.emod_nonneg (f 3 - (i : Int)) (show p ≠ 0 by omega)
    have s1 := Int.emod_lt_of_pos (f 3 - (i : Int)) (show 0 < p by omega)
    generalize hS : (f 3 - (i : Int)) % p = S at *
    refine ⟨cmL (by omega) (by omega), ?_⟩
    refine uFor_intro p.toNat (fun i => .int (0 + i)) [some (.pu (.tup ((rwF 5 f).map .int))), some (.pu (.int p)), some (.pu (.int (i : Int))), some (.pu (.int S)), some (.pu (.int (f 2 - (i : Int) * S))), a, b] ?_
      (fun j ρ => ∃ a b, ρ = [some (.pu (.tup ((rwF 5 f).map .int))), some (.pu (.int p)), some (.pu (.int (i : Int))), some (.pu (.int S)), some (.pu (.int (f 2 - (i : Int) * S))), a, b] ∧ ∀ v : Nat, v < j → ¬ hitQ p f (i : Int) (v : Int))
      ⟨a, b, rfl, fun v hv => by omega⟩ ?_ ?_
    · intro Q' q
      walk_at "u"
      refine ⟨⟨by omega, by omega⟩, ?_⟩
      exact q
    · rintro j ρ hj ⟨a, b, rfl, nj⟩
      rw [Int.zero_add]
      walk_at "u"
      refine ⟨by simp, by omega, ?_⟩
      rw [fmod_pos _ (by omega)]
      have w0 := Int.emod_nonneg (f 2 - (i : Int) * S - (j : Int)) (show p ≠ 0 by omega)
      have w1 := Int.emod_lt_of_pos (f 2 - (i : Int) * S - (j : Int)) (show 0 < p by omega)
      generalize hW : (f 2 - (i : Int) * S - (j : Int)) % p = W at *
      refine ⟨cmL (by omega) (by omega), by omega, ?_⟩
      rw [fmod_pos _ (by omega), a0]
      dsimp only
      have step : ¬ hitQ p f (i : Int) (j : Int) → ∃ a b, [some (B.pu (.tup ((rwF 5 f).map .int))), some (.pu (.int p)), some (.pu (.int (i : Int))), some (.pu (.int S)), some (.pu (.int (f 2 - (i : Int) * S))), some (.pu (.int (j : Int))), some (.pu (.int W))] = [some (.pu (.tup ((rwF 5 f).map .int))), some (.pu (.int p)), some (.pu (.int (i : Int))), some (.pu (.int S)), some (.pu (.int (f 2 - (i : Int) * S))), a, b] ∧ ∀ v : Nat, v < j + 1 → ¬ hitQ p f (i : Int) (v : Int) := fun nh' => ⟨_, _, rfl, fun v hv => by
        by_cases h1 : v < j
        · exact nj v h1
        · rw [show v = j by omega]; exact nh'⟩
      by_cases c1 : (j : Int) * W % p = f 0
      · rw [if_pos c1]
        refine ⟨cmL (by omega) (by omega), cmL (by omega) (by omega), by omega, ?_⟩
        rw [fmod_pos _ (by omega), a1]
        dsimp only
        by_cases c2 : ((i : Int) * W + (j : Int) * S) % p = f 1
        · rw [if_pos c2]
          refine ⟨by decide, by decide, by decide, yes (j : Int) (i : Int) W S (by omega) (by omega) (by omega) (by omega) w0 w1 s0 s1 ((tm_qu mp (MP.qu p2 (by omega) (by omega) (by omega) (by omega)) (MP.qu p2 w0 w1 s0 s1) p2).mpr ⟨c1.symm, by rw [← c2, Int.add_comm], ?_, ?_⟩)⟩
          · rw [← hW, Int.add_emod, Int.emod_emod, ← Int.add_emod]
            have : (j : Int) + (i : Int) * S + (f 2 - (i : Int) * S - (j : Int)) = f 2 := by omega
            rw [this]
            exact (Int.emod_eq_of_lt (mp.rng 2).1 (mp.rng 2).2).symm
          · rw [← hS, Int.add_emod, Int.emod_emod, ← Int.add_emod]
            have : (i : Int) + (f 3 - (i : Int)) = f 3 := by omega
            rw [this]
            exact (Int.emod_eq_of_lt (mp.rng 3).1 (mp.rng 3).2).symm
        · rw [if_neg c2]
          exact step fun z => c2 (by have := z.2; unfold hitQ at z; rw [hS, hW] at this; exact this)
      · rw [if_neg c1]
        exact step fun z => c1 (by have := z.1; rw [hS, hW] at this; exact this)
    · rintro ρ ⟨a, b, rfl, nj⟩
      refine ⟨_, _, _, _, _, rfl, fun u v hu hv => ?_⟩
      by_cases h1 : u < i
      · exact nh u v h1 hv
      · rw [show u = i by omega]; exact nj v hv
  · rintro ρ ⟨x, y, z, a, b, rfl, nh⟩
    dsimp only
    unfold tr_p_two_by_two1
    walk_at "u"
    refine ⟨by decide, no ?_⟩
    intro v u w s v0 v1 u0 u1 w0 w1 s0 s1 e
    obtain ⟨h0, h1, h2, h3⟩ := (tm_qu mp (MP.qu p2 v0 v1 u0 u1) (MP.qu p2 w0 w1 s0 s1) p2).mp e
    obtain ⟨v', rfl⟩ : ∃ v' : Nat, v = (v' : Int) := ⟨v.toNat, by omega⟩
    obtain ⟨u', rfl⟩ : ∃ u' : Nat, u = (u' : Int) := ⟨u.toNat, by omega⟩
    refine nh u' v' (by omega) (by omega) ?_
    have es : (f 3 - (u' : Int)) % p = s := sub_back s0 s1 (by rw [h3, Int.add_comm])
    have ew : (f 2 - (u' : Int) * s - (v' : Int)) % p = w := by
      have := sub_back (x := f 2) (b := (v' : Int) + (u' : Int) * s) w0 w1 (by rw [h2, Int.add_comm w])
      rw [← this]
      congr 1
      omega
    unfold hitQ
    rw [es, ew]
    exact ⟨h0.symm, by rw [h1, Int.add_comm]⟩
theorem at0 {a b : D} : atI [a, b] 0 = some a := atI_nat (j := 0) rfl
theorem at1 {a b : D} : atI [a, b] 1 = some b := atI_nat (j := 1) rfl
def NoR (p : Int) (F : Nat × (Nat → Int)) : Prop := ∀ c : Nat, c < p.toNat → va p F (-(c : Int)) ≠ 0
def ltP (x y : (Nat × (Nat → Int)) × Nat) : Prop := x.1.1 < y.1.1 ∨ (x.1.1 = y.1.1 ∧ ltL (rwF (x.1.1 + 1) x.1.2) (rwF (y.1.1 + 1) y.1.2) = true)
structure RL (p : Int) (F : Nat × (Nat → Int)) (rs : List ((Nat × (Nat → Int)) × Nat)) : Prop where
  prod : ∀ a : Nat × (Nat → Int), MP p a.1 a.2 → allT p a rs = tm p a F
  mem : ∀ x ∈ rs, MP p x.1.1 x.1.2 ∧ 2 ≤ x.1.1 ∧ x.1.1 ≤ 4 ∧ 1 ≤ x.2 ∧ x.2 ≤ 2 ∧ NoR p x.1 ∧ (x.1.1 = 4 → NoQ p x.1)
  ord : rs.Pairwise ltP
  len : rs.length ≤ 2
theorem tm_one' {p : Int} (hp : 2 ≤ p) {a : Nat × (Nat → Int)} (ha : MP p a.1 a.2) : tm p a oneF = a := by
  rw [tm_comm ha.hi (MP.one hp).hi, tm_one ha]
theorem RL.single {p : Int} {F : Nat × (Nat → Int)} (mp : MP p F.1 F.2) (h2 : 2 ≤ F.1) (h4 : F.1 ≤ 4) (nr : NoR p F) (nq : F.1 = 4 → NoQ p F) : RL p F [(F, 1)] :=
  ⟨fun a _ => rfl, fun x hx => by rw [List.mem_singleton.mp hx]; exact ⟨mp, h2, h4, Nat.le_refl _, show 1 ≤ 2 by decide, nr, nq⟩, List.pairwise_singleton _ _, show 1 ≤ 2 by decide⟩
theorem row_lt {v u w s : Int} (h : ¬ (v = w ∧ u = s)) : ltL [w, s, 1] [v, u, 1] = false → ltL [v, u, 1] [w, s, 1] = true := by
  unfold ltL
  by_cases c : v = w
  · rw [if_pos c, if_pos c.symm]
    unfold ltL
    have : u ≠ s := fun z => h ⟨c, z⟩
    rw [if_neg this, if_neg (fun z => this z.symm)]
    simp only [decide_eq_false_iff_not, decide_eq_true_eq]
    omega
  · rw [if_neg c, if_neg (fun z => c z.symm)]
    simp only [decide_eq_false_iff_not, decide_eq_true_eq]
    omega
def φ_p_rootless_parts : Φ := fun ds Q => ∃ (n : Nat) (f : Nat → Int) (p : Int), ds = [rowD (rwF (n + 1) f), .int p] ∧ n ≤ 4 ∧ Pr p ∧ MP p n f ∧ NoR p (n, f) ∧ ∀ rs, RL p (n, f) rs → Q (.ow (rs.map partD))
def tr_p_rootless_parts4 : US := (uRet (uComp [] [none, none] 1 (uSeqI (uCall gSort2 (uCons (uVar 2) uNil))) (uName 0) (fun ρ Q => Q true ρ) (uTup (uCons (uVar 0) (uCons (uC (.int 1)) uNil)))))
def tr_p_rootless_parts3 : US := (uSeq (uIfS (uTst (uOp (gEqD false) (uIx (uVarV 2) (uC (.int 0))) (uIx (uVarV 2) (uC (.int 1))))) (uRet (uLst (uCons (uTup (uCons (uIx (uVarV 2) (uC (.int 0))) (uCons (uC (.int 2)) uNil))) uNil))) uNext) tr_p_rootless_parts4)
def tr_p_rootless_parts2 : US := (uSeq (uIfS (uTst (uOp (gEqB false) (uLen (uVarV 2)) (uC (.int 0)))) (uRet (uLst (uCons (uTup (uCons (uVar 0) (uCons (uC (.int 1)) uNil))) uNil))) uNext) tr_p_rootless_parts3)
def tr_p_rootless_parts1 : US := (uSeq (uSet 2 (uIf (uTst (uOp (gEqB false) (uLen (uVarV 0)) (uC (.int 5)))) (uCall φ_p_two_by_two (uCons (uVar 0) (uCons (uVar 1) uNil))) (uLst uNil))) tr_p_rootless_parts2)
def tr_p_rootless_parts : US := (uSeq (uIfS (uTst (uOp (gEqB false) (uLen (uVarV 0)) (uC (.int 1)))) (uRet (uLst uNil)) uNext) tr_p_rootless_parts1)
theorem len_p_rootless_parts : ∀ ds Q, φ_p_rootless_parts ds Q → ds.length = 2 := by rintro ds Q ⟨n, f, p, rfl, _⟩; rfl
theorem one_root {p : Int} (pp : Pr p) {F : Nat × (Nat → Int)} (mp : MP p F.1 F.2) (h1 : F.1 = 1) (nr : NoR p F) : False := by
  have p2 := pp.lo
  have r := mp.rng 0
  refine nr (F.2 0).toNat (by omega) ?_
  unfold va
  rw [h1, show (((F.2 0).toNat : Nat) : Int) = F.2 0 by omega]
  have t : F.2 1 = 1 := by have := mp.top; rw [h1] at this; exact this
  show (0 + F.2 0 * (-F.2 0) ^ 0 + F.2 1 * (-F.2 0) ^ 1) % p = 0
  rw [t, Int.pow_zero, Int.pow_succ, Int.pow_zero]
  have : 0 + F.2 0 * 1 + 1 * (1 * -F.2 0) = 0 := by omega
  rw [this, Int.zero_emod]
theorem rd_p_rootless_parts : ∀ ds Q, φ_p_rootless_parts ds Q → tr_p_rootless_parts { nx := fun _ => Q (.pu .non), rt := Q } (init ["f", "p", "a"] ds) := by
  rintro ds Q ⟨n, f, p, rfl, n4, pp, mp, nr, h⟩
  have p2 := pp.lo
  unfold tr_p_rootless_parts
  simp only [rowD]
  show (uSeq _ _ : US) _ [some (.pu (.tup ((rwF (n + 1) f).map .int))), some (.pu (.int p)), none]
  rw [uSeq_eq]
  walk_at "u"
  rw [rwF_mlen]
  by_cases n0 : n = 0
  · rw [if_pos (by omega)]
    subst n0
    refine ⟨by decide, h [] ⟨fun a ha => ?_, by simp, .nil, by decide⟩⟩
    have e : ((0, f) : Nat × (Nat → Int)) = oneF := Prod.ext rfl (funext fun j => by
      show f j = if j = 0 then 1 else 0
      by_cases c : j = 0
      · rw [if_pos c, c]; exact mp.top
      · rw [if_neg c]; exact mp.hi j (by omega))
    rw [e, tm_one' p2 ha]
    rfl
  rw [if_neg (by omega)]
  have n1 : n ≠ 1 := fun z => one_root pp (F := (n, f)) mp z nr
  have alone : (n = 4 → NoQ p (n, f)) → tr_p_rootless_parts2 { nx := fun _ => Q (.pu .non), rt := Q } [some (.pu (.tup ((rwF (n + 1) f).map .int))), some (.pu (.int p)), some (.ow [])] := fun nq => by
    unfold tr_p_rootless_parts2
    rw [uSeq_eq]
    walk_at "u"
    rw [if_pos (by rfl)]
    exact ⟨by decide, by decide, h [((n, f), 1)] (RL.single mp (by show 2 ≤ n; omega) n4 nr nq)⟩
  unfold tr_p_rootless_parts1
  rw [uSeq_eq]
  walk_at "u"
  simp only [uIf, uLen, uVarV, slotV, uC, isB, B.d, seqOf, gEqB, List.getElem?_cons_zero, rwF_mlen]
  by_cases c : n = 4
  · subst c
    rw [if_pos (by rfl)]
    refine ⟨f, p, rfl, pp, mp, fun v u w s v0 v1 u0 u1 w0 w1 s0 s1 e => ?_, fun nq => ?_⟩
    · have m1 := MP.qu p2 v0 v1 u0 u1
      have m2 := MP.qu p2 w0 w1 s0 s1
      have k1 : NoR p (quF v u) := fun c hc => by have := nr c hc; rw [e] at this; exact (va_ne m2.hi this).1
      have k2 : NoR p (quF w s) := fun c hc => by have := nr c hc; rw [e] at this; exact (va_ne m2.hi this).2
      dsimp only
      simp only [rowD]
      unfold tr_p_rootless_parts2
      rw [uSeq_eq]
      walk_at "u"
      rw [if_neg (by decide)]
      unfold tr_p_rootless_parts3
      rw [uSeq_eq]
      walk_at "u"
      rw [at0, at1]
      dsimp only
      refine gEqD_row ?_
      by_cases c : [v, u, (1 : Int)] = [w, s, 1]
      · have c1 : v = w := by simp at c; exact c.1
        have c2 : u = s := by simp at c; exact c.2
        subst c1 c2
        rw [decide_eq_true rfl]
        dsimp only
        rw [if_pos (by decide)]
        refine ⟨by decide, by decide, h [(quF v u, 2)] ⟨fun a ha => ?_, fun x hx => ?_, List.pairwise_singleton _ _, show 1 ≤ 2 by decide⟩⟩
        · show tm p (tm p a (quF v u)) (quF v u) = tm p a (4, f)
          rw [e, tm_assoc m1.hi]
        · rw [List.mem_singleton.mp hx]
          exact ⟨m1, Nat.le_refl _, show 2 ≤ 4 by decide, show 1 ≤ 2 by decide, Nat.le_refl _, k1, fun z => by cases z⟩
      · rw [decide_eq_false c]
        dsimp only
        rw [if_neg (by decide)]
        have nc : ¬ (v = w ∧ u = s) := fun z => c (by rw [z.1, z.2])
        unfold tr_p_rootless_parts4
        rw [uRet_eq]
        have fin2 : ∀ (v u w s : Int), MP p (quF v u).1 (quF v u).2 → MP p (quF w s).1 (quF w s).2 → NoR p (quF v u) → NoR p (quF w s) → ((4, f) : Nat × (Nat → Int)) = tm p (quF v u) (quF w s) → ltL [v, u, 1] [w, s, 1] = true → Q (.ow [.tup [.tup ([v, u, 1].map D.int), .int 1], .tup [.tup ([w, s, 1].map D.int), .int 1]]) := fun v u w s m1 m2 k1 k2 e lt => by
          refine h [(quF v u, 1), (quF w s, 1)] ⟨fun a ha => ?_, fun x hx => ?_, ?_, Nat.le_refl _⟩
          · show tm p (tm p a (quF v u)) (quF w s) = tm p a (4, f)
            rw [e, tm_assoc m1.hi]
          · rcases List.mem_cons.mp hx with rfl | hx
            · exact ⟨m1, Nat.le_refl _, show 2 ≤ 4 by decide, Nat.le_refl _, show 1 ≤ 2 by decide, k1, fun z => by cases z⟩
            · rw [List.mem_singleton.mp hx]
              exact ⟨m2, Nat.le_refl _, show 2 ≤ 4 by decide, Nat.le_refl _, show 1 ≤ 2 by decide, k2, fun z => by cases z⟩
          · refine List.pairwise_cons.mpr ⟨fun y hy => ?_, List.pairwise_singleton _ _⟩
            rw [List.mem_singleton.mp hy]
            exact .inr ⟨rfl, lt⟩
        refine uComp_map (t0 := 0) 2 (fun k => (if ltL [w, s, 1] [v, u, 1] = true then [D.tup ([w, s, 1].map D.int), .tup ([v, u, 1].map D.int)] else [.tup ([v, u, 1].map D.int), .tup ([w, s, 1].map D.int)]).getD k .non) [some (.pu (.tup ((rwF (4 + 1) f).map .int))), some (.pu (.int p)), some (.pu (.lst [.tup ([v, u, 1].map D.int), .tup ([w, s, 1].map D.int)]))] ?_ (by decide) (fun x l' => [x, some (.ow l')]) none rfl (fun _ _ _ => rfl) (fun _ _ => Nat.zero_lt_succ _) (fun _ _ _ q => q) (fun _ _ _ => rfl)
          (fun k => .tup [(if ltL [w, s, 1] [v, u, 1] = true then [D.tup ([w, s, 1].map D.int), .tup ([v, u, 1].map D.int)] else [.tup ([v, u, 1].map D.int), .tup ([w, s, 1].map D.int)]).getD k .non, .int 1]) ?_ ?_
        · intro Q' q
          walk_at "u"
          refine ⟨v, w, [u, 1], [s, 1], rfl, ?_⟩
          cases l : ltL [w, s, 1] [v, u, 1]
          · rw [l] at q; exact q
          · rw [l] at q; exact q
        · intro k l' Q' hk q
          walk_at "u"
          exact ⟨by decide, q⟩
        · cases l : ltL [w, s, 1] [v, u, 1]
          · exact fin2 v u w s m1 m2 k1 k2 e (row_lt nc l)
          · exact fin2 w s v u m2 m1 k2 k1 (by rw [e, tm_comm m1.hi m2.hi]) l
    · exact alone fun _ => nq
  · rw [if_neg (by simp; omega)]
    refine ⟨by decide, ?_⟩
    exact alone fun z => absurd z c
structure SP (p : Int) (F : Nat × (Nat → Int)) (xs : List ((Nat × (Nat → Int)) × Nat)) : Prop where
  prod : allT p oneF xs = F
  mem : ∀ x ∈ xs, MP p x.1.1 x.1.2 ∧ 1 ≤ x.1.1 ∧ x.1.1 ≤ 4 ∧ 1 ≤ x.2 ∧ x.2 ≤ 4 ∧ (2 ≤ x.1.1 → NoR p x.1) ∧ (x.1.1 = 4 → NoQ p x.1)
  ord : xs.Pairwise ltP
  len : xs.length ≤ 300
theorem SP.of {p : Int} (pp : Pr p) {F L : Nat × (Nat → Int)} {cs : List (Int × Nat)} {rs : List ((Nat × (Nat → Int)) × Nat)} (h4 : F.1 ≤ 4) (lk : LK p F p.toNat cs L) (rl : RL p L rs) : SP p F (cs.map lnP ++ rs) := by
  have p2 := pp.lo
  have p3 := pp.hi
  have rg : ∀ x ∈ cs, 0 ≤ x.1 ∧ x.1 < p := fun x hx => ⟨(lk.mem x hx).1, by have := (lk.mem x hx).2.1; omega⟩
  have mcs := lin_mps p2 rg
  have mA := MP.allT p2 (cs.map lnP) (MP.one p2) mcs
  refine ⟨by rw [allT_append, rl.prod _ mA]; exact lk.prod.symm, fun x hx => ?_, ?_, ?_⟩
  · rcases List.mem_append.mp hx with hx | hx
    · obtain ⟨y, hy, rfl⟩ := List.mem_map.mp hx
      have hd := allT_deg p (cs.map lnP) oneF (lnP y) hx
      have e : F.1 = (allT p oneF (cs.map lnP)).1 + L.1 := congrArg Prod.fst lk.prod
      have hd' : 0 + 1 * y.2 ≤ (allT p oneF (cs.map lnP)).1 := hd
      refine ⟨mcs _ hx, Nat.le_refl _, show 1 ≤ 4 by decide, (lk.mem y hy).2.2, show y.2 ≤ 4 by omega, fun z => ?_, fun z => ?_⟩
      · have : 2 ≤ 1 := z
        omega
      · have : 1 = 4 := z
        omega
    · obtain ⟨a, b, c, d, e, f, g⟩ := rl.mem x hx
      exact ⟨a, by omega, c, d, by omega, fun _ => f, g⟩
  · rw [List.pairwise_append]
    refine ⟨?_, rl.ord, fun x hx y hy => ?_⟩
    · rw [List.pairwise_map]
      refine lk.asc.imp fun {a b} h => .inr ⟨rfl, ?_⟩
      show ltL [a.1, 1] [b.1, 1] = true
      unfold ltL
      rw [if_neg (by omega), decide_eq_true h]
    · obtain ⟨z, hz, rfl⟩ := List.mem_map.mp hx
      have := (rl.mem y hy).2.1
      exact .inl (show 1 < y.1.1 by omega)
  · have a := lk.len
    have b := rl.len
    rw [List.length_append, List.length_map]
    omega
def φ_p_split_by : Φ := fun ds Q => ∃ (n : Nat) (g : Nat → Int) (p : Int), ds = [rowD (rwF (n + 1) g), .int p] ∧ n ≤ 4 ∧ p ∈ prL ∧ MP p n (md p g) ∧ ∀ xs, SP p (n, md p g) xs → Q (.ow (xs.map partD))
def tr_p_split_by2 : US := (uRet (uOp gAdd (uVar 2) (uCall φ_p_rootless_parts (uCons (uVar 3) (uCons (uVar 1) uNil)))))
def tr_p_split_by1 : US := (uSeq (uAsg (uCall φ_p_lines_out (uCons (uCall φ_p_mod_poly (uCons (uVar 0) (uCons (uVar 1) uNil))) (uCons (uVar 1) uNil))) (uTupG (uGCons 2 (uGCons 3 uGNil)))) tr_p_split_by2)
def tr_p_split_by : US := (uSeq (uIfS (uTst (uOp (gIn true) (uVar 1) (uCall φ_p_small_primes uNil))) (fun _ _ => False) uNext) tr_p_split_by1)
theorem len_p_split_by : ∀ ds Q, φ_p_split_by ds Q → ds.length = 2 := by rintro ds Q ⟨n, f, p, rfl, _⟩; rfl
theorem rd_p_split_by : ∀ ds Q, φ_p_split_by ds Q → tr_p_split_by { nx := fun _ => Q (.pu .non), rt := Q } (init ["f", "p", "a", "l"] ds) := by
  rintro ds Q ⟨n, g, p, rfl, n4, hp, mp, h⟩
  have pp := prL_ok hp
  have p2 := pp.lo
  unfold tr_p_split_by
  show (uSeq _ _ : US) _ [some (.pu (rowD (rwF (n + 1) g))), some (.pu (.int p)), none, none]
  rw [uSeq_eq]
  walk_at "u"
  refine ⟨rfl, p, T_SMALL_PRIMES, rfl, .inr (.inl rfl), ?_⟩
  rw [decide_eq_true (show p ∈ T_SMALL_PRIMES by rw [← prL_eq]; exact hp)]
  dsimp only
  rw [if_neg (by decide)]
  unfold tr_p_split_by1
  rw [uSeq_eq]
  walk_at "u"
  refine ⟨n + 1, g, p, rfl, by omega, by omega, ?_⟩
  walk_at "u"
  have e : cutN (md p g) (n + 1) = n + 1 := cutN_eq (Nat.le_refl _) (fun m h1 h2 => by omega) (.inr (by rw [Nat.add_sub_cancel, mp.top]; decide))
  rw [e]
  refine ⟨n, md p g, p, rfl, by omega, pp, mp, fun cs L lk => ?_⟩
  walk_at "u"
  refine ⟨by decide, by decide, trivial, ?_⟩
  unfold tr_p_split_by2
  rw [uRet_eq, uOp_eq]
  walk_at "u"
  have hL : L.1 ≤ 4 := by
    have e : n = (allT p oneF (cs.map lnP)).1 + L.1 := congrArg Prod.fst lk.prod
    omega
  refine ⟨L.1, L.2, p, rfl, hL, pp, lk.mp, lk.nr, fun rs rl => ?_⟩
  have sp := SP.of pp (F := (n, md p g)) n4 lk rl
  have e2 : (cs.map fun x => partD (lnP x)) ++ rs.map partD = (cs.map lnP ++ rs).map partD := by rw [List.map_append, List.map_map]; rfl
  walk_at "u"
  rw [e2]
  refine ⟨?_, h _ sp⟩
  rw [← List.length_append, e2, List.length_map]
  exact Nat.le_trans sp.len (by decide)
def stB (xs : List ((Nat × (Nat → Int)) × Nat)) : Bool := match xs with
  | [x] => decide (x.2 = 1)
  | _ => false
def φ_p_stays : Φ := fun ds Q => ∃ (n : Nat) (g : Nat → Int) (p : Int), ds = [rowD (rwF (n + 1) g), .int p] ∧ n ≤ 4 ∧ p ∈ prL ∧ MP p n (md p g) ∧ ∀ xs, SP p (n, md p g) xs → Q (.pu (.bl (stB xs)))
def tr_p_stays1 : US := (uRet (uAndV (uOp (gEqB false) (uLen (uVarV 2)) (uC (.int 1))) (uOp (gEqB false) (uIx (uV (uIx (uVarV 2) (uC (.int 0)))) (uC (.int 1))) (uC (.int 1)))))
def tr_p_stays : US := (uSeq (uSet 2 (uCall φ_p_split_by (uCons (uVar 0) (uCons (uVar 1) uNil)))) tr_p_stays1)
theorem len_p_stays : ∀ ds Q, φ_p_stays ds Q → ds.length = 2 := by rintro ds Q ⟨n, f, p, rfl, _⟩; rfl
theorem rd_p_stays : ∀ ds Q, φ_p_stays ds Q → tr_p_stays { nx := fun _ => Q (.pu .non), rt := Q } (init ["f", "p", "a"] ds) := by
  rintro ds Q ⟨n, g, p, rfl, n4, hp, mp, h⟩
  unfold tr_p_stays
  show (uSeq _ _ : US) _ [some (.pu (rowD (rwF (n + 1) g))), some (.pu (.int p)), none]
  rw [uSeq_eq]
  walk_at "u"
  refine ⟨n, g, p, rfl, n4, hp, mp, fun xs sp => ?_⟩
  have h := h xs sp
  unfold tr_p_stays1
  walk_at "u"
  rw [List.length_map]
  match xs, h with
  | [], h =>
    rw [if_neg (by decide)]
    exact h
  | [x], h =>
    rw [if_pos (by rfl)]
    simp only [List.map_cons, List.map_nil, atI_head, partD, at1]
    have e : decide ((x.2 : Int) = 1) = stB [x] := by
      show _ = decide (x.2 = 1)
      by_cases c : x.2 = 1
      · rw [decide_eq_true c, decide_eq_true (by omega)]
      · rw [decide_eq_false c, decide_eq_false (by omega)]
    rw [e]
    exact h
  | x :: y :: r, h =>
    rw [if_neg (by simp; omega)]
    exact h
end M
end
section
set_option Elab.async false
set_option linter.all false
set_option maxRecDepth 100000
open PySem L2 M
local macro_rules | `(tactic| walk_at "u") => `(tactic| simp only [uRev, gRev, uSlT, gSlT, uChain, uPop, uRevT, gMulT, gAny, uIsN, D.isN, gMaxL, uLook, uLookE, uAppZ, gSort2, uSeq, uSet, uRet, uRetN, uRetV, uIfS, uTst, uOp, uC, uVar, slotE, uVarV, slotV, uV, uIx, gIx, uLen, seqOf, uCall, uCons, uNil, uLst, uTup, uApp, ownAt, uNeg, gAdd, M.gSub, gMul, gDiv, gMod, gPow, gI2, gCmp, gEqB, isB, B.d, uAnd, uOr, uNot, uAndV, uOrV, uNotV, uName, uNext, uPar, uAug, uSl, uPart, uNoPart, gSl, gAbs, gMax, gMin, gToInt, gTupleOf, gListOf, gIsi, g1, g2, gInt, uSetI, uIf, gAll, gSum, uDrop, uAsg, uTupG, uGCons, uGNil, uRng1, uRng2, uRngD, uRevR, uZip, uEnum, uSeqI, lend, capEv, frzL, frz1, Option.bind_some, Option.bind_none, Option.map_some, Option.map_none, Option.join,
  List.getElem?_cons_zero, List.getElem?_cons_succ, List.set_cons_zero, List.set_cons_succ, List.length_cons, List.length_nil, decide_eq_true_eq, Bool.false_xor, Bool.true_xor, Bool.not_eq_true', decide_eq_false_iff_not, if_true, if_false, reduceCtorEq])
namespace M
theorem powT_left {p : Int} (hp : 2 ≤ p) {g a h : Nat × (Nat → Int)} (ma : MP p a.1 a.2) (mh : MP p h.1 h.2) : ∀ k, powT p (tm p g a) h k = tm p g (powT p a h k)
  | 0 => rfl
  | k + 1 => by
    show tm p (powT p (tm p g a) h k) h = tm p g (tm p (powT p a h k) h)
    rw [powT_left hp ma mh k, tm_assoc (MP.powT hp ma mh k).hi]
theorem allT_left {p : Int} (hp : 2 ≤ p) {g : Nat × (Nat → Int)} : ∀ (l : List ((Nat × (Nat → Int)) × Nat)) {a : Nat × (Nat → Int)}, MP p a.1 a.2 → (∀ x ∈ l, MP p x.1.1 x.1.2) → allT p (tm p g a) l = tm p g (allT p a l)
  | [], a, _, _ => rfl
  | x :: l, a, ma, h => by
    show allT p (powT p (tm p g a) x.1 x.2) l = tm p g (allT p (powT p a x.1 x.2) l)
    rw [powT_left hp ma (h x (.head _)), allT_left hp l (MP.powT hp ma (h x (.head _)) x.2) fun y hy => h y (.tail _ hy)]
theorem split_off {p : Int} (hp : 2 ≤ p) {x : (Nat × (Nat → Int)) × Nat} {l : List ((Nat × (Nat → Int)) × Nat)} (h : ∀ y ∈ x :: l, MP p y.1.1 y.1.2 ∧ 1 ≤ y.1.1 ∧ 1 ≤ y.2) :
    ∃ R : Nat × (Nat → Int), MP p R.1 R.2 ∧ allT p oneF (x :: l) = tm p x.1 R ∧ (R.1 = 0 → l = [] ∧ x.2 = 1) := by
  obtain ⟨mx, x1, o1⟩ := h x (.head _)
  obtain ⟨k, hk⟩ : ∃ k, x.2 = k + 1 := ⟨x.2 - 1, by omega⟩
  have ma := MP.powT hp (MP.one hp) mx k
  have ml : ∀ y ∈ l, MP p y.1.1 y.1.2 := fun y hy => (h y (.tail _ hy)).1
  refine ⟨allT p (powT p oneF x.1 k) l, MP.allT hp l ma ml, ?_, fun z => ?_⟩
  · show allT p (powT p oneF x.1 x.2) l = _
    rw [hk]
    show allT p (tm p (powT p oneF x.1 k) x.1) l = _
    rw [tm_comm ma.hi mx.hi, allT_left hp l ma ml]
  · cases l with
    | nil =>
      refine ⟨rfl, ?_⟩
      have z' : (powT p oneF x.1 k).1 = 0 := z
      rw [powT_deg] at z'
      have : x.1.1 * k = 0 := by omega
      rcases Nat.mul_eq_zero.mp this with q | q <;> omega
    | cons y l =>
      have hd := allT_deg p (y :: l) (powT p oneF x.1 k) y (.head _)
      have hy := h y (.tail _ (.head _))
      have : 1 * 1 ≤ y.1.1 * y.2 := Nat.mul_le_mul hy.2.1 hy.2.2
      omega
def Irr (p : Int) (F : Nat × (Nat → Int)) : Prop := F.1 = 1 ∨ (2 ≤ F.1 ∧ NoR p F ∧ (F.1 = 4 → NoQ p F))
theorem mp_two {p : Int} {F : Nat × (Nat → Int)} (mp : MP p F.1 F.2) (h2 : F.1 = 2) : F = quF (F.2 0) (F.2 1) := by
  refine Prod.ext h2 (funext fun j => ?_)
  show F.2 j = if j = 0 then F.2 0 else if j = 1 then F.2 1 else if j = 2 then 1 else 0
  by_cases c0 : j = 0
  · rw [if_pos c0, c0]
  · by_cases c1 : j = 1
    · rw [if_neg c0, if_pos c1, c1]
    · by_cases c2 : j = 2
      · rw [if_neg c0, if_neg c1, if_pos c2, c2]
        have := mp.top
        rw [h2] at this
        exact this
      · rw [if_neg c0, if_neg c1, if_neg c2]
        exact mp.hi j (by omega)
theorem stB_iff {p : Int} (pp : Pr p) {F : Nat × (Nat → Int)} {xs : List ((Nat × (Nat → Int)) × Nat)} (mF : MP p F.1 F.2) (h1 : 1 ≤ F.1) (h4 : F.1 ≤ 4) (sp : SP p F xs) : stB xs = true ↔ Irr p F := by
  have p2 := pp.lo
  constructor
  · intro h
    match xs, sp, h with
    | [x], sp, h =>
      have o1 : x.2 = 1 := of_decide_eq_true h
      obtain ⟨mx, x1, x4, _, _, nr, nq⟩ := sp.mem x (.head _)
      have e : F = x.1 := by
        rw [← sp.prod]
        show powT p oneF x.1 x.2 = x.1
        rw [o1]
        exact tm_one mx
      rw [e]
      by_cases c : x.1.1 = 1
      · exact .inl c
      · exact .inr ⟨by omega, nr (by omega), nq⟩
  · intro h
    match xs, sp with
    | [], sp =>
      have := sp.prod
      rw [← this] at h1
      have : 1 ≤ 0 := h1
      omega
    | x :: l, sp =>
      obtain ⟨R, mR, e, z⟩ := split_off p2 (x := x) (l := l) fun y hy => ⟨(sp.mem y hy).1, (sp.mem y hy).2.1, (sp.mem y hy).2.2.2.1⟩
      have eF : F = tm p x.1 R := sp.prod.symm.trans e
      obtain ⟨mx, x1, x4, _, _, _, _⟩ := sp.mem x (.head _)
      have dg : F.1 = x.1.1 + R.1 := congrArg Prod.fst eF
      by_cases r0 : R.1 = 0
      · obtain ⟨rfl, o1⟩ := z r0
        exact decide_eq_true o1
      · exfalso
        rcases h with h | ⟨_, nr, nq⟩
        · omega
        · have k1 : NoR p x.1 := fun c hc => by have := nr c hc; rw [eF] at this; exact (va_ne mR.hi this).1
          have k2 : NoR p R := fun c hc => by have := nr c hc; rw [eF] at this; exact (va_ne mR.hi this).2
          have d1 : x.1.1 ≠ 1 := fun q => one_root pp mx q k1
          have d2 : R.1 ≠ 1 := fun q => one_root pp mR q k2
          have e1 := mp_two mx (by omega)
          have e2 := mp_two mR (by omega)
          refine nq (by omega) _ _ _ _ (mx.rng 0).1 (mx.rng 0).2 (mx.rng 1).1 (mx.rng 1).2 (mR.rng 0).1 (mR.rng 0).2 (mR.rng 1).1 (mR.rng 1).2 ?_
          rw [← e1, ← e2]
          exact eF
theorem ps_same {p : Int} (f : Nat → Int) {z y : Int} (h : z % p = y % p) : ∀ n, ps f z n % p = ps f y n % p := by
  have pw : ∀ n, z ^ n % p = y ^ n % p := by
    intro n
    induction n with
    | zero => rw [Int.pow_zero, Int.pow_zero]
    | succ n ih => rw [Int.pow_succ, Int.pow_succ, Int.mul_emod, ih, h, ← Int.mul_emod]
  intro n
  induction n with
  | zero => rfl
  | succ n ih =>
    show (ps f z n + f n * z ^ n) % p = (ps f y n + f n * y ^ n) % p
    rw [Int.add_emod, ih, Int.mul_emod, pw, ← Int.mul_emod, ← Int.add_emod]
def φ_mod_value : Φ := fun ds Q => ∃ (n : Nat) (f : Nat → Int) (z p : Int), ds = [rowD (rwF n f), .int z, .int p] ∧ n ≤ 200 ∧ 0 ≤ z ∧ z < 200 ∧ 2 ≤ p ∧ p < 200 ∧ Q (.pu (.int (ps f z n % p)))
def tr_mod_value : US := (uSeq (uSet 3 (uC (.int 0))) (uSeq (uFor (uRevT (uCons (uVar 0) uNil)) (uName 4) (uSet 3 (uOp gMod (uOp gAdd (uOp gMul (uVar 3) (uVar 1)) (uVar 4)) (uVar 2)))) (uRetV 3)))
theorem len_mod_value : ∀ ds Q, φ_mod_value ds Q → ds.length = 3 := by rintro ds Q ⟨n, f, z, p, rfl, _⟩; rfl
theorem rd_mod_value : ∀ ds Q, φ_mod_value ds Q → tr_mod_value { nx := fun _ => Q (.pu .non), rt := Q } (init ["f", "z", "p", "t", "c"] ds) := by
  rintro ds Q ⟨n, f, z, p, rfl, n9, z0, z1, p2, p3, h⟩
  unfold tr_mod_value
  simp only [rowD]
  show (uSeq _ _ : US) _ [some (.pu (.tup ((rwF n f).map .int))), some (.pu (.int z)), some (.pu (.int p)), none, none]
  walk_at "u"
  refine uFor_intro n (fun k => ((rwF n f).map D.int).getD (n - 1 - k) .non) [some (.pu (.tup ((rwF n f).map .int))), some (.pu (.int z)), some (.pu (.int p)), some (.pu (.int 0)), none] ?_
    (fun k ρ => ∃ c, ρ = [some (.pu (.tup ((rwF n f).map .int))), some (.pu (.int z)), some (.pu (.int p)), some (.pu (.int (hor f n z k % p))), c]) ⟨none, rfl⟩ ?_ ?_
  · intro Q' q
    walk_at "u"
    rw [rwF_mlen]
    exact q
  · rintro k ρ hk ⟨c, rfl⟩
    rw [rwF_getD (by omega)]
    walk_at "u"
    refine ⟨by simp, cmR (by omega) (by omega), by omega, some (.pu (.int (f (n - 1 - k)))), ?_⟩
    rw [fmod_pos _ (by omega)]
    have e : (hor f n z k % p * z + f (n - 1 - k)) % p = hor f n z (k + 1) % p := by
      show _ = (hor f n z k * z + f (n - 1 - k)) % p
      rw [Int.add_emod, emL, ← Int.add_emod]
    rw [e]
  · rintro ρ ⟨c, rfl⟩
    walk_at "u"
    rw [hor_all]
    exact h
def φ_mod_stays : Φ := fun ds Q => ∃ (n : Nat) (g : Nat → Int) (p : Int), ds = [rowD (rwF (n + 1) g), .int p] ∧ Pr p ∧ MP p n g ∧ 1 ≤ n ∧ n ≤ 4 ∧ (2 ≤ n → NoR p (n, g)) ∧ (n = 4 → NoQ p (n, g)) ∧ Q (.pu (.bl true))
def tr_mod_stays6 : US := (uRet (uC (.bl true)))
def tr_mod_stays5 : US := (uSeq (uFor (uRng2 (uCons (uC (.int 1)) (uCons (uVar 1) uNil))) (uName 4) (uSeq (uSet 5 (uOp gMod (uOp gMul (uIx (uVarV 0) (uC (.int 0))) (uIx (uVarV 2) (uVar 4))) (uVar 1))) (uIfS (uTst (uOp (gEqB true) (uVar 4) (uVar 5))) (uSeq (uSet 6 (uOp gMod (uOp gMul (uOp M.gSub (uIx (uVarV 0) (uC (.int 1))) (uOp gMul (uVar 4) (uIx (uVarV 0) (uC (.int 3))))) (uIx (uVarV 2) (uOp gMod (uOp M.gSub (uVar 5) (uVar 4)) (uVar 1)))) (uVar 1))) (uIfS (uTst (uOp (gEqB false) (uOp gMod (uOp M.gSub (uOp gAdd (uOp gAdd (uOp gMul (uVar 6) (uOp M.gSub (uIx (uVarV 0) (uC (.int 3))) (uVar 6))) (uVar 4)) (uVar 5)) (uIx (uVarV 0) (uC (.int 2)))) (uVar 1)) (uC (.int 0)))) (uRet (uC (.bl false))) uNext)) (uIfS (uTst (uOp (gEqB false) (uOp gMod (uOp M.gSub (uIx (uVarV 0) (uC (.int 1))) (uOp gMul (uVar 4) (uIx (uVarV 0) (uC (.int 3))))) (uVar 1)) (uC (.int 0)))) (uIfS (uTst (uCall gAny (uCons (uComp [4, 5, 1] [none, some 0, some 4, some 5, some 1, none] 5 (uRng1 (uCons (uVar 1) uNil)) (uName 0) (fun ρ Q => Q true ρ) (uOp (gEqB false) (uOp gMod (uOp M.gSub (uOp gAdd (uOp gAdd (uOp gMul (uVar 0) (uOp M.gSub (uIx (uVarV 1) (uC (.int 3))) (uVar 0))) (uVar 2)) (uVar 3)) (uIx (uVarV 1) (uC (.int 2)))) (uVar 4)) (uC (.int 0)))) uNil))) (uRet (uC (.bl false))) uNext) uNext)))) tr_mod_stays6)
def tr_mod_stays4 : US := (uSeq (uFor (uRng2 (uCons (uC (.int 2)) (uCons (uVar 1) uNil))) (uName 3) (uApp 2 (uOp gMod (uOp gMul (uOp M.gSub (uVar 1) (uOp gDiv (uVar 1) (uVar 3))) (uIx (uVarV 2) (uOp gMod (uVar 1) (uVar 3)))) (uVar 1)))) tr_mod_stays5)
def tr_mod_stays3 : US := (uSeq (uSet 2 (uLst (uCons (uC (.int 0)) (uCons (uC (.int 1)) uNil)))) tr_mod_stays4)
def tr_mod_stays2 : US := (uSeq (uIfS (uTst (uOp (gCmp fun i j => decide (i < j)) (uLen (uVarV 0)) (uC (.int 5)))) (uRet (uC (.bl true))) uNext) tr_mod_stays3)
def tr_mod_stays1 : US := (uSeq (uIfS (uTst (uCall gAny (uCons (uComp [0, 1] [none, some 0, some 1, none] 3 (uRng1 (uCons (uVar 1) uNil)) (uName 0) (fun ρ Q => Q true ρ) (uOp (gEqB false) (uCall φ_mod_value (uCons (uVar 1) (uCons (uVar 0) (uCons (uVar 2) uNil)))) (uC (.int 0)))) uNil))) (uRet (uC (.bl false))) uNext) tr_mod_stays2)
def tr_mod_stays : US := (uSeq (uIfS (uTst (uOp (gEqB false) (uLen (uVarV 0)) (uC (.int 2)))) (uRet (uC (.bl true))) uNext) tr_mod_stays1)
theorem len_mod_stays : ∀ ds Q, φ_mod_stays ds Q → ds.length = 2 := by rintro ds Q ⟨n, f, p, rfl, _⟩; rfl
theorem NoR.any {p : Int} (hp : 2 ≤ p) {F : Nat × (Nat → Int)} (h : NoR p F) (z : Nat) (hz : z < p.toNat) : ps F.2 (z : Int) (F.1 + 1) % p ≠ 0 := by
  by_cases z0 : z = 0
  · subst z0
    exact h 0 hz
  · intro q
    refine h (p.toNat - z) (by omega) ?_
    unfold va
    rw [← q]
    refine ps_same F.2 ?_ _
    have e : -(((p.toNat - z : Nat)) : Int) = (z : Int) + p * (-1) := by omega
    rw [e, Int.add_mul_emod_self_left]
theorem eq_of_mod {p a b : Int} (h0 : 0 ≤ a) (h1 : a < p) (k : Int) (h : b = a + p * k) : a = b % p := by
  rw [h, Int.add_mul_emod_self_left]
  exact (Int.emod_eq_of_lt h0 h1).symm
theorem mod_ex {p X r : Int} (h : X % p = r) : ∃ k, X = r + p * k := ⟨X / p, by rw [← h]; exact (Int.emod_add_mul_ediv X p).symm⟩
theorem no_div {p : Int} (pp : Pr p) {k : Int} (h2 : 2 ≤ k) (h : k < p) : 1 ≤ p % k := by
  have h0 := Int.emod_nonneg p (show k ≠ 0 by omega)
  refine Decidable.byContradiction fun z => ?_
  obtain ⟨m, hm⟩ := Int.dvd_of_emod_eq_zero (show p % k = 0 by omega)
  obtain ⟨t, ht⟩ := mod_ex (pp.inv k (by omega) h)
  have h1 : k * (powm k p (p.toNat - 2) - m * t) = 1 := by
    rw [Int.mul_sub, Int.mul_comm k, ht, ← Int.mul_assoc, ← hm]
    omega
  have h3 : k ∣ 1 := ⟨_, h1.symm⟩
  have := Int.le_of_dvd (by decide) h3
  omega
structure Bk (p : Int) (k : Nat) (B : Nat → Int) : Prop where
  rng : ∀ j, 0 ≤ B j ∧ B j < p
  inv : ∀ j, 1 ≤ j → j < k → B j * (j : Int) % p = 1
theorem Bk.step {p : Int} (pp : Pr p) {k : Nat} (h2 : 2 ≤ k) (hk : (k : Int) < p) {B : Nat → Int} (b : Bk p k B) : Bk p (k + 1) (fun x => if x = k then (p - p / (k : Int)) * B (p % (k : Int)).toNat % p else B x) := by
  have p2 := pp.lo
  refine ⟨fun j => ?_, fun j j1 jk => ?_⟩
  · split
    · exact ⟨Int.emod_nonneg _ (by omega), Int.emod_lt_of_pos _ (by omega)⟩
    · exact b.rng j
  · by_cases c : j = k
    · subst c
      rw [if_pos rfl]
      have r1 := no_div pp (k := (j : Int)) (by omega) hk
      have r2 := Int.emod_lt_of_pos p (show (0 : Int) < (j : Int) by omega)
      have iv := b.inv (p % (j : Int)).toNat (by omega) (by omega)
      rw [show (((p % (j : Int)).toNat : Nat) : Int) = p % (j : Int) by omega] at iv
      have dm := Int.emod_add_mul_ediv p (j : Int)
      generalize p % (j : Int) = r at *
      generalize p / (j : Int) = q at *
      generalize B r.toNat = x at *
      obtain ⟨t, ht⟩ := mod_ex iv
      rw [emL]
      have e : (p - q) * x * (j : Int) = 1 + p * (t + x * (j : Int) - x) := by
        have : (p - q) * x * (j : Int) = x * r + p * (x * (j : Int) - x) := by
          have : (j : Int) * q = p - r := by omega
          grind
        rw [this, ht]
        grind
      rw [e, Int.add_mul_emod_self_left]
      exact Int.emod_eq_of_lt (by decide) (by omega)
    · rw [if_neg c]
      exact b.inv j j1 (by omega)
theorem no_turn {p : Int} (pp : Pr p) {g : Nat → Int} (mp : MP p 4 g) (nq : NoQ p (4, g)) {b d u : Int} (b0 : 0 ≤ b) (b1 : b < p) (d0 : 0 ≤ d) (d1 : d < p) (u0 : 0 ≤ u) (u1 : u < p) {k0 k1 k2 : Int}
    (h0 : b * d = g 0 + p * k0) (h1 : b * g 3 + u * (d - b) = g 1 + p * k1) (h2 : u * (g 3 - u) + b + d - g 2 = p * k2) : False := by
  have p2 := pp.lo
  have s0 := Int.emod_nonneg (g 3 - u) (show p ≠ 0 by omega)
  have s1 := Int.emod_lt_of_pos (g 3 - u) (show 0 < p by omega)
  obtain ⟨t, ht⟩ := mod_ex (rfl : (g 3 - u) % p = (g 3 - u) % p)
  generalize (g 3 - u) % p = s at *
  refine nq b u d s b0 b1 u0 u1 d0 d1 s0 s1 ((tm_qu mp (MP.qu p2 b0 b1 u0 u1) (MP.qu p2 d0 d1 s0 s1) p2).mpr ⟨?_, ?_, ?_, ?_⟩)
  · exact eq_of_mod (mp.rng 0).1 (mp.rng 0).2 k0 h0
  · refine eq_of_mod (mp.rng 1).1 (mp.rng 1).2 (k1 - b * t) ?_
    have : s = g 3 - u - p * t := by omega
    rw [this]
    grind
  · refine eq_of_mod (mp.rng 2).1 (mp.rng 2).2 (k2 - u * t) ?_
    have : s = g 3 - u - p * t := by omega
    rw [this]
    grind
  · refine eq_of_mod (mp.rng 3).1 (mp.rng 3).2 (-t) ?_
    have : s = g 3 - u - p * t := by omega
    rw [this]
    grind
end M
end
section
set_option Elab.async false
set_option linter.all false
set_option maxRecDepth 100000
open PySem L2 M
local macro_rules | `(tactic| walk_at "u") => `(tactic| simp only [uRev, gRev, uSlT, gSlT, uChain, uPop, uRevT, gMulT, gAny, uIsN, D.isN, gMaxL, uLook, uLookE, uAppZ, gSort2, uSeq, uSet, uRet, uRetN, uRetV, uIfS, uTst, uOp, uC, uVar, slotE, uVarV, slotV, uV, uIx, gIx, uLen, seqOf, uCall, uCons, uNil, uLst, uTup, uApp, ownAt, uNeg, gAdd, M.gSub, gMul, gDiv, gMod, gPow, gI2, gCmp, gEqB, isB, B.d, uAnd, uOr, uNot, uAndV, uOrV, uNotV, uName, uNext, uPar, uAug, uSl, uPart, uNoPart, gSl, gAbs, gMax, gMin, gToInt, gTupleOf, gListOf, gIsi, g1, g2, gInt, uSetI, uIf, gAll, gSum, uDrop, uAsg, uTupG, uGCons, uGNil, uRng1, uRng2, uRngD, uRevR, uZip, uEnum, uSeqI, lend, capEv, frzL, frz1, Option.bind_some, Option.bind_none, Option.map_some, Option.map_none, Option.join,
  List.getElem?_cons_zero, List.getElem?_cons_succ, List.set_cons_zero, List.set_cons_succ, List.length_cons, List.length_nil, decide_eq_true_eq, Bool.false_xor, Bool.true_xor, Bool.not_eq_true', decide_eq_false_iff_not, if_true, if_false, reduceCtorEq])
namespace M
theorem no_any {n : Nat} {b : Nat → Bool} (h : ∀ k, k < n → b k = false) : ((List.range n).map b).any id = false := by
  rw [List.any_eq_false]
  intro x hx
  obtain ⟨k, hk, rfl⟩ := List.mem_map.mp hx
  rw [List.mem_range] at hk
  simp [h k hk]
theorem rd_stays5 (Q : B → Prop) {g : Nat → Int} {p : Int} (pp : Pr p) (mp : MP p 4 g) (nq : NoQ p (4, g)) (x : Option B) {K : Nat → Int} (bk : Bk p p.toNat K) (h : Q (.pu (.bl true))) :
    tr_mod_stays5 { nx := fun _ => Q (.pu .non), rt := Q } [some (.pu (.tup ((rwF 5 g).map .int))), some (.pu (.int p)), some (.ow ((rwF p.toNat K).map .int)), x, none, none, none] := by
  have p2 := pp.lo
  have p3 := pp.hi
  have a0 : atI ((rwF 5 g).map D.int) 0 = some (.int (g 0)) := rwF_at (i := 0) (by decide)
  have a1 : atI ((rwF 5 g).map D.int) 1 = some (.int (g 1)) := rwF_at (i := 1) (by decide)
  have a2 : atI ((rwF 5 g).map D.int) 2 = some (.int (g 2)) := rwF_at (i := 2) (by decide)
  have a3 : atI ((rwF 5 g).map D.int) 3 = some (.int (g 3)) := rwF_at (i := 3) (by decide)
  have kat : ∀ z : Int, 0 ≤ z → z < p → atI ((rwF p.toNat K).map D.int) z = some (.int (K z.toNat)) := fun z z0 z1 => by
    have := rwF_at (n := p.toNat) (i := z.toNat) (f := K) (by omega)
    rw [show ((z.toNat : Nat) : Int) = z by omega] at this
    exact this
  have g0 := mp.rng 0
  have g1 := mp.rng 1
  have g2 := mp.rng 2
  have g3 := mp.rng 3
  unfold tr_mod_stays5
  rw [uSeq_eq]
  refine uFor_intro (p.toNat - 1) (fun i => .int (1 + (i : Int))) [some (.pu (.tup ((rwF 5 g).map .int))), some (.pu (.int p)), some (.ow ((rwF p.toNat K).map .int)), x, none, none, none] ?_
    (fun i ρ => ∃ (a b c : Option B), ρ = [some (.pu (.tup ((rwF 5 g).map .int))), some (.pu (.int p)), some (.ow ((rwF p.toNat K).map .int)), x, a, b, c]) ⟨none, none, none, rfl⟩ ?_ ?_
  · intro Q' q
    walk_at "u"
    refine ⟨⟨by decide, by decide, by omega, by omega⟩, ?_⟩
    rw [show (p - 1).toNat = p.toNat - 1 by omega]
    exact q
  · rintro i ρ hi ⟨a, b, c', rfl⟩
    have b0 : (0 : Int) ≤ 1 + (i : Int) := by omega
    have b1 : (1 : Int) + (i : Int) < p := by omega
    have bv := bk.inv (1 + (i : Int)).toNat (by omega) (by omega)
    have br := bk.rng (1 + (i : Int)).toNat
    rw [show (((1 + (i : Int)).toNat : Nat) : Int) = 1 + (i : Int) by omega] at bv
    generalize hB : (1 : Int) + (i : Int) = y at *
    obtain ⟨t0, ht0⟩ := mod_ex bv
    walk_at "u"
    rw [a0, kat y b0 b1]
    dsimp only
    refine ⟨by simp, cmL (by omega) (by omega), by omega, ?_⟩
    rw [fmod_pos _ (by omega)]
    have d0 := Int.emod_nonneg (g 0 * K y.toNat) (show p ≠ 0 by omega)
    have d1 := Int.emod_lt_of_pos (g 0 * K y.toNat) (show 0 < p by omega)
    obtain ⟨t1, ht1⟩ := mod_ex (rfl : (g 0 * K y.toNat) % p = (g 0 * K y.toNat) % p)
    generalize (g 0 * K y.toNat) % p = d at *
    generalize K y.toNat = ky at *
    have h0 : y * d = g 0 + p * (g 0 * t0 - y * t1) := by
      have e1 : d = g 0 * ky - p * t1 := by omega
      rw [e1]
      grind
    by_cases c : y = d
    · rw [if_neg (fun z => z c)]
      subst c
      rw [a1, a3]
      dsimp only
      refine ⟨cmL (by omega) (by omega), by omega, ?_⟩
      rw [fmod_pos _ (by omega)]
      by_cases c2 : (g 1 - y * g 3) % p = 0
      · rw [if_pos c2]
        obtain ⟨m, hm⟩ := mod_ex c2
        have none_of : ∀ k : Nat, k < p.toNat → ((k : Int) * (g 3 - (k : Int)) + y + y - g 2) % p ≠ 0 := fun k hk z => by
          obtain ⟨e, he⟩ := mod_ex z
          exact no_turn pp mp nq b0 b1 b0 b1 (u := (k : Int)) (by omega) (by omega) h0 (k1 := -m) (by rw [Int.sub_self, Int.mul_zero, Int.mul_neg]; omega) (k2 := e) (by omega)
        refine uComp_map (t0 := 0) p.toNat (fun k => .int (0 + (k : Int))) [some (.pu (.tup ((rwF 5 g).map .int))), some (.pu (.int p)), some (.ow ((rwF p.toNat K).map .int)), x, some (.pu (.int y)), some (.pu (.int y)), c'] ?_ (by omega) (fun x l' => [x, some (.pu (.tup ((rwF 5 g).map .int))), some (.pu (.int y)), some (.pu (.int y)), some (.pu (.int p)), some (.ow l')]) none rfl (fun _ _ _ => rfl) (fun _ _ => Nat.zero_lt_succ _) (fun _ _ _ q => q) (fun _ _ _ => rfl) (fun k : Nat => .bl (decide (((k : Int) * (g 3 - (k : Int)) + y + y - g 2) % p = 0))) ?_ ?_
        · intro Q' q
          walk_at "u"
          refine ⟨⟨by omega, by omega⟩, ?_⟩
          exact q
        · intro k l' Q' hk q
          rw [Int.zero_add] at q ⊢
          walk_at "u"
          rw [a3]
          dsimp only
          refine ⟨cmL (by omega) (by omega), ?_⟩
          rw [a2]
          dsimp only
          refine ⟨by omega, ?_⟩
          rw [fmod_pos _ (by omega)]
          exact q
        · have e : (List.range p.toNat).map (fun k : Nat => D.bl (decide (((k : Int) * (g 3 - (k : Int)) + y + y - g 2) % p = 0))) = ((List.range p.toNat).map fun k : Nat => decide (((k : Int) * (g 3 - (k : Int)) + y + y - g 2) % p = 0)).map D.bl := by rw [List.map_map]; rfl
          rw [e]
          dsimp only
          rw [boolsL_map]
          dsimp only
          rw [no_any fun k hk => decide_eq_false (none_of k hk)]
          rw [if_neg (by decide)]
          exact ⟨_, _, _, rfl⟩
      · rw [if_neg c2]
        exact ⟨_, _, _, rfl⟩
    · rw [if_pos c]
      have r0 := Int.emod_nonneg (d - y) (show p ≠ 0 by omega)
      have r1 := Int.emod_lt_of_pos (d - y) (show 0 < p by omega)
      have rn : 1 ≤ (d - y) % p := by
        refine Decidable.byContradiction fun z => ?_
        obtain ⟨k, hk⟩ := Int.dvd_of_emod_eq_zero (show (d - y) % p = 0 by omega)
        have k1 : k < 1 := by
          refine Decidable.byContradiction fun q => ?_
          have := Int.mul_le_mul_of_nonneg_left (show 1 ≤ k by omega) (show 0 ≤ p by omega)
          omega
        have k2 : -1 < k := by
          refine Decidable.byContradiction fun q => ?_
          have := Int.mul_le_mul_of_nonneg_left (show k ≤ -1 by omega) (show 0 ≤ p by omega)
          omega
        have : k = 0 := by omega
        rw [this, Int.mul_zero] at hk
        omega
      have iv := bk.inv ((d - y) % p).toNat (by omega) (by omega)
      have ir := bk.rng ((d - y) % p).toNat
      rw [show ((((d - y) % p).toNat : Nat) : Int) = (d - y) % p by omega] at iv
      obtain ⟨t3, ht3⟩ := mod_ex (rfl : (d - y) % p = (d - y) % p)
      have ek := kat ((d - y) % p) r0 r1
      generalize hr : (d - y) % p = r at *
      generalize hkr : K r.toNat = kr at *
      obtain ⟨t2, ht2⟩ := mod_ex iv
      rw [a1, a3]
      dsimp only
      refine ⟨cmL (by omega) (by omega), by omega, ?_⟩
      rw [fmod_pos _ (by omega), hr, ek]
      dsimp only
      refine ⟨cmR (by omega) (by omega), by omega, ?_⟩
      rw [fmod_pos _ (by omega)]
      have u0 := Int.emod_nonneg ((g 1 - y * g 3) * kr) (show p ≠ 0 by omega)
      have u1 := Int.emod_lt_of_pos ((g 1 - y * g 3) * kr) (show 0 < p by omega)
      obtain ⟨t4, ht4⟩ := mod_ex (rfl : ((g 1 - y * g 3) * kr) % p = ((g 1 - y * g 3) * kr) % p)
      generalize ((g 1 - y * g 3) * kr) % p = U at *
      refine ⟨cmL (by omega) (by omega), ?_⟩
      rw [a2]
      dsimp only
      refine ⟨by omega, ?_⟩
      rw [fmod_pos _ (by omega)]
      by_cases c3 : (U * (g 3 - U) + y + d - g 2) % p = 0
      · exfalso
        obtain ⟨e, he⟩ := mod_ex c3
        refine no_turn pp mp nq b0 b1 d0 d1 u0 u1 h0 (k1 := (g 1 - y * g 3) * t2 - t4 * r + U * t3) ?_ (k2 := e) (by omega)
        have e1 : U = (g 1 - y * g 3) * kr - p * t4 := by omega
        have e2 : U * (d - y) = U * r + p * (U * t3) := by rw [ht3]; grind
        have e3 : U * r = (g 1 - y * g 3) * (kr * r) - p * (t4 * r) := by rw [e1]; grind
        rw [e2, e3, ht2]
        grind
      · rw [if_neg c3]
        exact ⟨_, _, _, rfl⟩
  · rintro ρ ⟨a, b, c, rfl⟩
    dsimp only
    unfold tr_mod_stays6
    walk_at "u"
    exact h
theorem rd_mod_stays : ∀ ds Q, φ_mod_stays ds Q → tr_mod_stays { nx := fun _ => Q (.pu .non), rt := Q } (init ["g", "p", "b", "k", "x", "d", "t"] ds) := by
  rintro ds Q ⟨n, g, p, rfl, pp, mp, n1, n4, nr, nq, h⟩
  have p2 := pp.lo
  have p3 := pp.hi
  unfold tr_mod_stays
  simp only [rowD]
  show (uSeq _ _ : US) _ [some (.pu (.tup ((rwF (n + 1) g).map .int))), some (.pu (.int p)), none, none, none, none, none]
  rw [uSeq_eq]
  walk_at "u"
  rw [rwF_mlen]
  by_cases c1 : n = 1
  · rw [if_pos (by omega)]
    exact h
  rw [if_neg (by omega)]
  unfold tr_mod_stays1
  rw [uSeq_eq, uIfS_eq, uTst_eq, uCall_eq, uCons_eq]
  refine uComp_map (t0 := 0) p.toNat (fun k => .int (0 + (k : Int))) [some (.pu (.tup ((rwF (n + 1) g).map .int))), some (.pu (.int p)), none, none, none, none, none] ?_ (by omega) (fun x l' => [x, some (.pu (.tup ((rwF (n + 1) g).map .int))), some (.pu (.int p)), some (.ow l')]) none rfl (fun _ _ _ => rfl) (fun _ _ => Nat.zero_lt_succ _) (fun _ _ _ q => q) (fun _ _ _ => rfl) (fun k : Nat => .bl (decide (ps g (k : Int) (n + 1) % p = 0))) ?_ ?_
  · intro Q' q
    walk_at "u"
    refine ⟨⟨by omega, by omega⟩, ?_⟩
    exact q
  · intro k l' Q' hk q
    rw [Int.zero_add] at q ⊢
    walk_at "u"
    refine ⟨n + 1, g, (k : Int), p, rfl, by omega, by omega, by omega, p2, p3, ?_⟩
    exact q
  · have e : (List.range p.toNat).map (fun k : Nat => D.bl (decide (ps g (k : Int) (n + 1) % p = 0))) = ((List.range p.toNat).map fun k : Nat => decide (ps g (k : Int) (n + 1) % p = 0)).map D.bl := by rw [List.map_map]; rfl
    rw [e]
    walk_at "u"
    rw [boolsL_map]
    dsimp only
    rw [no_any fun k hk => decide_eq_false (NoR.any p2 (nr (by omega)) k hk)]
    rw [if_neg (by decide)]
    unfold tr_mod_stays2
    rw [uSeq_eq]
    walk_at "u"
    rw [rwF_mlen]
    by_cases c4' : n ≠ 4
    · rw [if_pos (by omega)]
      exact h
    rw [if_neg (by omega)]
    obtain rfl : n = 4 := by omega
    have nq := nq rfl
    have a0 : atI ((rwF 5 g).map D.int) 0 = some (.int (g 0)) := rwF_at (i := 0) (by decide)
    have a1 : atI ((rwF 5 g).map D.int) 1 = some (.int (g 1)) := rwF_at (i := 1) (by decide)
    have a2 : atI ((rwF 5 g).map D.int) 2 = some (.int (g 2)) := rwF_at (i := 2) (by decide)
    have a3 : atI ((rwF 5 g).map D.int) 3 = some (.int (g 3)) := rwF_at (i := 3) (by decide)
    unfold tr_mod_stays3
    rw [uSeq_eq]
    walk_at "u"
    refine ⟨by decide, ?_⟩
    unfold tr_mod_stays4
    rw [uSeq_eq]
    refine uFor_intro (p.toNat - 2) (fun i => .int (2 + (i : Int))) [some (.pu (.tup ((rwF 5 g).map .int))), some (.pu (.int p)), some (.ow [.int 0, .int 1]), none, none, none, none] ?_
      (fun i ρ => ∃ (x : Option B) (B : Nat → Int), ρ = [some (.pu (.tup ((rwF 5 g).map .int))), some (.pu (.int p)), some (.ow ((rwF (i + 2) B).map .int)), x, none, none, none] ∧ Bk p (i + 2) B)
      ⟨none, fun j => if j = 1 then 1 else 0, rfl, fun j => ?_, fun j j1 j2 => ?_⟩ ?_ ?_
    · intro Q' q
      walk_at "u"
      refine ⟨⟨by decide, by decide, by omega, by omega⟩, ?_⟩
      rw [show (p - 2).toNat = p.toNat - 2 by omega]
      exact q
    · split <;> omega
    · rw [show j = 1 by omega, if_pos rfl]
      exact Int.emod_eq_of_lt (by decide) (by omega)
    · rintro i ρ hi ⟨x, B, rfl, bk⟩
      have r0 := Int.emod_nonneg p (show (2 + (i : Int)) ≠ 0 by omega)
      have r1 := Int.emod_lt_of_pos p (show (0 : Int) < 2 + (i : Int) by omega)
      walk_at "u"
      refine ⟨by simp, ⟨by omega, sm64 (by omega) (by omega)⟩, by omega, ?_⟩
      rw [fdiv_pos _ (by omega), fmod_pos _ (by omega)]
      have ea : atI ((rwF (i + 2) B).map D.int) (p % (2 + (i : Int))) = some (.int (B (p % (2 + (i : Int))).toNat)) := by
        have := rwF_at (n := i + 2) (i := (p % (2 + (i : Int))).toNat) (f := B) (by omega)
        rw [show (((p % (2 + (i : Int))).toNat : Nat) : Int) = p % (2 + (i : Int)) by omega] at this
        exact this
      rw [ea]
      dsimp only
      have br := bk.rng (p % (2 + (i : Int))).toNat
      refine ⟨cmR (by omega) (by omega), by omega, ?_, some (.pu (.int (2 + (i : Int)))), _, ?_, Bk.step pp (k := i + 2) (by omega) (by omega) bk⟩
      · rw [rwF_mlen]
        exact Nat.lt_of_lt_of_le (show i + 2 < 200 by omega) (by decide)
      · rw [fmod_pos _ (by omega), rwF_snoc, show (2 + (i : Int)) = ((i + 2 : Nat) : Int) by omega]
    · rintro ρ ⟨x, B, rfl, bk⟩
      rw [show p.toNat - 2 + 2 = p.toNat by omega] at bk ⊢
      exact rd_stays5 Q pp mp nq _ bk h
end M
end
section
set_option Elab.async false
set_option linter.all false
set_option maxRecDepth 100000
open PySem L2 M
local macro_rules | `(tactic| walk_at "u") => `(tactic| simp only [uRev, gRev, uSlT, gSlT, uChain, uPop, uRevT, gMulT, gAny, uIsN, D.isN, gMaxL, uLook, at0, at1, Bool.not_true, Bool.not_false, decide_true, Bool.false_eq_true, uLookE, uAppZ, gSort2, uSeq, uSet, uRet, uRetN, uRetV, uIfS, uTst, uOp, uC, uVar, slotE, uVarV, slotV, uV, uIx, gIx, uLen, seqOf, uCall, uCons, uNil, uLst, uTup, uApp, ownAt, uNeg, gAdd, M.gSub, gMul, gDiv, gMod, gPow, gI2, gCmp, gEqB, isB, B.d, uAnd, uOr, uNot, uAndV, uOrV, uNotV, uName, uNext, uPar, uAug, uSl, uPart, uNoPart, gSl, gAbs, gMax, gMin, gToInt, gTupleOf, gListOf, gIsi, g1, g2, gInt, uSetI, uIf, gAll, gSum, uDrop, uAsg, uTupG, uGCons, uGNil, uRng1, uRng2, uRngD, uRevR, uZip, uEnum, uSeqI, lend, capEv, frzL, frz1, Option.bind_some, Option.bind_none, Option.map_some, Option.map_none, Option.join,
  List.getElem?_cons_zero, List.getElem?_cons_succ, List.set_cons_zero, List.set_cons_succ, List.length_cons, List.length_nil, decide_eq_true_eq, Bool.false_xor, Bool.true_xor, Bool.not_eq_true', decide_eq_false_iff_not, if_true, if_false, reduceCtorEq])
namespace M
theorem MP.snoc {p : Int} (hp : 2 ≤ p) {n : Nat} {f : Nat → Int} (h1 : ∀ j, 0 ≤ f j ∧ f j < p) (h2 : ∀ j, n ≤ j → f j = 0) : MP p n (fun j => if j = n then 1 else f j) := by
  refine ⟨if_pos rfl, fun j hj => ?_, fun j => ?_⟩
  · show (if j = n then 1 else f j) = 0
    rw [if_neg (by omega)]
    exact h2 j (by omega)
  · show 0 ≤ (if j = n then 1 else f j) ∧ (if j = n then 1 else f j) < p
    split
    · omega
    · exact h1 j
theorem tm_row {p : Int} (hp : 2 ≤ p) {a b : Nat × (Nat → Int)} (ma : MP p a.1 a.2) (mb : MP p b.1 b.2) : rwF (cutN (md p (conv a.2 b.2 (a.1 + 1))) (a.1 + 1 + (b.1 + 1))) (md p (conv a.2 b.2 (a.1 + 1))) = rwF ((tm p a b).1 + 1) (tm p a b).2 := by
  have m := MP.tm hp ma mb
  have e : cutN (md p (conv a.2 b.2 (a.1 + 1))) (a.1 + 1 + (b.1 + 1)) = a.1 + b.1 + 1 := cutN_eq (by omega) (fun j h1 h2 => m.hi j (show a.1 + b.1 < j by omega)) (.inr (by
    have : md p (conv a.2 b.2 (a.1 + 1)) (a.1 + b.1) = 1 := m.top
    rw [Nat.add_sub_cancel, this]
    decide))
  rw [e]
  rfl
def φ_places_of : Φ := fun ds Q => ∃ (ns : List Int) (n : Nat) (p : Int), ds = [.rol (ns.map .int), .int (n : Int), .int p] ∧ ns.length ≤ 63 ∧ 1 ≤ n ∧ n ≤ 4 ∧ Pr p ∧ ∀ f, MP p n f → Q (.pu (rowD (rwF (n + 1) f)))
def tr_places_of8 : US := (uRetV 8)
def tr_places_of7 : US := (uSeq (uFor (uRng1 (uCons (uVar 6) uNil)) (uName 9) (uSet 8 (uCall φ_mod_times (uCons (uVar 8) (uCons (uVar 5) (uCons (uVar 2) uNil)))))) tr_places_of8)
def tr_places_of6 : US := (uSeq (uSet 8 (uCall gTupleOf (uCons (uOp gAdd (uCall φ_mod_places (uCons (uCall φ_cell (uCons (uVar 0) (uCons (uC (.int 5)) uNil))) (uCons (uVar 7) (uCons (uVar 2) (uCons (uC (.int 999999761)) uNil))))) (uLst (uCons (uC (.int 1)) uNil))) uNil))) tr_places_of7)
def tr_places_of5 : US := (uSeq (uSet 7 (uOp M.gSub (uVar 1) (uOp gMul (uVar 4) (uVar 6)))) tr_places_of6)
def tr_places_of4 : US := (uSeq (uSet 6 (uCall gMin (uCons (uOp gAdd (uC (.int 1)) (uIx (uVarV 3) (uC (.int 2)))) (uCons (uOp gDiv (uVar 1) (uVar 4)) uNil)))) tr_places_of5)
def tr_places_of3 : US := (uSeq (uSet 5 (uCall gTupleOf (uCons (uOp gAdd (uCall φ_mod_places (uCons (uCall φ_cell (uCons (uVar 0) (uCons (uC (.int 4)) uNil))) (uCons (uVar 4) (uCons (uVar 2) (uCons (uC (.int 999999797)) uNil))))) (uLst (uCons (uC (.int 1)) uNil))) uNil))) tr_places_of4)
def tr_places_of2 : US := (uSeq (uSet 4 (uCall gMin (uCons (uVar 1) (uCons (uOp gAdd (uC (.int 1)) (uIx (uVarV 3) (uC (.int 1)))) uNil)))) tr_places_of3)
def tr_places_of1 : US := (uSeq (uIfS (uTst (uOp (gEqB false) (uIx (uVarV 3) (uC (.int 0))) (uC (.int 0)))) (uRet (uCall gTupleOf (uCons (uOp gAdd (uCall φ_mod_places (uCons (uCall φ_cell (uCons (uVar 0) (uCons (uC (.int 3)) uNil))) (uCons (uVar 1) (uCons (uVar 2) (uCons (uC (.int 999999883)) uNil))))) (uLst (uCons (uC (.int 1)) uNil))) uNil))) uNext) tr_places_of2)
def tr_places_of : US := (uSeq (uSet 3 (uCall φ_draws (uCons (uCall φ_cell (uCons (uVar 0) (uCons (uC (.int 2)) uNil))) (uCons (uLst (uCons (uC (.int 2)) (uCons (uC (.int 2)) (uCons (uC (.int 4)) uNil)))) (uCons (uC (.int 999999893)) uNil))))) tr_places_of1)
theorem len_places_of : ∀ ds Q, φ_places_of ds Q → ds.length = 3 := by rintro ds Q ⟨ns, n, p, rfl, _⟩; rfl
theorem rd_places_of : ∀ ds Q, φ_places_of ds Q → tr_places_of { nx := fun _ => Q (.pu .non), rt := Q } (init ["s", "n", "p", "w", "a", "g", "o", "l", "r", "k"] ds) := by
  rintro ds Q ⟨ns, n, p, rfl, hl, n1, n4, pp, h⟩
  have p2 := pp.lo
  have p3 := pp.hi
  unfold tr_places_of
  show (uSeq _ _ : US) _ [some (.pu (.rol (ns.map .int))), some (.pu (.int (n : Int))), some (.pu (.int p)), none, none, none, none, none, none, none]
  rw [uSeq_eq]
  walk_at "u"
  refine ⟨ns, 2, rfl, hl, by decide, by decide, fun c => ⟨by decide, c, [2, 2, 4], 999999893, rfl, by decide, by decide, by decide, fun xs hx => ?_⟩⟩
  obtain ⟨u, v, t, rfl⟩ : ∃ u v t, xs = [u, v, t] := by
    match xs, hx.1 with
    | [u, v, t], _ => exact ⟨u, v, t, rfl⟩
  have bv := hx.2 1 v 2 rfl rfl
  have bt := hx.2 2 t 4 rfl rfl
  simp only [List.map_cons, List.map_nil]
  have i0 : atI [D.int u, .int v, .int t] 0 = some (.int u) := atI_nat (j := 0) rfl
  have i1 : atI [D.int u, .int v, .int t] 1 = some (.int v) := atI_nat (j := 1) rfl
  have i2 : atI [D.int u, .int v, .int t] 2 = some (.int t) := atI_nat (j := 2) rfl
  unfold tr_places_of1
  rw [uSeq_eq]
  walk_at "u"
  rw [i0]
  dsimp only
  by_cases c0 : u = 0
  · rw [if_pos c0]
    refine ⟨ns, 3, rfl, hl, by decide, by decide, fun c => ⟨c, n, p, 999999883, rfl, by omega, by omega, by omega, by decide, fun f f1 f2 => ?_⟩⟩
    walk_at "u"
    rw [rwF_snoc]
    refine ⟨by decide, ?_, h _ (MP.snoc p2 f1 f2)⟩
    rw [rwF_mlen]
    exact Nat.le_trans (show n + 1 ≤ 5 by omega) (by decide)
  rw [if_neg c0]
  unfold tr_places_of2
  rw [uSeq_eq]
  walk_at "u"
  rw [i1]
  dsimp only
  obtain ⟨a, ha, a1, a2, an⟩ : ∃ a : Nat, (if 1 + v < (n : Int) then 1 + v else (n : Int)) = (a : Int) ∧ 1 ≤ a ∧ a ≤ 2 ∧ a ≤ n := by
    refine ⟨(if 1 + v < (n : Int) then 1 + v else (n : Int)).toNat, ?_, ?_, ?_, ?_⟩ <;> split <;> omega
  rw [ha]
  unfold tr_places_of3
  rw [uSeq_eq]
  walk_at "u"
  refine ⟨ns, 4, rfl, hl, by decide, by decide, fun c => ⟨c, a, p, 999999797, rfl, by omega, by omega, by omega, by decide, fun gf f1 f2 => ?_⟩⟩
  have mg := MP.snoc p2 f1 f2
  walk_at "u"
  rw [rwF_snoc]
  generalize hg : (fun j => if j = a then (1 : Int) else gf j) = g at *
  refine ⟨by decide, by rw [rwF_mlen]; exact Nat.le_trans (show a + 1 ≤ 5 by omega) (by decide), ?_⟩
  unfold tr_places_of4
  rw [uSeq_eq]
  walk_at "u"
  rw [i2]
  dsimp only
  refine ⟨⟨by omega, sm64 (by omega) (by omega)⟩, ?_⟩
  rw [fdiv_pos _ (by omega)]
  obtain ⟨o, ho, o1, on⟩ : ∃ o : Nat, (if (n : Int) / (a : Int) < 1 + t then (n : Int) / (a : Int) else 1 + t) = (o : Int) ∧ 1 ≤ o ∧ a * o ≤ n := by
    have e : (n : Int) / (a : Int) = ((n / a : Nat) : Int) := (Int.natCast_ediv n a).symm
    have d1 : 1 ≤ n / a := Nat.div_pos an (by omega)
    have d2 : a * (n / a) ≤ n := Nat.mul_div_le n a
    refine ⟨(if (n : Int) / (a : Int) < 1 + t then (n : Int) / (a : Int) else 1 + t).toNat, ?_, ?_, ?_⟩
    · split <;> omega
    · split <;> omega
    · refine Nat.le_trans (Nat.mul_le_mul_left a ?_) d2
      split <;> omega
  rw [ho]
  unfold tr_places_of5
  rw [uSeq_eq]
  walk_at "u"
  refine ⟨cmL (by omega) (by omega), ?_⟩
  rw [show (n : Int) - (a : Int) * (o : Int) = ((n - a * o : Nat) : Int) by rw [Int.ofNat_sub on, Int.natCast_mul]]
  unfold tr_places_of6
  rw [uSeq_eq]
  walk_at "u"
  refine ⟨ns, 5, rfl, hl, by decide, by decide, fun c => ⟨c, n - a * o, p, 999999761, rfl, by omega, by omega, by omega, by decide, fun rf f1 f2 => ?_⟩⟩
  have mr := MP.snoc p2 f1 f2
  walk_at "u"
  rw [rwF_snoc]
  generalize hr : (fun j => if j = n - a * o then (1 : Int) else rf j) = r at *
  refine ⟨by decide, by rw [rwF_mlen]; exact Nat.le_trans (show n - a * o + 1 ≤ 5 by omega) (by decide), ?_⟩
  unfold tr_places_of7
  rw [uSeq_eq]
  refine uFor_intro o (fun i => .int (0 + (i : Int))) [some (.pu (.rol (ns.map .int))), some (.pu (.int (n : Int))), some (.pu (.int p)), some (.ow [.int u, .int v, .int t]), some (.pu (.int (a : Int))), some (.pu (rowD (rwF (a + 1) g))), some (.pu (.int (o : Int))), some (.pu (.int ((n - a * o : Nat) : Int))), some (.pu (rowD (rwF (n - a * o + 1) r))), none] ?_
    (fun i ρ => ∃ (x : Option B) (R : Nat × (Nat → Int)), ρ = [some (.pu (.rol (ns.map .int))), some (.pu (.int (n : Int))), some (.pu (.int p)), some (.ow [.int u, .int v, .int t]), some (.pu (.int (a : Int))), some (.pu (rowD (rwF (a + 1) g))), some (.pu (.int (o : Int))), some (.pu (.int ((n - a * o : Nat) : Int))), some (.pu (rowD (rwF (R.1 + 1) R.2))), x] ∧ MP p R.1 R.2 ∧ R.1 = n - a * o + a * i) ⟨none, (n - a * o, r), rfl, mr, rfl⟩ ?_ ?_
  · intro Q' q
    walk_at "u"
    refine ⟨⟨by omega, by omega⟩, ?_⟩
    rw [Int.toNat_natCast]
    exact q
  · rintro i ρ hi ⟨x, R, rfl, mR, dR⟩
    have hai : a * i ≤ a * o := Nat.mul_le_mul_left a (by omega)
    walk_at "u"
    refine ⟨by simp, R.1 + 1, a + 1, R.2, g, p, rowD (rwF (a + 1) g), rfl, .inl rfl, by omega, by omega, by omega, p3, mg.z, mR.rng, mg.rng, ?_⟩
    rw [tm_row p2 (a := R) (b := (a, g)) mR mg]
    exact ⟨some (.pu (.int (0 + (i : Int)))), tm p R (a, g), rfl, MP.tm p2 mR mg, by show R.1 + a = _; rw [dR, Nat.mul_succ]; omega⟩
  · rintro ρ ⟨x, R, rfl, mR, dR⟩
    have e : R.1 = n := by omega
    dsimp only
    unfold tr_places_of8
    walk_at "u"
    rw [e] at mR ⊢
    exact h _ mR
def φ_right : Φ := fun ds Q => ∃ (xs : List ((Nat × (Nat → Int)) × Nat)) (n : Nat) (f : Nat → Int) (p : Int), ds = [.lst (xs.map partD), rowD (rwF (n + 1) f), .int p] ∧ Pr p ∧ n ≤ 4 ∧ MP p n f ∧ SP p (n, f) xs ∧ Q (.pu (.bl true))
def tr_right4 : US := (uRet (uOp (gEqD false) (uVar 3) (uVar 1)))
def tr_right3 : US := (uSeq (uFor (uSeqI (uVar 0)) (uName 5) (uSeq (uIfS (uOr (uNot (uTst (uCall gIsi (uCons (uVar 5) (uCons (uC (.ty "tuple")) uNil))))) (uOr (uTst (uOp (gEqB true) (uLen (uVarV 5)) (uC (.int 2)))) (uOr (uNot (uTst (uCall φ_is_mod (uCons (uIx (uVarV 5) (uC (.int 0))) (uCons (uVar 2) uNil))))) (uNot (uTst (uCall φ_whole (uCons (uIx (uVarV 5) (uC (.int 1))) uNil))))))) (uRet (uC (.bl false))) uNext) (uSeq (uIfS (uOr (uTst (uOp (gCmp fun i j => decide (i < j)) (uLen (uV (uIx (uVarV 5) (uC (.int 0))))) (uC (.int 2)))) (uOr (uTst (uOp (gCmp fun i j => decide (j < i)) (uLen (uV (uIx (uVarV 5) (uC (.int 0))))) (uC (.int 5)))) (uOr (uTst (uOp (gEqB true) (uIx (uV (uIx (uVarV 5) (uC (.int 0)))) (uNeg (uC (.int 1)))) (uC (.int 1)))) (uOr (uTst (uOp (gCmp fun i j => decide (i < j)) (uIx (uVarV 5) (uC (.int 1))) (uC (.int 1)))) (uTst (uOp (gCmp fun i j => decide (j < i)) (uIx (uVarV 5) (uC (.int 1))) (uC (.int 4)))))))) (uRet (uC (.bl false))) uNext) (uSeq (uIfS (uOr (uTst (uOp gLeP (uTup (uCons (uLen (uV (uIx (uVarV 5) (uC (.int 0))))) (uCons (uIx (uVarV 5) (uC (.int 0))) uNil))) (uVar 4))) (uNot (uTst (uCall φ_mod_stays (uCons (uIx (uVarV 5) (uC (.int 0))) (uCons (uVar 2) uNil)))))) (uRet (uC (.bl false))) uNext) (uSeq (uSet 4 (uTup (uCons (uLen (uV (uIx (uVarV 5) (uC (.int 0))))) (uCons (uIx (uVarV 5) (uC (.int 0))) uNil)))) (uFor (uRng1 (uCons (uIx (uVarV 5) (uC (.int 1))) uNil)) (uName 6) (uSet 3 (uCall φ_mod_times (uCons (uVar 3) (uCons (uIx (uVarV 5) (uC (.int 0))) (uCons (uVar 2) uNil))))))))))) tr_right4)
def tr_right2 : US := (uSeq (uSet 4 (uTup (uCons (uC (.int 0)) (uCons (uTup uNil) uNil)))) tr_right3)
def tr_right1 : US := (uSeq (uSet 3 (uTup (uCons (uC (.int 1)) uNil))) tr_right2)
def tr_right : US := (uSeq (uIfS (uNot (uTst (uCall gIsi (uCons (uVar 0) (uCons (uC (.ty "list")) uNil))))) (uRet (uC (.bl false))) uNext) tr_right1)
theorem len_right : ∀ ds Q, φ_right ds Q → ds.length = 3 := by rintro ds Q ⟨xs, n, f, p, rfl, _⟩; rfl
theorem rd_right : ∀ ds Q, φ_right ds Q → tr_right { nx := fun _ => Q (.pu .non), rt := Q } (init ["f", "r", "p", "a", "l", "x", "g"] ds) := by
  rintro ds Q ⟨xs, n, f, p, rfl, pp, n4, mp, sp, h⟩
  have p2 := pp.lo
  have p3 := pp.hi
  unfold tr_right
  show (uSeq _ _ : US) _ [some (.pu (.lst (xs.map partD))), some (.pu (rowD (rwF (n + 1) f))), some (.pu (.int p)), none, none, none, none]
  rw [uSeq_eq]
  walk_at "u"
  unfold tr_right1
  rw [uSeq_eq]
  walk_at "u"
  refine ⟨by decide, ?_⟩
  unfold tr_right2
  rw [uSeq_eq]
  walk_at "u"
  refine ⟨by decide, by decide, ?_⟩
  unfold tr_right3
  rw [uSeq_eq]
  refine uFor_intro xs.length (fun i => (xs.map partD).getD i .non) [some (.pu (.lst (xs.map partD))), some (.pu (rowD (rwF (n + 1) f))), some (.pu (.int p)), some (.pu (.tup [.int 1])), some (.pu (.tup [.int 0, .tup []])), none, none] ?_
    (fun i ρ => ∃ (L : Int) (lr : List Int) (x y : Option B), ρ = [some (.pu (.lst (xs.map partD))), some (.pu (rowD (rwF (n + 1) f))), some (.pu (.int p)), some (.pu (rowD (rwF ((allT p oneF (xs.take i)).1 + 1) (allT p oneF (xs.take i)).2))), some (.pu (.tup [.int L, .tup (lr.map D.int)])), x, y] ∧
      ∀ j (hj : j < xs.length), i ≤ j → (if ((xs[j].1.1 + 1 : Nat) : Int) = L then leL (rwF (xs[j].1.1 + 1) xs[j].1.2) lr else decide (((xs[j].1.1 + 1 : Nat) : Int) ≤ L)) = false)
    ⟨0, [], none, none, rfl, fun j hj _ => by rw [if_neg (by omega)]; exact decide_eq_false (by omega)⟩ ?_ ?_
  · intro Q' q
    walk_at "u"
    rw [List.length_map]
    exact q
  · rintro i ρ hi ⟨L, lr, x, y, rfl, hL⟩
    have e3 : (xs.map partD).getD i .non = partD xs[i] := by
      rw [List.getD_eq_getElem?_getD, List.getElem?_map, List.getElem?_eq_getElem hi]
      rfl
    rw [e3]
    obtain ⟨mx, x1, x4, o1, o4, nr, nq⟩ := sp.mem _ (List.getElem_mem hi)
    have hlt := hL i hi (Nat.le_refl _)
    have hnx : ∀ j (hj : j < xs.length), i + 1 ≤ j → ltP xs[i] xs[j] := fun j hj h => List.pairwise_iff_getElem.mp sp.ord i j hi hj (by omega)
    have htk : xs.take (i + 1) = xs.take i ++ [xs[i]] := by rw [List.take_succ, List.getElem?_eq_getElem hi]; rfl
    have mA : MP p (allT p oneF (xs.take i)).1 (allT p oneF (xs.take i)).2 := MP.allT p2 _ (MP.one p2) fun y hy => (sp.mem y (List.mem_of_mem_take hy)).1
    have dA : (allT p oneF (xs.take i)).1 + xs[i].1.1 * xs[i].2 ≤ 4 := by
      have e := sp.prod
      have : xs = xs.take i ++ xs.drop i := (List.take_append_drop i xs).symm
      rw [this, allT_append] at e
      have hd := allT_deg p (xs.drop i) (allT p oneF (xs.take i)) xs[i] (by rw [List.drop_eq_getElem_cons hi]; exact .head _)
      rw [e] at hd
      exact Nat.le_trans hd n4
    generalize xs[i] = z at *
    generalize hF : allT p oneF (xs.take i) = F at *
    simp only [partD, rowD]
    have top1 : atI ((rwF (z.1.1 + 1) z.1.2).map D.int) (-1) = some (.int 1) := by rw [rwF_at_last (by omega), Nat.add_sub_cancel, mx.top]
    walk_at "u"
    refine ⟨by decide, z.1.1 + 1, z.1.2, p, rfl, by omega, .inr (by rw [Nat.add_sub_cancel, mx.top]; decide), mx.rng, ?_⟩
    walk_at "u"
    refine ⟨_, rfl, ?_⟩
    walk_at "u"
    rw [rwF_mlen, if_neg (by omega), if_neg (by omega), top1]
    dsimp only
    rw [if_neg (fun q => q rfl), if_neg (by omega), if_neg (by omega)]
    refine ⟨by decide, ((z.1.1 + 1 : Nat) : Int), L, rwF (z.1.1 + 1) z.1.2, lr, rfl, rfl, ?_⟩
    rw [hlt]
    dsimp only
    rw [if_neg (by decide)]
    refine ⟨z.1.1, z.1.2, p, rfl, pp, mx, x1, x4, nr, nq, ?_⟩
    dsimp only
    rw [if_neg (by decide)]
    refine ⟨by decide, ?_⟩
    refine uFor_intro z.2 (fun i => .int (0 + i)) [some (.pu (.lst (xs.map partD))), some (.pu (.tup ((rwF (n + 1) f).map .int))), some (.pu (.int p)), some (.pu (.tup ((rwF (F.1 + 1) F.2).map .int))), some (.pu (.tup [.int ((z.1.1 + 1 : Nat) : Int), .tup ((rwF (z.1.1 + 1) z.1.2).map .int)])), some (.pu (.tup [.tup ((rwF (z.1.1 + 1) z.1.2).map .int), .int (z.2 : Int)])), y] ?_
      (fun k ρ => ∃ y, ρ = [some (.pu (.lst (xs.map partD))), some (.pu (.tup ((rwF (n + 1) f).map .int))), some (.pu (.int p)), some (.pu (.tup ((rwF ((powT p F z.1 k).1 + 1) (powT p F z.1 k).2).map .int))), some (.pu (.tup [.int ((z.1.1 + 1 : Nat) : Int), .tup ((rwF (z.1.1 + 1) z.1.2).map .int)])), some (.pu (.tup [.tup ((rwF (z.1.1 + 1) z.1.2).map .int), .int (z.2 : Int)])), y]) ⟨y, rfl⟩ ?_ ?_
    · intro Q' q
      walk_at "u"
      refine ⟨⟨by omega, by omega⟩, ?_⟩
      rw [Int.toNat_natCast]
      exact q
    · rintro k ρ hk ⟨y, rfl⟩
      have mP := MP.powT p2 mA mx k
      have dP : (powT p F z.1 k).1 ≤ 4 := by
        rw [powT_deg]
        have : z.1.1 * k ≤ z.1.1 * z.2 := Nat.mul_le_mul_left _ (by omega)
        omega
      walk_at "u"
      refine ⟨by decide, (powT p F z.1 k).1 + 1, z.1.1 + 1, (powT p F z.1 k).2, z.1.2, p, rowD (rwF (z.1.1 + 1) z.1.2), rfl, .inl rfl, by omega, by omega, by omega, p3, mx.z, mP.rng, mx.rng, ?_⟩
      rw [tm_row p2 mP mx]
      exact ⟨some (.pu (.int (0 + (k : Int)))), rfl⟩
    · rintro ρ ⟨y, rfl⟩
      refine ⟨((z.1.1 + 1 : Nat) : Int), rwF (z.1.1 + 1) z.1.2, some (.pu (.tup [.tup ((rwF (z.1.1 + 1) z.1.2).map .int), .int (z.2 : Int)])), y, ?_, fun j hj hij => ?_⟩
      · rw [htk, allT_append, hF]
        rfl
      · rcases hnx j hj hij with lt | ⟨eq, lt⟩
        · rw [if_neg (by omega)]
          exact decide_eq_false (by omega)
        · rw [if_pos (by omega)]
          unfold leL
          rw [lt]
          rfl
  · rintro ρ ⟨L, lr, x, y, rfl, _⟩
    dsimp only
    rw [List.take_length, sp.prod]
    unfold tr_right4
    rw [uRet_eq, uOp_eq]
    walk_at "u"
    exact gEqD_row (by rw [Bool.false_xor, decide_eq_true rfl]; exact h)
def tr_law10 : US := (uRet (uCall φ_right (uCons (uCall φ_p_split_by (uCons (uVar 4) (uCons (uVar 1) uNil))) (uCons (uVar 3) (uCons (uVar 1) uNil)))))
def tr_law9 : US := (uSeq (uSetI 5 (uTup (uCons (uTup (uCons (uC (.int 0)) (uCons (uC (.int 1)) uNil))) (uCons (uC (.int 1)) uNil))) (uC (.int 0))) tr_law10)
def tr_law8 : US := (uSeq (uApp 5 (uTup (uCons (uTup (uCons (uC (.int 1)) (uCons (uC (.int 1)) uNil))) (uCons (uC (.int 1)) uNil)))) tr_law9)
def tr_law7 : US := (uSeq (uIfS (uLook (uOr (uNot (uTst (uCall gIsi (uCons (uVar 6) (uCons (uC (.ty "bool")) uNil))))) (uTst (uOp (gEqB true) (uVar 6) (uAndV (uOp (gEqB false) (uLen (uVarV 5)) (uC (.int 1))) (uOp (gEqB false) (uIx (uV (uIx (uVarV 5) (uC (.int 0)))) (uC (.int 1))) (uC (.int 1)))))))) (uRet (uC (.bl false))) uNext) tr_law8)
def tr_law6 : US := (uSeq (uSet 6 (uCall φ_p_stays (uCons (uVar 4) (uCons (uVar 1) uNil)))) tr_law7)
def tr_law5 : US := (uSeq (uIfS (uLook (uNot (uTst (uCall φ_right (uCons (uVar 5) (uCons (uVar 3) (uCons (uVar 1) uNil))))))) (uRet (uC (.bl false))) uNext) tr_law6)
def tr_law4 : US := (uSeq (uSet 5 (uCall φ_p_split_by (uCons (uVar 4) (uCons (uVar 1) uNil)))) tr_law5)
def tr_law3 : US := (uSeq (uSet 4 (uCall gTupleOf (uCons (uOp gAdd (uCall φ_written (uCons (uSlT (uVar 3) uNoPart (uPart (uNeg (uC (.int 1))))) (uCons (uVar 1) (uCons (uCall φ_cell (uCons (uVar 0) (uCons (uC (.int 6)) uNil))) (uCons (uC (.int 999999757)) uNil))))) (uLst (uCons (uC (.int 1)) uNil))) uNil))) tr_law4)
def tr_law2 : US := (uSeq (uSet 3 (uCall φ_places_of (uCons (uVar 0) (uCons (uVar 2) (uCons (uVar 1) uNil))))) tr_law3)
def tr_law1 : US := (uSeq (uSet 2 (uOp gAdd (uC (.int 1)) (uIx (uV (uCall φ_draws (uCons (uCall φ_cell (uCons (uVar 0) (uCons (uC (.int 1)) uNil))) (uCons (uLst (uCons (uC (.int 4)) uNil)) (uCons (uC (.int 999999929)) uNil))))) (uC (.int 0))))) tr_law2)
def tr_law : US := (uSeq (uSet 1 (uCall φ_prime (uCons (uCall φ_cell (uCons (uVar 0) (uCons (uC (.int 0)) uNil))) (uCons (uC (.int 999999937)) uNil)))) tr_law1)
theorem rd_law : ∀ ds Q, φLaw ds Q → tr_law { nx := fun _ => Q (.pu .non), rt := Q } (init ["s", "p", "d", "r", "o", "f", "t"] ds) := by
  rintro ds Q ⟨ns, rfl, hl, hQ⟩
  unfold tr_law
  show (uSeq _ _ : US) _ [some (.pu (.rol (ns.map .int))), none, none, none, none, none, none]
  rw [uSeq_eq]
  walk_at "u"
  refine ⟨ns, 0, rfl, hl, by decide, by decide, fun c => ⟨c, 999999937, rfl, by decide, fun p hp => ?_⟩⟩
  have pp := prL_ok hp
  have p2 := pp.lo
  have p3 := pp.hi
  try dsimp only
  unfold tr_law1
  rw [uSeq_eq]
  walk_at "u"
  refine ⟨ns, 1, rfl, hl, by decide, by decide, fun c => ⟨by decide, c, [4], 999999929, rfl, by decide, by decide, by decide, fun xs hx => ?_⟩⟩
  obtain ⟨u, rfl⟩ : ∃ u, xs = [u] := by
    match xs, hx.1 with
    | [u], _ => exact ⟨u, rfl⟩
  have bu := hx.2 0 u 4 rfl rfl
  simp only [List.map_cons, List.map_nil, atI_head]
  obtain ⟨n, hn, n1, n4⟩ : ∃ n : Nat, 1 + u = (n : Int) ∧ 1 ≤ n ∧ n ≤ 4 := ⟨(1 + u).toNat, by omega, by omega, by omega⟩
  rw [hn]
  try dsimp only
  unfold tr_law2
  rw [uSeq_eq]
  walk_at "u"
  refine ⟨ns, n, p, rfl, hl, n1, n4, pp, fun f mp => ?_⟩
  try dsimp only
  unfold tr_law3
  rw [uSeq_eq]
  simp only [rowD]
  walk_at "u"
  have ec : cutD ((rwF (n + 1) f).map D.int) none (some (-1)) = (rwF n f).map D.int := by
    unfold cutD
    rw [rwF_mlen, HT.sIx_none]
    have e : HT.sIx (n + 1) (n + 1) (some (-1)) = n := by
      show (if (-1 : Int) < 0 then (-1 + ((n + 1 : Nat) : Int)).toNat else min (-1 : Int).toNat (n + 1)) = n
      rw [if_pos (by decide)]
      omega
    rw [e, List.drop_zero, Nat.sub_zero, ← List.map_take, rwF_take _ _ _ (by omega)]
  rw [ec]
  refine ⟨ns, 6, rfl, hl, by decide, by decide, fun c => ⟨n, f, p, c, 999999757, _, rfl, .inl rfl, by omega, by omega, by omega, by decide, fun g hg => ?_⟩⟩
  walk_at "u"
  rw [rwF_snoc]
  refine ⟨by decide, by rw [rwF_mlen]; exact Nat.le_trans (show n + 1 ≤ 5 by omega) (by decide), ?_⟩
  have eg : md p (fun j => if j = n then 1 else g j) = f := funext fun j => by
    show (if j = n then 1 else g j) % p = f j
    by_cases c : j = n
    · rw [if_pos c, c, mp.top]
      exact Int.emod_eq_of_lt (by decide) (by omega)
    · rw [if_neg c, hg j]
      exact Int.emod_eq_of_lt (mp.rng j).1 (mp.rng j).2
  generalize (fun j => if j = n then (1 : Int) else g j) = G at *
  try dsimp only
  unfold tr_law4
  rw [uSeq_eq]
  walk_at "u"
  refine ⟨n, G, p, rfl, n4, hp, by rw [eg]; exact mp, fun xs sp => ?_⟩
  rw [eg] at sp
  try dsimp only
  unfold tr_law5
  rw [uSeq_eq]
  walk_at "u"
  refine ⟨xs, n, f, p, rfl, pp, n4, mp, sp, ?_⟩
  walk_at "u"
  try dsimp only
  unfold tr_law6
  rw [uSeq_eq]
  walk_at "u"
  refine ⟨n, G, p, rfl, n4, hp, by rw [eg]; exact mp, fun ys sy => ?_⟩
  rw [eg] at sy
  have eb : stB ys = stB xs := by
    have a := stB_iff pp (F := (n, f)) mp n1 n4 sp
    have b := stB_iff pp (F := (n, f)) mp n1 n4 sy
    cases h1 : stB xs <;> cases h2 : stB ys <;> first | rfl | (rw [h1] at a; rw [h2] at b; simp_all)
  rw [eb]
  have tail : tr_law8 { nx := fun _ => Q (.pu .non), rt := Q } [some (.pu (.rol (ns.map .int))), some (.pu (.int p)), some (.pu (.int (n : Int))), some (.pu (.tup ((rwF (n + 1) f).map .int))), some (.pu (.tup ((rwF (n + 1) G).map .int))), some (.ow (xs.map partD)), some (.pu (.bl (stB xs)))] := by
    try dsimp only
    unfold tr_law8
    rw [uSeq_eq]
    walk_at "u"
    refine ⟨by decide, by decide, by rw [List.length_map]; exact Nat.lt_of_le_of_lt sp.len (by decide), ?_⟩
    try dsimp only
    unfold tr_law9
    rw [uSeq_eq]
    walk_at "u"
    have e3 : ∀ m : Nat, ixN (m + 1) 0 = some 0 := fun m => ix_nat (i := 0) (by omega)
    rw [List.length_append, List.length_cons, List.length_nil, Nat.zero_add, e3]
    dsimp only
    refine ⟨by decide, by decide, ?_⟩
    try dsimp only
    unfold tr_law10
    walk_at "u"
    refine ⟨n, G, p, rfl, n4, hp, by rw [eg]; exact mp, fun zs sz => ?_⟩
    rw [eg] at sz
    exact ⟨zs, n, f, p, rfl, pp, n4, mp, sz, hQ⟩
  try dsimp only
  unfold tr_law7
  rw [uSeq_eq]
  walk_at "u"
  rw [if_pos (.inr trivial), List.length_map]
  cases xs with
  | nil =>
    rw [if_neg (by decide), if_neg (fun q => q rfl)]
    exact tail
  | cons x l =>
    cases l with
    | nil =>
      rw [if_pos (by rfl)]
      simp only [List.map_cons, List.map_nil, atI_head, partD, at1]
      have e : stB [x] = decide ((x.2 : Int) = 1) := by
        show decide (x.2 = 1) = _
        by_cases c : x.2 = 1
        · rw [decide_eq_true c, decide_eq_true (by omega)]
        · rw [decide_eq_false c, decide_eq_false (by omega)]
      rw [if_neg (fun q => q e)]
      exact tail
    | cons y l =>
      rw [if_neg (by simp; omega), if_neg (fun q => q rfl)]
      exact tail
theorem bt_sorted : bootBuiltins "sorted" = some (.builtin "sorted") := by decide +kernel
end M
end
namespace M
open PySem PySem.Spec PyProof.Rows L2
set_option maxHeartbeats 4000000
def top (i : Nat) : Stmt := PySem.Challenge.pw_ringhouse_k10_whole_split.main.body.getD i (.Pass ⟨0, 0, 0, 0⟩)
abbrev s_p_cut : Stmt := top 4
abbrev s_p_poly_parted : Stmt := top 5
abbrev s_p_poly_at : Stmt := top 6
abbrev s_p_mod_poly : Stmt := top 8
abbrev s_p_mod_parted : Stmt := top 9
abbrev s_p_scaled : Stmt := top 10
abbrev s_p_inverse_of : Stmt := top 11
abbrev s_p_small_primes : Stmt := top 14
abbrev s_p_split_by : Stmt := top 16
abbrev s_p_stays : Stmt := top 17
abbrev s_p_lines_out : Stmt := top 18
abbrev s_p_rootless_parts : Stmt := top 19
abbrev s_p_two_by_two : Stmt := top 20
abbrev s_mixed : Stmt := top 22
abbrev s_draws : Stmt := top 23
abbrev s_cell : Stmt := top 24
abbrev s_mod_places : Stmt := top 25
abbrev s_cut : Stmt := top 26
abbrev s_mod_times : Stmt := top 27
abbrev s_whole : Stmt := top 28
abbrev s_is_poly : Stmt := top 29
abbrev s_is_mod : Stmt := top 30
abbrev s_mod_value : Stmt := top 31
abbrev s_mod_stays : Stmt := top 32
abbrev s_primes : Stmt := top 33
abbrev s_prime : Stmt := top 34
abbrev s_written : Stmt := top 35
abbrev s_places_of : Stmt := top 36
abbrev s_right : Stmt := top 37
abbrev s_law : Stmt := top 38
theorem sc_p_cut : FnScope ["row", "size"] ["row"] (defScope s_p_cut) := ⟨rfl, rfl, rfl, by decide +kernel, rfl, by decide +kernel, by decide +kernel⟩
theorem sc_p_poly_parted : FnScope ["f", "g", "degree", "size", "left", "quotient", "at", "many", "j", "c"] ["f", "g"] (defScope s_p_poly_parted) := ⟨rfl, rfl, rfl, by decide +kernel, rfl, by decide +kernel, by decide +kernel⟩
theorem sc_p_poly_at : FnScope ["f", "z", "value", "c"] ["f", "z"] (defScope s_p_poly_at) := ⟨rfl, rfl, rfl, by decide +kernel, rfl, by decide +kernel, by decide +kernel⟩
theorem sc_p_mod_poly : FnScope ["row", "p"] ["row", "p"] (defScope s_p_mod_poly) := ⟨rfl, rfl, rfl, by decide +kernel, rfl, by decide +kernel, by decide +kernel⟩
theorem sc_p_mod_parted : FnScope ["a", "b", "p", "low", "turn", "quotient", "rest"] ["a", "b", "p"] (defScope s_p_mod_parted) := ⟨rfl, rfl, rfl, by decide +kernel, rfl, by decide +kernel, by decide +kernel⟩
theorem sc_p_scaled : FnScope ["f", "k", "p"] ["f", "k", "p"] (defScope s_p_scaled) := ⟨rfl, rfl, rfl, by decide +kernel, rfl, by decide +kernel, by decide +kernel⟩
theorem sc_p_inverse_of : FnScope ["c", "p", "value", "step"] ["c", "p"] (defScope s_p_inverse_of) := ⟨rfl, rfl, rfl, by decide +kernel, rfl, by decide +kernel, by decide +kernel⟩
theorem sc_p_small_primes : FnScope [] [] (defScope s_p_small_primes) := ⟨rfl, rfl, rfl, by decide +kernel, rfl, by decide +kernel, by decide +kernel⟩
theorem sc_p_split_by : FnScope ["poly", "p", "parts", "left"] ["poly", "p"] (defScope s_p_split_by) := ⟨rfl, rfl, rfl, by decide +kernel, rfl, by decide +kernel, by decide +kernel⟩
theorem sc_p_stays : FnScope ["poly", "p", "parts"] ["poly", "p"] (defScope s_p_stays) := ⟨rfl, rfl, rfl, by decide +kernel, rfl, by decide +kernel, by decide +kernel⟩
theorem sc_p_lines_out : FnScope ["f", "p", "parts", "left", "c", "often"] ["f", "p"] (defScope s_p_lines_out) := ⟨rfl, rfl, rfl, by decide +kernel, rfl, by decide +kernel, by decide +kernel⟩
theorem sc_p_rootless_parts : FnScope ["f", "p", "pair"] ["f", "p"] (defScope s_p_rootless_parts) := ⟨rfl, rfl, rfl, by decide +kernel, rfl, by decide +kernel, by decide +kernel⟩
theorem sc_p_two_by_two : FnScope ["f", "p", "u", "s", "total", "v", "w"] ["f", "p"] (defScope s_p_two_by_two) := ⟨rfl, rfl, rfl, by decide +kernel, rfl, by decide +kernel, by decide +kernel⟩
theorem sc_mixed : FnScope ["_law_cell_here", "_law_k", "_law_prime_here", "_law_far"] ["_law_cell_here", "_law_k", "_law_prime_here"] (defScope s_mixed) := ⟨rfl, rfl, rfl, by decide +kernel, rfl, by decide +kernel, by decide +kernel⟩
theorem sc_draws : FnScope ["_law_cell_here", "_law_widths", "_law_prime_here", "_law_left", "_law_found", "_law_k"] ["_law_cell_here", "_law_widths", "_law_prime_here"] (defScope s_draws) := ⟨rfl, rfl, rfl, by decide +kernel, rfl, by decide +kernel, by decide +kernel⟩
theorem sc_cell : FnScope ["_law_script", "_law_k"] ["_law_script", "_law_k"] (defScope s_cell) := ⟨rfl, rfl, rfl, by decide +kernel, rfl, by decide +kernel, by decide +kernel⟩
theorem sc_mod_places : FnScope ["_law_cell_here", "_law_many", "_law_p", "_law_prime_here"] ["_law_cell_here", "_law_many", "_law_p", "_law_prime_here"] (defScope s_mod_places) := ⟨rfl, rfl, rfl, by decide +kernel, rfl, by decide +kernel, by decide +kernel⟩
theorem sc_cut : FnScope ["_law_row", "_law_many"] ["_law_row"] (defScope s_cut) := ⟨rfl, rfl, rfl, by decide +kernel, rfl, by decide +kernel, by decide +kernel⟩
theorem sc_mod_times : FnScope ["_law_f", "_law_g", "_law_p", "_law_raw", "_law_i", "_law_j"] ["_law_f", "_law_g", "_law_p"] (defScope s_mod_times) := ⟨rfl, rfl, rfl, by decide +kernel, rfl, by decide +kernel, by decide +kernel⟩
theorem sc_whole : FnScope ["_law_found"] ["_law_found"] (defScope s_whole) := ⟨rfl, rfl, rfl, by decide +kernel, rfl, by decide +kernel, by decide +kernel⟩
theorem sc_is_poly : FnScope ["_law_found"] ["_law_found"] (defScope s_is_poly) := ⟨rfl, rfl, rfl, by decide +kernel, rfl, by decide +kernel, by decide +kernel⟩
theorem sc_is_mod : FnScope ["_law_found", "_law_p"] ["_law_found", "_law_p"] (defScope s_is_mod) := ⟨rfl, rfl, rfl, by decide +kernel, rfl, by decide +kernel, by decide +kernel⟩
theorem sc_mod_value : FnScope ["_law_f", "_law_z", "_law_p", "_law_total", "_law_place"] ["_law_f", "_law_z", "_law_p"] (defScope s_mod_value) := ⟨rfl, rfl, rfl, by decide +kernel, rfl, by decide +kernel, by decide +kernel⟩
theorem sc_mod_stays : FnScope ["_law_g", "_law_p", "_law_back", "_law_k", "_law_b", "_law_d", "_law_turn"] ["_law_g", "_law_p"] (defScope s_mod_stays) := ⟨rfl, rfl, rfl, by decide +kernel, rfl, by decide +kernel, by decide +kernel⟩
theorem sc_primes : FnScope [] [] (defScope s_primes) := ⟨rfl, rfl, rfl, by decide +kernel, rfl, by decide +kernel, by decide +kernel⟩
theorem sc_prime : FnScope ["_law_cell_here", "_law_prime_here", "_law_found"] ["_law_cell_here", "_law_prime_here"] (defScope s_prime) := ⟨rfl, rfl, rfl, by decide +kernel, rfl, by decide +kernel, by decide +kernel⟩
theorem sc_written : FnScope ["_law_places", "_law_p", "_law_cell_here", "_law_prime_here", "_law_found", "_law_far"] ["_law_places", "_law_p", "_law_cell_here", "_law_prime_here"] (defScope s_written) := ⟨rfl, rfl, rfl, by decide +kernel, rfl, by decide +kernel, by decide +kernel⟩
theorem sc_places_of : FnScope ["_law_script", "_law_degree", "_law_p", "_law_way", "_law_first", "_law_g", "_law_goes", "_law_left", "_law_raw", "_law_again"] ["_law_script", "_law_degree", "_law_p"] (defScope s_places_of) := ⟨rfl, rfl, rfl, by decide +kernel, rfl, by decide +kernel, by decide +kernel⟩
theorem sc_right : FnScope ["_law_found", "_law_raw", "_law_p", "_law_far", "_law_last", "_law_row", "_law_again"] ["_law_found", "_law_raw", "_law_p"] (defScope s_right) := ⟨rfl, rfl, rfl, by decide +kernel, rfl, by decide +kernel, by decide +kernel⟩
theorem sc_law : FnScope ["_law_script", "_law_p", "_law_degree", "_law_raw", "_law_poly", "_law_found", "_law_told"] ["_law_script"] (defScope s_law) := ⟨rfl, rfl, rfl, by decide +kernel, rfl, by decide +kernel, by decide +kernel⟩
section
variable {P : Program} {w : World} {K : PySem.W.Frag} {mg : Str → Option Value} {base : Heap}
theorem der_p_cut (z_len : mg "len" = none)    {f : Addr} {cdv : Value} {A : Around} {outer : List Env} {s : Shared} {H : Hp} {E : XK} (hr : Room 0 (A.deeper (envOfC "cut" (defScope s_p_cut) s.heap.objs.size f cdv))) :
    PUSs (cxOf CX0 P w K mg base ["row", "size"] "cut" (defScope s_p_cut) f cdv A outer s H E).nox (defBody s_p_cut) tr_p_cut :=
  (us_cons (us_set 1 sc_p_cut.nd rfl (Or.inl rfl) (pu_len (pv_var 0 (pv 0)) rfl z_len) (hl := il (n := 2) rfl (by decide))) (us_cons (us_while PassesOwn.never (PUW.pt (pw_andU (pt_cmpU ou_gt (pu_var 1 (pv 1)) pu_int (nomark _)) (pw_and1U (pt_cmpU ou_eq (pu_ix (pv_var 0 (pv 0)) (pu_op ou_sub (pu_var 1 (pv 1)) pu_int) (fun _ _ => rfl)) pu_int (nomark _))))) (us_one (us_aug 1 sc_p_cut.nd rfl (Or.inl rfl) pu_int iu_sub (hl := il (n := 2) rfl (by decide))))) (us_one (us_ret (pu_sliceT (pu_var 0 (pv 0)) puo_none (puo_some (pu_var 1 (pv 1))))))))
theorem der_p_poly_parted (z_len : mg "len" = none) (z_max : mg "max" = none) (z_list : mg "list" = none) (z_reversed : mg "reversed" = none) (z_range : mg "range" = none) (z_enumerate : mg "enumerate" = none) (z_tuple : mg "tuple" = none)   (F_p_cut : Fn P w K mg base "cut" ["row"] 1 φ_p_cut) {f : Addr} {cdv : Value} {A : Around} {outer : List Env} {s : Shared} {H : Hp} {E : XK} (hr : Room 1 (A.deeper (envOfC "poly_parted" (defScope s_p_poly_parted) s.heap.objs.size f cdv))) :
    PUSs (cxOf CX0 P w K mg base ["f", "g", "degree", "size", "left", "quotient", "at", "many", "j", "c"] "poly_parted" (defScope s_p_poly_parted) f cdv A outer s H E).nox (defBody s_p_poly_parted) tr_p_poly_parted :=
  (us_cons (us_set 2 sc_p_poly_parted.nd rfl (Or.inl rfl) (pu_op ou_sub (pu_len (pv_var 1 (pv 1)) rfl z_len) pu_int) (hl := il (n := 10) rfl (by decide))) (us_cons (us_set 3 sc_p_poly_parted.nd rfl (Or.inl rfl) (pu_callB (cu_max rfl) rfl z_max bt_max (pua_cons pu_int (pua_cons (pu_op ou_sub (pu_len (pv_var 0 (pv 0)) rfl z_len) (pu_var 2 (pv 2))) pua_nil))) (hl := il (n := 10) rfl (by decide))) (us_cons (us_set 4 sc_p_poly_parted.nd rfl (Or.inl rfl) (pu_callTy cu_list rfl z_list bt_list (pua_cons (pu_var 0 (pv 0)) pua_nil)) (hl := il (n := 10) rfl (by decide))) (us_cons (us_set 5 sc_p_poly_parted.nd rfl (Or.inl rfl) (pu_op ou_mul (pu_lst (pua_cons pu_int pua_nil)) (pu_var 3 (pv 3))) (hl := il (n := 10) rfl (by decide))) (us_cons (us_for PassesOwn.never rfl (ui_revR rfl z_reversed rfl z_range (pua_cons (pu_var 3 (pv 3)) pua_nil)) (ug_name 6 (pg_name sc_p_poly_parted.nd rfl (Or.inl rfl))) (us_cons (us_set 7 sc_p_poly_parted.nd rfl (Or.inl rfl) (pu_ix (pv_var 4 (pv 4)) (pu_op ou_add (pu_var 6 (pv 6)) (pu_var 2 (pv 2))) (fun _ _ => rfl)) (hl := il (n := 10) rfl (by decide))) (us_cons (us_setItem 5 (pv 5) (pu_var 7 (pv 7)) (pu_var 6 (pv 6))) (us_one (us_for PassesOwn.never rfl (ui_enum rfl z_enumerate (pua_cons (pu_var 1 (pv 1)) pua_nil)) (ug_tup rfl (ugs_cons 8 (pg_name sc_p_poly_parted.nd rfl (Or.inl rfl)) (ugs_cons 9 (pg_name sc_p_poly_parted.nd rfl (Or.inl rfl)) ugs_nil)) (glen_cons (glen_cons glen_nil))) (us_one (us_augI 4 (pv 4) (pu_op ou_add (pu_var 6 (pv 6)) (pu_var 8 (pv 8))) (pu_op ou_mul (pu_var 7 (pv 7)) (pu_var 9 (pv 9))) ip_sub))))))) (us_one (us_ret (pu_tup (pua_cons (pu_fn F_p_cut hr (by decide) rfl (pua_cons (pu_callTy cu_tuple rfl z_tuple bt_tuple (pua_cons (pu_var 5 (pv 5)) pua_nil)) pua_nil)) (pua_cons (pu_fn F_p_cut hr (by decide) rfl (pua_cons (pu_callTy cu_tuple rfl z_tuple bt_tuple (pua_cons (pu_var 4 (pv 4)) pua_nil)) pua_nil)) pua_nil))))))))))
theorem der_p_poly_at (z_reversed : mg "reversed" = none)    {f : Addr} {cdv : Value} {A : Around} {outer : List Env} {s : Shared} {H : Hp} {E : XK} (hr : Room 0 (A.deeper (envOfC "poly_at" (defScope s_p_poly_at) s.heap.objs.size f cdv))) :
    PUSs (cxOf CX0 P w K mg base ["f", "z", "value", "c"] "poly_at" (defScope s_p_poly_at) f cdv A outer s H E).nox (defBody s_p_poly_at) tr_p_poly_at :=
  (us_cons (us_set 2 sc_p_poly_at.nd rfl (Or.inl rfl) pu_int (hl := il (n := 4) rfl (by decide))) (us_cons (us_for PassesOwn.never rfl (ui_revT rfl z_reversed (pua_cons (pu_var 0 (pv 0)) pua_nil)) (ug_name 3 (pg_name sc_p_poly_at.nd rfl (Or.inl rfl))) (us_one (us_set 2 sc_p_poly_at.nd rfl (Or.inl rfl) (pu_op ou_add (pu_op ou_mul (pu_var 2 (pv 2)) (pu_var 1 (pv 1))) (pu_var 3 (pv 3))) (hl := il (n := 4) rfl (by decide))))) (us_one (us_retV 2 (pv 2)))))
theorem der_p_mod_poly (z_tuple : mg "tuple" = none)   (F_p_cut : Fn P w K mg base "cut" ["row"] 1 φ_p_cut) {f : Addr} {cdv : Value} {A : Around} {outer : List Env} {s : Shared} {H : Hp} {E : XK} (hr : Room 1 (A.deeper (envOfC "mod_poly" (defScope s_p_mod_poly) s.heap.objs.size f cdv))) :
    PUSs (cxOf CX0 P w K mg base ["row", "p"] "mod_poly" (defScope s_p_mod_poly) f cdv A outer s H E).nox (defBody s_p_mod_poly) tr_p_mod_poly :=
  (us_one (us_ret (pu_fn F_p_cut hr (by decide) rfl (pua_cons (pu_callTy cu_tuple rfl z_tuple bt_tuple (pua_cons (pu_compL (js := [1]) (N := ["c", "p", ".acc"]) (cap := [none, some 1, none]) (last := 2) (esc := (defScope s_p_mod_poly).names) (XN := ["row", "p"]) rfl rfl (by decide +kernel) (by decide) (by decide) rfl (ui_seq (pu_var 0 (pv 0))) (fun _ _ _ _ _ _ => (ug_name 0 (pg_name (show List.Nodup (["c", "p", ".acc"] : List Str) by decide +kernel) rfl (Or.inl rfl)))) (fun _ _ _ _ _ _ => put_nil) (fun _ _ _ _ _ _ => (pu_op ou_mod (pu_var 0 (pv 0)) (pu_var 1 (pv 1))))) pua_nil)) pua_nil))))
theorem der_p_mod_parted    (F_p_mod_poly : Fn P w K mg base "mod_poly" ["row", "p"] 2 φ_p_mod_poly) (F_p_inverse_of : Fn P w K mg base "inverse_of" ["c", "p"] 1 φ_p_inverse_of) (F_p_poly_parted : Fn P w K mg base "poly_parted" ["f", "g"] 2 φ_p_poly_parted) (F_p_scaled : Fn P w K mg base "scaled" ["f", "k", "p"] 3 φ_p_scaled) {f : Addr} {cdv : Value} {A : Around} {outer : List Env} {s : Shared} {H : Hp} {E : XK} (hr : Room 3 (A.deeper (envOfC "mod_parted" (defScope s_p_mod_parted) s.heap.objs.size f cdv))) :
    PUSs (cxOf CX0 P w K mg base ["a", "b", "p", "low", "turn", "quotient", "rest"] "mod_parted" (defScope s_p_mod_parted) f cdv A outer s H E).nox (defBody s_p_mod_parted) tr_p_mod_parted :=
  (us_cons (us_set 3 sc_p_mod_parted.nd rfl (Or.inl rfl) (pu_fn F_p_mod_poly hr (by decide) rfl (pua_cons (pu_var 1 (pv 1)) (pua_cons (pu_var 2 (pv 2)) pua_nil))) (hl := il (n := 7) rfl (by decide))) (us_cons (us_set 4 sc_p_mod_parted.nd rfl (Or.inl rfl) (pu_fn F_p_inverse_of hr (by decide) rfl (pua_cons (pu_ix (pv_var 3 (pv 3)) (pu_neg pu_int) (fun _ _ => rfl)) (pua_cons (pu_var 2 (pv 2)) pua_nil))) (hl := il (n := 7) rfl (by decide))) (us_cons (us_asg (pu_fn F_p_poly_parted hr (by decide) rfl (pua_cons (pu_fn F_p_mod_poly hr (by decide) rfl (pua_cons (pu_var 0 (pv 0)) (pua_cons (pu_var 2 (pv 2)) pua_nil))) (pua_cons (pu_fn F_p_scaled hr (by decide) rfl (pua_cons (pu_var 3 (pv 3)) (pua_cons (pu_var 4 (pv 4)) (pua_cons (pu_var 2 (pv 2)) pua_nil)))) pua_nil))) (ug_tup rfl (ugs_cons 5 (pg_name sc_p_mod_parted.nd rfl (Or.inl rfl)) (ugs_cons 6 (pg_name sc_p_mod_parted.nd rfl (Or.inl rfl)) ugs_nil)) (glen_cons (glen_cons glen_nil)))) (us_one (us_ret (pu_tup (pua_cons (pu_fn F_p_scaled hr (by decide) rfl (pua_cons (pu_var 5 (pv 5)) (pua_cons (pu_var 4 (pv 4)) (pua_cons (pu_var 2 (pv 2)) pua_nil)))) (pua_cons (pu_fn F_p_mod_poly hr (by decide) rfl (pua_cons (pu_var 6 (pv 6)) (pua_cons (pu_var 2 (pv 2)) pua_nil))) pua_nil))))))))
theorem der_p_scaled (z_tuple : mg "tuple" = none)   (F_p_mod_poly : Fn P w K mg base "mod_poly" ["row", "p"] 2 φ_p_mod_poly) {f : Addr} {cdv : Value} {A : Around} {outer : List Env} {s : Shared} {H : Hp} {E : XK} (hr : Room 2 (A.deeper (envOfC "scaled" (defScope s_p_scaled) s.heap.objs.size f cdv))) :
    PUSs (cxOf CX0 P w K mg base ["f", "k", "p"] "scaled" (defScope s_p_scaled) f cdv A outer s H E).nox (defBody s_p_scaled) tr_p_scaled :=
  (us_one (us_ret (pu_fn F_p_mod_poly hr (by decide) rfl (pua_cons (pu_callTy cu_tuple rfl z_tuple bt_tuple (pua_cons (pu_compL (js := [1]) (N := ["c", "k", ".acc"]) (cap := [none, some 1, none]) (last := 2) (esc := (defScope s_p_scaled).names) (XN := ["f", "k", "p"]) rfl rfl (by decide +kernel) (by decide) (by decide) rfl (ui_seq (pu_var 0 (pv 0))) (fun _ _ _ _ _ _ => (ug_name 0 (pg_name (show List.Nodup (["c", "k", ".acc"] : List Str) by decide +kernel) rfl (Or.inl rfl)))) (fun _ _ _ _ _ _ => put_nil) (fun _ _ _ _ _ _ => (pu_op ou_mul (pu_var 1 (pv 1)) (pu_var 0 (pv 0))))) pua_nil)) (pua_cons (pu_var 2 (pv 2)) pua_nil)))))
theorem der_p_inverse_of (z_range : mg "range" = none)    {f : Addr} {cdv : Value} {A : Around} {outer : List Env} {s : Shared} {H : Hp} {E : XK} (hr : Room 0 (A.deeper (envOfC "inverse_of" (defScope s_p_inverse_of) s.heap.objs.size f cdv))) :
    PUSs (cxOf CX0 P w K mg base ["c", "p", "value", "step"] "inverse_of" (defScope s_p_inverse_of) f cdv A outer s H E).nox (defBody s_p_inverse_of) tr_p_inverse_of :=
  (us_cons (us_set 2 sc_p_inverse_of.nd rfl (Or.inl rfl) pu_int (hl := il (n := 4) rfl (by decide))) (us_cons (us_for PassesOwn.never rfl (ui_range1 rfl z_range (pua_cons (pu_op ou_sub (pu_var 1 (pv 1)) pu_int) pua_nil)) (ug_name 3 (pg_name sc_p_inverse_of.nd rfl (Or.inl rfl))) (us_one (us_set 2 sc_p_inverse_of.nd rfl (Or.inl rfl) (pu_op ou_mod (pu_op ou_mul (pu_var 2 (pv 2)) (pu_var 0 (pv 0))) (pu_var 1 (pv 1))) (hl := il (n := 4) rfl (by decide))))) (us_one (us_retV 2 (pv 2)))))
theorem der_p_small_primes (z_list : mg "list" = none)  {a_SMALL_PRIMES : Addr} (g_SMALL_PRIMES : mg "SMALL_PRIMES" = some (.ref a_SMALL_PRIMES)) (k_SMALL_PRIMES : KT K a_SMALL_PRIMES (T_SMALL_PRIMES.map V.int))  {f : Addr} {cdv : Value} {A : Around} {outer : List Env} {s : Shared} {H : Hp} {E : XK} (hr : Room 0 (A.deeper (envOfC "small_primes" (defScope s_p_small_primes) s.heap.objs.size f cdv))) :
    PUSs (cxOf CX0 P w K mg base [] "small_primes" (defScope s_p_small_primes) f cdv A outer s H E).nox (defBody s_p_small_primes) tr_p_small_primes :=
  (us_one (us_ret (pu_callTy cu_list rfl z_list bt_list (pua_cons (pu_gtup rfl g_SMALL_PRIMES k_SMALL_PRIMES) pua_nil))))
theorem der_p_split_by    (F_p_small_primes : Fn P w K mg base "small_primes" [] 1 φ_p_small_primes) (F_p_lines_out : Fn P w K mg base "lines_out" ["f", "p"] 5 φ_p_lines_out) (F_p_mod_poly : Fn P w K mg base "mod_poly" ["row", "p"] 2 φ_p_mod_poly) (F_p_rootless_parts : Fn P w K mg base "rootless_parts" ["f", "p"] 2 φ_p_rootless_parts) {f : Addr} {cdv : Value} {A : Around} {outer : List Env} {s : Shared} {H : Hp} {E : XK} (hr : Room 5 (A.deeper (envOfC "split_by" (defScope s_p_split_by) s.heap.objs.size f cdv))) :
    PUSs (cxOf CX0 P w K mg base ["poly", "p", "parts", "left"] "split_by" (defScope s_p_split_by) f cdv A outer s H E).nox (defBody s_p_split_by) tr_p_split_by :=
  (us_cons (us_if (pt_cmpU ou_notin (pu_var 1 (pv 1)) (pu_fn0 F_p_small_primes hr (by decide) rfl) rfl) (us_one us_never) us_nil) (us_cons (us_asg (pu_fn F_p_lines_out hr (by decide) rfl (pua_cons (pu_fn F_p_mod_poly hr (by decide) rfl (pua_cons (pu_var 0 (pv 0)) (pua_cons (pu_var 1 (pv 1)) pua_nil))) (pua_cons (pu_var 1 (pv 1)) pua_nil))) (ug_tup rfl (ugs_cons 2 (pg_name sc_p_split_by.nd rfl (Or.inl rfl)) (ugs_cons 3 (pg_name sc_p_split_by.nd rfl (Or.inl rfl)) ugs_nil)) (glen_cons (glen_cons glen_nil)))) (us_one (us_ret (pu_op ou_add (pu_var 2 (pv 2)) (pu_fn F_p_rootless_parts hr (by decide) rfl (pua_cons (pu_var 3 (pv 3)) (pua_cons (pu_var 1 (pv 1)) pua_nil))))))))
theorem der_p_stays (z_len : mg "len" = none)   (F_p_split_by : Fn P w K mg base "split_by" ["poly", "p"] 6 φ_p_split_by) {f : Addr} {cdv : Value} {A : Around} {outer : List Env} {s : Shared} {H : Hp} {E : XK} (hr : Room 6 (A.deeper (envOfC "stays" (defScope s_p_stays) s.heap.objs.size f cdv))) :
    PUSs (cxOf CX0 P w K mg base ["poly", "p", "parts"] "stays" (defScope s_p_stays) f cdv A outer s H E).nox (defBody s_p_stays) tr_p_stays :=
  (us_cons (us_set 2 sc_p_stays.nd rfl (Or.inl rfl) (pu_fn F_p_split_by hr (by decide) rfl (pua_cons (pu_var 0 (pv 0)) (pua_cons (pu_var 1 (pv 1)) pua_nil))) (hl := il (n := 3) rfl (by decide))) (us_one (us_ret (pu_and (pu_cmp ou_eq (pu_len (pv_var 2 (pv 2)) rfl z_len) pu_int (nomark _)) (pu_one (pu_cmp ou_eq (pu_ix (pv_of (pu_ix (pv_var 2 (pv 2)) pu_int (fun _ _ => rfl))) pu_int (fun _ _ => rfl)) pu_int (nomark _)))))))
theorem der_p_lines_out (z_range : mg "range" = none)   (F_p_poly_at : Fn P w K mg base "poly_at" ["f", "z"] 1 φ_p_poly_at) (F_p_mod_parted : Fn P w K mg base "mod_parted" ["a", "b", "p"] 4 φ_p_mod_parted) {f : Addr} {cdv : Value} {A : Around} {outer : List Env} {s : Shared} {H : Hp} {E : XK} (hr : Room 4 (A.deeper (envOfC "lines_out" (defScope s_p_lines_out) s.heap.objs.size f cdv))) :
    PUSs (cxOf CX0 P w K mg base ["f", "p", "parts", "left", "c", "often"] "lines_out" (defScope s_p_lines_out) f cdv A outer s H E).nox (defBody s_p_lines_out) tr_p_lines_out :=
  (us_cons (us_set 2 sc_p_lines_out.nd rfl (Or.inl rfl) (pu_lst pua_nil) (hl := il (n := 6) rfl (by decide))) (us_cons (us_set 3 sc_p_lines_out.nd rfl (Or.inl rfl) (pu_var 0 (pv 0)) (hl := il (n := 6) rfl (by decide))) (us_cons (us_for PassesOwn.never rfl (ui_range1 rfl z_range (pua_cons (pu_var 1 (pv 1)) pua_nil)) (ug_name 4 (pg_name sc_p_lines_out.nd rfl (Or.inl rfl))) (us_cons (us_set 5 sc_p_lines_out.nd rfl (Or.inl rfl) pu_int (hl := il (n := 6) rfl (by decide))) (us_cons (us_while PassesOwn.never (pt_cmpU ou_eq (pu_op ou_mod (pu_fn F_p_poly_at hr (by decide) rfl (pua_cons (pu_var 3 (pv 3)) (pua_cons (pu_neg (pu_var 4 (pv 4))) pua_nil))) (pu_var 1 (pv 1))) pu_int (nomark _)) (us_cons (us_set 3 sc_p_lines_out.nd rfl (Or.inl rfl) (pu_ix (pv_of (pu_fn F_p_mod_parted hr (by decide) rfl (pua_cons (pu_var 3 (pv 3)) (pua_cons (pu_tup (pua_cons (pu_var 4 (pv 4)) (pua_cons pu_int pua_nil))) (pua_cons (pu_var 1 (pv 1)) pua_nil))))) pu_int (fun _ _ => rfl)) (hl := il (n := 6) rfl (by decide))) (us_one (us_aug 5 sc_p_lines_out.nd rfl (Or.inl rfl) pu_int iu_add (hl := il (n := 6) rfl (by decide)))))) (us_one (us_if (pt_cmpU ou_gt (pu_var 5 (pv 5)) pu_int (nomark _)) (us_one (us_append 2 (pv 2) (pu_tup (pua_cons (pu_tup (pua_cons (pu_var 4 (pv 4)) (pua_cons pu_int pua_nil))) (pua_cons (pu_var 5 (pv 5)) pua_nil))))) us_nil))))) (us_one (us_ret (pu_tup (pua_cons (pu_var 2 (pv 2)) (pua_cons (pu_var 3 (pv 3)) pua_nil))))))))
theorem der_p_rootless_parts (z_len : mg "len" = none) (z_sorted : mg "sorted" = none)   (F_p_two_by_two : Fn P w K mg base "two_by_two" ["f", "p"] 1 φ_p_two_by_two) {f : Addr} {cdv : Value} {A : Around} {outer : List Env} {s : Shared} {H : Hp} {E : XK} (hr : Room 1 (A.deeper (envOfC "rootless_parts" (defScope s_p_rootless_parts) s.heap.objs.size f cdv))) :
    PUSs (cxOf CX0 P w K mg base ["f", "p", "pair"] "rootless_parts" (defScope s_p_rootless_parts) f cdv A outer s H E).nox (defBody s_p_rootless_parts) tr_p_rootless_parts :=
  (us_cons (us_if (pt_cmpU ou_eq (pu_len (pv_var 0 (pv 0)) rfl z_len) pu_int (nomark _)) (us_one (us_ret (pu_lst pua_nil))) us_nil) (us_cons (us_set 2 sc_p_rootless_parts.nd rfl (Or.inl rfl) (pu_ifExp (pt_cmpU ou_eq (pu_len (pv_var 0 (pv 0)) rfl z_len) pu_int (nomark _)) (pu_fn F_p_two_by_two hr (by decide) rfl (pua_cons (pu_var 0 (pv 0)) (pua_cons (pu_var 1 (pv 1)) pua_nil))) (pu_lst pua_nil)) (hl := il (n := 3) rfl (by decide))) (us_cons (us_if (pt_cmpU ou_eq (pu_len (pv_var 2 (pv 2)) rfl z_len) pu_int (nomark _)) (us_one (us_ret (pu_lst (pua_cons (pu_tup (pua_cons (pu_var 0 (pv 0)) (pua_cons pu_int pua_nil))) pua_nil)))) us_nil) (us_cons (us_if (pt_cmpU (ou_eqD hr.units) (pu_ix (pv_var 2 (pv 2)) pu_int (fun _ _ => rfl)) (pu_ix (pv_var 2 (pv 2)) pu_int (fun _ _ => rfl)) (nomark _)) (us_one (us_ret (pu_lst (pua_cons (pu_tup (pua_cons (pu_ix (pv_var 2 (pv 2)) pu_int (fun _ _ => rfl)) (pua_cons pu_int pua_nil))) pua_nil)))) us_nil) (us_one (us_ret (pu_compL (js := []) (N := ["g", ".acc"]) (cap := [none, none]) (last := 1) (esc := (defScope s_p_rootless_parts).names) (XN := ["f", "p", "pair"]) rfl rfl (by decide +kernel) (by decide) (by decide) rfl (ui_seq (pu_callB cu_sort2 rfl z_sorted bt_sorted (pua_cons (pu_var 2 (pv 2)) pua_nil))) (fun _ _ _ _ _ _ => (ug_name 0 (pg_name (show List.Nodup (["g", ".acc"] : List Str) by decide +kernel) rfl (Or.inl rfl)))) (fun _ _ _ _ _ _ => put_nil) (fun _ _ _ _ _ _ => (pu_tup (pua_cons (pu_var 0 (pv 0)) (pua_cons pu_int pua_nil)))))))))))
theorem der_p_two_by_two (z_range : mg "range" = none)    {f : Addr} {cdv : Value} {A : Around} {outer : List Env} {s : Shared} {H : Hp} {E : XK} (hr : Room 0 (A.deeper (envOfC "two_by_two" (defScope s_p_two_by_two) s.heap.objs.size f cdv))) :
    PUSs (cxOf CX0 P w K mg base ["f", "p", "u", "s", "total", "v", "w"] "two_by_two" (defScope s_p_two_by_two) f cdv A outer s H E).nox (defBody s_p_two_by_two) tr_p_two_by_two :=
  (us_cons (us_for PassesOwn.never rfl (ui_range1 rfl z_range (pua_cons (pu_var 1 (pv 1)) pua_nil)) (ug_name 2 (pg_name sc_p_two_by_two.nd rfl (Or.inl rfl))) (us_cons (us_set 3 sc_p_two_by_two.nd rfl (Or.inl rfl) (pu_op ou_mod (pu_op ou_sub (pu_ix (pv_var 0 (pv 0)) pu_int (fun _ _ => rfl)) (pu_var 2 (pv 2))) (pu_var 1 (pv 1))) (hl := il (n := 7) rfl (by decide))) (us_cons (us_set 4 sc_p_two_by_two.nd rfl (Or.inl rfl) (pu_op ou_sub (pu_ix (pv_var 0 (pv 0)) pu_int (fun _ _ => rfl)) (pu_op ou_mul (pu_var 2 (pv 2)) (pu_var 3 (pv 3)))) (hl := il (n := 7) rfl (by decide))) (us_one (us_for PassesOwn.never rfl (ui_range1 rfl z_range (pua_cons (pu_var 1 (pv 1)) pua_nil)) (ug_name 5 (pg_name sc_p_two_by_two.nd rfl (Or.inl rfl))) (us_cons (us_set 6 sc_p_two_by_two.nd rfl (Or.inl rfl) (pu_op ou_mod (pu_op ou_sub (pu_var 4 (pv 4)) (pu_var 5 (pv 5))) (pu_var 1 (pv 1))) (hl := il (n := 7) rfl (by decide))) (us_one (us_if (PUW.pt (pw_andU (pt_cmpU ou_eq (pu_op ou_mod (pu_op ou_mul (pu_var 5 (pv 5)) (pu_var 6 (pv 6))) (pu_var 1 (pv 1))) (pu_ix (pv_var 0 (pv 0)) pu_int (fun _ _ => rfl)) (nomark _)) (pw_and1U (pt_cmpU ou_eq (pu_op ou_mod (pu_op ou_add (pu_op ou_mul (pu_var 2 (pv 2)) (pu_var 6 (pv 6))) (pu_op ou_mul (pu_var 5 (pv 5)) (pu_var 3 (pv 3)))) (pu_var 1 (pv 1))) (pu_ix (pv_var 0 (pv 0)) pu_int (fun _ _ => rfl)) (nomark _))))) (us_one (us_ret (pu_lst (pua_cons (pu_tup (pua_cons (pu_var 5 (pv 5)) (pua_cons (pu_var 2 (pv 2)) (pua_cons pu_int pua_nil)))) (pua_cons (pu_tup (pua_cons (pu_var 6 (pv 6)) (pua_cons (pu_var 3 (pv 3)) (pua_cons pu_int pua_nil)))) pua_nil))))) us_nil)))))))) (us_one (us_ret (pu_lst pua_nil))))
theorem der_mixed     {f : Addr} {cdv : Value} {A : Around} {outer : List Env} {s : Shared} {H : Hp} {E : XK} (hr : Room 0 (A.deeper (envOfC "_law_mixed" (defScope s_mixed) s.heap.objs.size f cdv))) :
    PUSs (cxOf CX0 P w K mg base ["_law_cell_here", "_law_k", "_law_prime_here", "_law_far"] "_law_mixed" (defScope s_mixed) f cdv A outer s H E).nox (defBody s_mixed) tr_mixed :=
  (us_cons (us_set 3 sc_mixed.nd rfl (Or.inl rfl) (pu_op ou_mod (pu_op ou_mul (pu_op ou_add (pu_op ou_add (pu_op ou_add (pu_var 0 (pv 0)) (pu_op ou_mul (pu_op ou_mul pu_int (pu_var 1 (pv 1))) (pu_var 1 (pv 1)))) (pu_op ou_mul pu_int (pu_var 1 (pv 1)))) pu_int) pu_int) pu_int) (hl := il (n := 4) rfl (by decide))) (us_cons (us_set 3 sc_mixed.nd rfl (Or.inl rfl) (pu_op ou_mod (pu_op ou_mul (pu_var 3 (pv 3)) (pu_var 3 (pv 3))) pu_int) (hl := il (n := 4) rfl (by decide))) (us_one (us_ret (pu_op ou_mod (pu_op ou_mul (pu_var 3 (pv 3)) pu_int) (pu_var 2 (pv 2)))))))
theorem der_draws (z_range : mg "range" = none) (z_len : mg "len" = none)   (F_mixed : Fn P w K mg base "_law_mixed" ["_law_cell_here", "_law_k", "_law_prime_here"] 1 φ_mixed) {f : Addr} {cdv : Value} {A : Around} {outer : List Env} {s : Shared} {H : Hp} {E : XK} (hr : Room 1 (A.deeper (envOfC "_law_draws" (defScope s_draws) s.heap.objs.size f cdv))) :
    PUSs (cxOf CX0 P w K mg base ["_law_cell_here", "_law_widths", "_law_prime_here", "_law_left", "_law_found", "_law_k"] "_law_draws" (defScope s_draws) f cdv A outer s H E).nox (defBody s_draws) tr_draws :=
  (us_cons (us_set 3 sc_draws.nd rfl (Or.inl rfl) pu_int (hl := il (n := 6) rfl (by decide))) (us_cons (us_if (pt_cmpU ou_ge (pu_var 0 (pv 0)) (pu_op ou_pow pu_int pu_int) (nomark _)) (us_one (us_set 3 sc_draws.nd rfl (Or.inl rfl) (pu_op ou_sub (pu_var 0 (pv 0)) (pu_op ou_pow pu_int pu_int)) (hl := il (n := 6) rfl (by decide)))) us_nil) (us_cons (us_set 4 sc_draws.nd rfl (Or.inl rfl) (pu_lst pua_nil) (hl := il (n := 6) rfl (by decide))) (us_cons (us_for PassesOwn.never rfl (ui_range1 rfl z_range (pua_cons (pu_len (pv_var 1 (pv 1)) rfl z_len) pua_nil)) (ug_name 5 (pg_name sc_draws.nd rfl (Or.inl rfl))) (us_one (us_if (pt_cmpU ou_gt (pu_var 3 (pv 3)) pu_int (nomark _)) (us_cons (us_append 4 (pv 4) (pu_op ou_mod (pu_var 3 (pv 3)) (pu_ix (pv_var 1 (pv 1)) (pu_var 5 (pv 5)) (fun _ _ => rfl)))) (us_one (us_set 3 sc_draws.nd rfl (Or.inl rfl) (pu_op ou_div (pu_var 3 (pv 3)) (pu_ix (pv_var 1 (pv 1)) (pu_var 5 (pv 5)) (fun _ _ => rfl))) (hl := il (n := 6) rfl (by decide))))) (us_one (us_append 4 (pv 4) (pu_op ou_mod (pu_fn F_mixed hr (by decide) rfl (pua_cons (pu_var 0 (pv 0)) (pua_cons (pu_var 5 (pv 5)) (pua_cons (pu_var 2 (pv 2)) pua_nil)))) (pu_ix (pv_var 1 (pv 1)) (pu_var 5 (pv 5)) (fun _ _ => rfl)))))))) (us_one (us_retV 4 (pv 4)))))))
theorem der_cell (z_len : mg "len" = none)    {f : Addr} {cdv : Value} {A : Around} {outer : List Env} {s : Shared} {H : Hp} {E : XK} (hr : Room 0 (A.deeper (envOfC "_law_cell" (defScope s_cell) s.heap.objs.size f cdv))) :
    PUSs (cxOf CX0 P w K mg base ["_law_script", "_law_k"] "_law_cell" (defScope s_cell) f cdv A outer s H E).nox (defBody s_cell) tr_cell :=
  (us_cons (us_if (pt_cmpU ou_eq (pu_len (pv_var 0 (pv 0)) rfl z_len) pu_int (nomark _)) (us_one (us_ret (pu_op ou_mul pu_int (pu_op ou_add (pu_var 1 (pv 1)) pu_int)))) us_nil) (us_cons (us_if (pt_cmpU ou_lt (pu_var 1 (pv 1)) (pu_len (pv_var 0 (pv 0)) rfl z_len) (nomark _)) (us_one (us_ret (pu_ix (pv_var 0 (pv 0)) (pu_var 1 (pv 1)) (fun _ _ => rfl)))) us_nil) (us_one (us_ret (pu_op ou_add (pu_ix (pv_var 0 (pv 0)) (pu_op ou_mod (pu_var 1 (pv 1)) (pu_len (pv_var 0 (pv 0)) rfl z_len)) (fun _ _ => rfl)) (pu_op ou_mul pu_int (pu_var 1 (pv 1))))))))
theorem der_mod_places    (F_draws : Fn P w K mg base "_law_draws" ["_law_cell_here", "_law_widths", "_law_prime_here"] 2 φ_draws) {f : Addr} {cdv : Value} {A : Around} {outer : List Env} {s : Shared} {H : Hp} {E : XK} (hr : Room 2 (A.deeper (envOfC "_law_mod_places" (defScope s_mod_places) s.heap.objs.size f cdv))) :
    PUSs (cxOf CX0 P w K mg base ["_law_cell_here", "_law_many", "_law_p", "_law_prime_here"] "_law_mod_places" (defScope s_mod_places) f cdv A outer s H E).nox (defBody s_mod_places) tr_mod_places :=
  (us_one (us_ret (pu_fn F_draws hr (by decide) rfl (pua_cons (pu_var 0 (pv 0)) (pua_cons (pu_op ou_mul (pu_lst (pua_cons (pu_var 2 (pv 2)) pua_nil)) (pu_var 1 (pv 1))) (pua_cons (pu_var 3 (pv 3)) pua_nil))))))
theorem der_cut (z_len : mg "len" = none) (z_tuple : mg "tuple" = none)    {f : Addr} {cdv : Value} {A : Around} {outer : List Env} {s : Shared} {H : Hp} {E : XK} (hr : Room 0 (A.deeper (envOfC "_law_cut" (defScope s_cut) s.heap.objs.size f cdv))) :
    PUSs (cxOf CX0 P w K mg base ["_law_row", "_law_many"] "_law_cut" (defScope s_cut) f cdv A outer s H E).nox (defBody s_cut) tr_cut :=
  (us_cons (us_set 1 sc_cut.nd rfl (Or.inl rfl) (pu_len (pv_var 0 (pv 0)) rfl z_len) (hl := il (n := 2) rfl (by decide))) (us_cons (us_while PassesOwn.never (PUW.pt (pw_andU (pt_cmpU ou_gt (pu_var 1 (pv 1)) pu_int (nomark _)) (pw_and1U (pt_cmpU ou_eq (pu_ix (pv_var 0 (pv 0)) (pu_op ou_sub (pu_var 1 (pv 1)) pu_int) (fun _ _ => rfl)) pu_int (nomark _))))) (us_one (us_set 1 sc_cut.nd rfl (Or.inl rfl) (pu_op ou_sub (pu_var 1 (pv 1)) pu_int) (hl := il (n := 2) rfl (by decide))))) (us_one (us_ret (pu_callTy cu_tuple rfl z_tuple bt_tuple (pua_cons (pu_slice (pv_var 0 (pv 0)) puo_none (puo_some (pu_var 1 (pv 1)))) pua_nil))))))
theorem der_mod_times (z_len : mg "len" = none) (z_range : mg "range" = none)   (F_cut : Fn P w K mg base "_law_cut" ["_law_row"] 1 φ_cut) {f : Addr} {cdv : Value} {A : Around} {outer : List Env} {s : Shared} {H : Hp} {E : XK} (hr : Room 1 (A.deeper (envOfC "_law_mod_times" (defScope s_mod_times) s.heap.objs.size f cdv))) :
    PUSs (cxOf CX0 P w K mg base ["_law_f", "_law_g", "_law_p", "_law_raw", "_law_i", "_law_j"] "_law_mod_times" (defScope s_mod_times) f cdv A outer s H E).nox (defBody s_mod_times) tr_mod_times :=
  (us_cons (us_set 3 sc_mod_times.nd rfl (Or.inl rfl) (pu_op ou_mul (pu_lst (pua_cons pu_int pua_nil)) (pu_op ou_add (pu_len (pv_var 0 (pv 0)) rfl z_len) (pu_len (pv_var 1 (pv 1)) rfl z_len))) (hl := il (n := 6) rfl (by decide))) (us_cons (us_for PassesOwn.never rfl (ui_range1 rfl z_range (pua_cons (pu_len (pv_var 0 (pv 0)) rfl z_len) pua_nil)) (ug_name 4 (pg_name sc_mod_times.nd rfl (Or.inl rfl))) (us_one (us_for PassesOwn.never rfl (ui_range1 rfl z_range (pua_cons (pu_len (pv_var 1 (pv 1)) rfl z_len) pua_nil)) (ug_name 5 (pg_name sc_mod_times.nd rfl (Or.inl rfl))) (us_one (us_setItem 3 (pv 3) (pu_op ou_mod (pu_op ou_add (pu_ix (pv_var 3 (pv 3)) (pu_op ou_add (pu_var 4 (pv 4)) (pu_var 5 (pv 5))) (fun _ _ => rfl)) (pu_op ou_mul (pu_ix (pv_var 0 (pv 0)) (pu_var 4 (pv 4)) (fun _ _ => rfl)) (pu_ix (pv_var 1 (pv 1)) (pu_var 5 (pv 5)) (fun _ _ => rfl)))) (pu_var 2 (pv 2))) (pu_op ou_add (pu_var 4 (pv 4)) (pu_var 5 (pv 5)))))))) (us_one (us_ret (pu_fn F_cut hr (by decide) rfl (pua_cons (pu_var 3 (pv 3)) pua_nil))))))
theorem der_whole (z_isinstance : mg "isinstance" = none) (z_int : mg "int" = none) (z_bool : mg "bool" = none)    {f : Addr} {cdv : Value} {A : Around} {outer : List Env} {s : Shared} {H : Hp} {E : XK} (hr : Room 0 (A.deeper (envOfC "_law_whole" (defScope s_whole) s.heap.objs.size f cdv))) :
    PUSs (cxOf CX0 P w K mg base ["_law_found"] "_law_whole" (defScope s_whole) f cdv A outer s H E).nox (defBody s_whole) tr_whole :=
  (us_one (us_ret (pu_and (pu_callB cu_isi rfl z_isinstance bt_isinstance (pua_cons (pu_var 0 (pv 0)) (pua_cons (pu_ty rfl z_int bt_int) pua_nil))) (pu_one (pu_not (pu_callB cu_isi rfl z_isinstance bt_isinstance (pua_cons (pu_var 0 (pv 0)) (pua_cons (pu_ty rfl z_bool bt_bool) pua_nil))))))))
theorem der_is_poly (z_isinstance : mg "isinstance" = none) (z_tuple : mg "tuple" = none) (z_all : mg "all" = none) (z_len : mg "len" = none)   (F_whole : Fn P w K mg base "_law_whole" ["_law_found"] 1 φ_whole) {f : Addr} {cdv : Value} {A : Around} {outer : List Env} {s : Shared} {H : Hp} {E : XK} (hr : Room 1 (A.deeper (envOfC "_law_is_poly" (defScope s_is_poly) s.heap.objs.size f cdv))) :
    PUSs (cxOf CX0 P w K mg base ["_law_found"] "_law_is_poly" (defScope s_is_poly) f cdv A outer s H E).nox (defBody s_is_poly) tr_is_poly :=
  (us_cons (us_if (pt_notU (pt_of (pu_callB cu_isi rfl z_isinstance bt_isinstance (pua_cons (pu_var 0 (pv 0)) (pua_cons (pu_ty rfl z_tuple bt_tuple) pua_nil))))) (us_one (us_ret pu_bl)) us_nil) (us_cons (us_if (pt_notU (pt_of (pu_callB (cu_all rfl) rfl z_all bt_all (pua_cons (pu_compL (js := []) (N := ["_law_place", ".acc"]) (cap := [none, none]) (last := 1) (esc := (defScope s_is_poly).names) (XN := ["_law_found"]) rfl rfl (by decide +kernel) (by decide) (by decide) rfl (ui_seq (pu_var 0 (pv 0))) (fun _ _ _ _ _ _ => (ug_name 0 (pg_name (show List.Nodup (["_law_place", ".acc"] : List Str) by decide +kernel) rfl (Or.inl rfl)))) (fun _ _ _ _ _ _ => put_nil) (fun _ _ _ _ _ _ => (pu_fn F_whole hr (by decide) rfl (pua_cons (pu_var 0 (pv 0)) pua_nil)))) pua_nil)))) (us_one (us_ret pu_bl)) us_nil) (us_one (us_ret (pu_or (pu_cmp ou_eq (pu_len (pv_var 0 (pv 0)) rfl z_len) pu_int (nomark _)) (pu_one (pu_cmp ou_ne (pu_ix (pv_var 0 (pv 0)) (pu_neg pu_int) (fun _ _ => rfl)) pu_int (nomark _))))))))
theorem der_is_mod (z_all : mg "all" = none)   (F_is_poly : Fn P w K mg base "_law_is_poly" ["_law_found"] 2 φ_is_poly) {f : Addr} {cdv : Value} {A : Around} {outer : List Env} {s : Shared} {H : Hp} {E : XK} (hr : Room 2 (A.deeper (envOfC "_law_is_mod" (defScope s_is_mod) s.heap.objs.size f cdv))) :
    PUSs (cxOf CX0 P w K mg base ["_law_found", "_law_p"] "_law_is_mod" (defScope s_is_mod) f cdv A outer s H E).nox (defBody s_is_mod) tr_is_mod :=
  (us_one (us_ret (pu_and (pu_fn F_is_poly hr (by decide) rfl (pua_cons (pu_var 0 (pv 0)) pua_nil)) (pu_one (pu_callB (cu_all rfl) rfl z_all bt_all (pua_cons (pu_compL (js := [1]) (N := ["_law_place", "_law_p", ".acc"]) (cap := [none, some 1, none]) (last := 2) (esc := (defScope s_is_mod).names) (XN := ["_law_found", "_law_p"]) rfl rfl (by decide +kernel) (by decide) (by decide) rfl (ui_seq (pu_var 0 (pv 0))) (fun _ _ _ _ _ _ => (ug_name 0 (pg_name (show List.Nodup (["_law_place", "_law_p", ".acc"] : List Str) by decide +kernel) rfl (Or.inl rfl)))) (fun _ _ _ _ _ _ => put_nil) (fun _ _ _ _ _ _ => (pu_chain ou_le ou_lt pu_int (pu_var 0 (pv 0)) (pu_var 1 (pv 1))))) pua_nil))))))
theorem der_mod_value (z_reversed : mg "reversed" = none)    {f : Addr} {cdv : Value} {A : Around} {outer : List Env} {s : Shared} {H : Hp} {E : XK} (hr : Room 0 (A.deeper (envOfC "_law_mod_value" (defScope s_mod_value) s.heap.objs.size f cdv))) :
    PUSs (cxOf CX0 P w K mg base ["_law_f", "_law_z", "_law_p", "_law_total", "_law_place"] "_law_mod_value" (defScope s_mod_value) f cdv A outer s H E).nox (defBody s_mod_value) tr_mod_value :=
  (us_cons (us_set 3 sc_mod_value.nd rfl (Or.inl rfl) pu_int (hl := il (n := 5) rfl (by decide))) (us_cons (us_for PassesOwn.never rfl (ui_revT rfl z_reversed (pua_cons (pu_var 0 (pv 0)) pua_nil)) (ug_name 4 (pg_name sc_mod_value.nd rfl (Or.inl rfl))) (us_one (us_set 3 sc_mod_value.nd rfl (Or.inl rfl) (pu_op ou_mod (pu_op ou_add (pu_op ou_mul (pu_var 3 (pv 3)) (pu_var 1 (pv 1))) (pu_var 4 (pv 4))) (pu_var 2 (pv 2))) (hl := il (n := 5) rfl (by decide))))) (us_one (us_retV 3 (pv 3)))))
theorem der_mod_stays (z_len : mg "len" = none) (z_any : mg "any" = none) (z_range : mg "range" = none)   (F_mod_value : Fn P w K mg base "_law_mod_value" ["_law_f", "_law_z", "_law_p"] 1 φ_mod_value) {f : Addr} {cdv : Value} {A : Around} {outer : List Env} {s : Shared} {H : Hp} {E : XK} (hr : Room 1 (A.deeper (envOfC "_law_mod_stays" (defScope s_mod_stays) s.heap.objs.size f cdv))) :
    PUSs (cxOf CX0 P w K mg base ["_law_g", "_law_p", "_law_back", "_law_k", "_law_b", "_law_d", "_law_turn"] "_law_mod_stays" (defScope s_mod_stays) f cdv A outer s H E).nox (defBody s_mod_stays) tr_mod_stays :=
  (us_cons (us_if (pt_cmpU ou_eq (pu_len (pv_var 0 (pv 0)) rfl z_len) pu_int (nomark _)) (us_one (us_ret pu_bl)) us_nil) (us_cons (us_if (pt_of (pu_callB (cu_any rfl) rfl z_any bt_any (pua_cons (pu_compL (js := [0, 1]) (N := ["_law_z", "_law_g", "_law_p", ".acc"]) (cap := [none, some 0, some 1, none]) (last := 3) (esc := (defScope s_mod_stays).names) (XN := ["_law_g", "_law_p", "_law_back", "_law_k", "_law_b", "_law_d", "_law_turn"]) rfl rfl (by decide +kernel) (by decide) (by decide) rfl (ui_range1 rfl z_range (pua_cons (pu_var 1 (pv 1)) pua_nil)) (fun _ _ _ _ _ _ => (ug_name 0 (pg_name (show List.Nodup (["_law_z", "_law_g", "_law_p", ".acc"] : List Str) by decide +kernel) rfl (Or.inl rfl)))) (fun _ _ _ _ _ _ => put_nil) (fun _ _ _ _ _ _ => (pu_cmp ou_eq (pu_fn F_mod_value hr (by decide) rfl (pua_cons (pu_var 1 (pv 1)) (pua_cons (pu_var 0 (pv 0)) (pua_cons (pu_var 2 (pv 2)) pua_nil)))) pu_int (nomark _)))) pua_nil))) (us_one (us_ret pu_bl)) us_nil) (us_cons (us_if (pt_cmpU ou_lt (pu_len (pv_var 0 (pv 0)) rfl z_len) pu_int (nomark _)) (us_one (us_ret pu_bl)) us_nil) (us_cons (us_set 2 sc_mod_stays.nd rfl (Or.inl rfl) (pu_lst (pua_cons pu_int (pua_cons pu_int pua_nil))) (hl := il (n := 7) rfl (by decide))) (us_cons (us_for PassesOwn.never rfl (ui_range2 rfl z_range (pua_cons pu_int (pua_cons (pu_var 1 (pv 1)) pua_nil))) (ug_name 3 (pg_name sc_mod_stays.nd rfl (Or.inl rfl))) (us_one (us_append 2 (pv 2) (pu_op ou_mod (pu_op ou_mul (pu_op ou_sub (pu_var 1 (pv 1)) (pu_op ou_div (pu_var 1 (pv 1)) (pu_var 3 (pv 3)))) (pu_ix (pv_var 2 (pv 2)) (pu_op ou_mod (pu_var 1 (pv 1)) (pu_var 3 (pv 3))) (fun _ _ => rfl))) (pu_var 1 (pv 1)))))) (us_cons (us_for PassesOwn.never rfl (ui_range2 rfl z_range (pua_cons pu_int (pua_cons (pu_var 1 (pv 1)) pua_nil))) (ug_name 4 (pg_name sc_mod_stays.nd rfl (Or.inr rfl))) (us_cons (us_set 5 sc_mod_stays.nd rfl (Or.inr rfl) (pu_op ou_mod (pu_op ou_mul (pu_ix (pv_var 0 (pv 0)) pu_int (fun _ _ => rfl)) (pu_ix (pv_var 2 (pv 2)) (pu_var 4 (pv 4)) (fun _ _ => rfl))) (pu_var 1 (pv 1))) (hl := il (n := 7) rfl (by decide))) (us_one (us_if (pt_cmpU ou_ne (pu_var 4 (pv 4)) (pu_var 5 (pv 5)) (nomark _)) (us_cons (us_set 6 sc_mod_stays.nd rfl (Or.inl rfl) (pu_op ou_mod (pu_op ou_mul (pu_op ou_sub (pu_ix (pv_var 0 (pv 0)) pu_int (fun _ _ => rfl)) (pu_op ou_mul (pu_var 4 (pv 4)) (pu_ix (pv_var 0 (pv 0)) pu_int (fun _ _ => rfl)))) (pu_ix (pv_var 2 (pv 2)) (pu_op ou_mod (pu_op ou_sub (pu_var 5 (pv 5)) (pu_var 4 (pv 4))) (pu_var 1 (pv 1))) (fun _ _ => rfl))) (pu_var 1 (pv 1))) (hl := il (n := 7) rfl (by decide))) (us_one (us_if (pt_cmpU ou_eq (pu_op ou_mod (pu_op ou_sub (pu_op ou_add (pu_op ou_add (pu_op ou_mul (pu_var 6 (pv 6)) (pu_op ou_sub (pu_ix (pv_var 0 (pv 0)) pu_int (fun _ _ => rfl)) (pu_var 6 (pv 6)))) (pu_var 4 (pv 4))) (pu_var 5 (pv 5))) (pu_ix (pv_var 0 (pv 0)) pu_int (fun _ _ => rfl))) (pu_var 1 (pv 1))) pu_int (nomark _)) (us_one (us_ret pu_bl)) us_nil))) (us_one (us_if (pt_cmpU ou_eq (pu_op ou_mod (pu_op ou_sub (pu_ix (pv_var 0 (pv 0)) pu_int (fun _ _ => rfl)) (pu_op ou_mul (pu_var 4 (pv 4)) (pu_ix (pv_var 0 (pv 0)) pu_int (fun _ _ => rfl)))) (pu_var 1 (pv 1))) pu_int (nomark _)) (us_one (us_if (pt_of (pu_callB (cu_any rfl) rfl z_any bt_any (pua_cons (pu_compL (js := [4, 5, 1]) (N := ["_law_a", "_law_g", "_law_b", "_law_d", "_law_p", ".acc"]) (cap := [none, some 0, some 4, some 5, some 1, none]) (last := 5) (esc := (defScope s_mod_stays).names) (XN := ["_law_g", "_law_p", "_law_back", "_law_k", "_law_b", "_law_d", "_law_turn"]) rfl rfl (by decide +kernel) (by decide) (by decide) rfl (ui_range1 rfl z_range (pua_cons (pu_var 1 (pv 1)) pua_nil)) (fun _ _ _ _ _ _ => (ug_name 0 (pg_name (show List.Nodup (["_law_a", "_law_g", "_law_b", "_law_d", "_law_p", ".acc"] : List Str) by decide +kernel) rfl (Or.inl rfl)))) (fun _ _ _ _ _ _ => put_nil) (fun _ _ _ _ _ _ => (pu_cmp ou_eq (pu_op ou_mod (pu_op ou_sub (pu_op ou_add (pu_op ou_add (pu_op ou_mul (pu_var 0 (pv 0)) (pu_op ou_sub (pu_ix (pv_var 1 (pv 1)) pu_int (fun _ _ => rfl)) (pu_var 0 (pv 0)))) (pu_var 2 (pv 2))) (pu_var 3 (pv 3))) (pu_ix (pv_var 1 (pv 1)) pu_int (fun _ _ => rfl))) (pu_var 4 (pv 4))) pu_int (nomark _)))) pua_nil))) (us_one (us_ret pu_bl)) us_nil)) us_nil)))))) (us_one (us_ret pu_bl))))))))
theorem der_primes (z_range : mg "range" = none) (z_all : mg "all" = none)    {f : Addr} {cdv : Value} {A : Around} {outer : List Env} {s : Shared} {H : Hp} {E : XK} (hr : Room 0 (A.deeper (envOfC "_law_primes" (defScope s_primes) s.heap.objs.size f cdv))) :
    PUSs (cxOf CX0 P w K mg base [] "_law_primes" (defScope s_primes) f cdv A outer s H E).nox (defBody s_primes) tr_primes :=
  (us_one (us_ret (pu_compL (js := []) (N := ["_law_n", ".acc"]) (cap := [none, none]) (last := 1) (esc := (defScope s_primes).names) (XN := []) rfl rfl (by decide +kernel) (by decide) (by decide) rfl (ui_range2 rfl z_range (pua_cons pu_int (pua_cons pu_int pua_nil))) (fun _ _ _ _ _ _ => (ug_name 0 (pg_name (show List.Nodup (["_law_n", ".acc"] : List Str) by decide +kernel) rfl (Or.inr rfl)))) (fun _ _ _ _ _ _ => (put_one (pt_of (pu_callB (cu_all rfl) rfl z_all bt_all (pua_cons (pu_compL (js := [0]) (N := ["_law_d", "_law_n", ".acc"]) (cap := [none, some 0, none]) (last := 2) (esc := [(".0", NameKind.local), ("_law_n", NameKind.cell), ("all", NameKind.globalImplicit), ("range", NameKind.globalImplicit)]) (XN := ["_law_n", ".acc"]) rfl rfl (by decide +kernel) (by decide) (by decide) rfl (ui_range2 rfl z_range (pua_cons pu_int (pua_cons pu_int pua_nil))) (fun _ _ _ _ _ _ => (ug_name 0 (pg_name (show List.Nodup (["_law_d", "_law_n", ".acc"] : List Str) by decide +kernel) rfl (Or.inl rfl)))) (fun _ _ _ _ _ _ => put_nil) (fun _ _ _ _ _ _ => (pu_or (pu_cmp ou_eq (pu_var 1 (pv 1)) (pu_var 0 (pv 0)) (nomark _)) (pu_one (pu_cmp ou_ne (pu_op ou_mod (pu_var 1 (pv 1)) (pu_var 0 (pv 0))) pu_int (nomark _)))))) pua_nil))))) (fun _ _ _ _ _ _ => (pu_var 0 (pv 0))))))
theorem der_prime    (F_draws : Fn P w K mg base "_law_draws" ["_law_cell_here", "_law_widths", "_law_prime_here"] 2 φ_draws) (F_primes : Fn P w K mg base "_law_primes" [] 1 φ_primes) {f : Addr} {cdv : Value} {A : Around} {outer : List Env} {s : Shared} {H : Hp} {E : XK} (hr : Room 2 (A.deeper (envOfC "_law_prime" (defScope s_prime) s.heap.objs.size f cdv))) :
    PUSs (cxOf CX0 P w K mg base ["_law_cell_here", "_law_prime_here", "_law_found"] "_law_prime" (defScope s_prime) f cdv A outer s H E).nox (defBody s_prime) tr_prime :=
  (us_cons (us_set 2 sc_prime.nd rfl (Or.inl rfl) (pu_fn F_draws hr (by decide) rfl (pua_cons (pu_var 0 (pv 0)) (pua_cons (pu_lst (pua_cons pu_int (pua_cons pu_int pua_nil))) (pua_cons (pu_var 1 (pv 1)) pua_nil)))) (hl := il (n := 3) rfl (by decide))) (us_cons (us_if (pt_cmpU ou_eq (pu_ix (pv_var 2 (pv 2)) pu_int (fun _ _ => rfl)) pu_int (nomark _)) (us_one (us_ret (pu_ix (pv_of (pu_fn0 F_primes hr (by decide) rfl)) (pu_op ou_mod (pu_ix (pv_var 2 (pv 2)) pu_int (fun _ _ => rfl)) pu_int) (fun _ _ => rfl)))) us_nil) (us_one (us_ret (pu_ix (pv_of (pu_fn0 F_primes hr (by decide) rfl)) (pu_ix (pv_var 2 (pv 2)) pu_int (fun _ _ => rfl)) (fun _ _ => rfl))))))
theorem der_written (z_len : mg "len" = none) (z_zip : mg "zip" = none)   (F_draws : Fn P w K mg base "_law_draws" ["_law_cell_here", "_law_widths", "_law_prime_here"] 2 φ_draws) {f : Addr} {cdv : Value} {A : Around} {outer : List Env} {s : Shared} {H : Hp} {E : XK} (hr : Room 2 (A.deeper (envOfC "_law_written" (defScope s_written) s.heap.objs.size f cdv))) :
    PUSs (cxOf CX0 P w K mg base ["_law_places", "_law_p", "_law_cell_here", "_law_prime_here", "_law_found", "_law_far"] "_law_written" (defScope s_written) f cdv A outer s H E).nox (defBody s_written) tr_written :=
  (us_cons (us_set 4 sc_written.nd rfl (Or.inl rfl) (pu_fn F_draws hr (by decide) rfl (pua_cons (pu_var 2 (pv 2)) (pua_cons (pu_op ou_add (pu_lst (pua_cons pu_int pua_nil)) (pu_op ou_mul (pu_lst (pua_cons (pu_op ou_pow pu_int pu_int) pua_nil)) (pu_len (pv_var 0 (pv 0)) rfl z_len))) (pua_cons (pu_var 3 (pv 3)) pua_nil)))) (hl := il (n := 6) rfl (by decide))) (us_cons (us_set 5 sc_written.nd rfl (Or.inr rfl) (pu_ix (pv_of (pu_lst (pua_cons pu_int (pua_cons pu_int (pua_cons (pu_op ou_pow pu_int pu_int) (pua_cons (pu_op ou_mul (pu_op ou_pow pu_int pu_int) (pu_op ou_pow pu_int pu_int)) pua_nil)))))) (pu_ix (pv_var 4 (pv 4)) pu_int (fun _ _ => rfl)) (fun _ _ => rfl)) (hl := il (n := 6) rfl (by decide))) (us_one (us_ret (pu_compL (js := [1, 5]) (N := ["_law_place", "_law_more", "_law_p", "_law_far", ".acc"]) (cap := [none, none, some 1, some 5, none]) (last := 4) (esc := (defScope s_written).names) (XN := ["_law_places", "_law_p", "_law_cell_here", "_law_prime_here", "_law_found", "_law_far"]) rfl rfl (by decide +kernel) (by decide) (by decide) rfl (ui_zip rfl z_zip (pua_cons (pu_var 0 (pv 0)) (pua_cons (pu_slice (pv_var 4 (pv 4)) (puo_some pu_int) puo_none) pua_nil))) (fun _ _ _ _ _ _ => (ug_tup rfl (ugs_cons 0 (pg_name (show List.Nodup (["_law_place", "_law_more", "_law_p", "_law_far", ".acc"] : List Str) by decide +kernel) rfl (Or.inl rfl)) (ugs_cons 1 (pg_name (show List.Nodup (["_law_place", "_law_more", "_law_p", "_law_far", ".acc"] : List Str) by decide +kernel) rfl (Or.inl rfl)) ugs_nil)) (glen_cons (glen_cons glen_nil)))) (fun _ _ _ _ _ _ => put_nil) (fun _ _ _ _ _ _ => (pu_op ou_add (pu_var 0 (pv 0)) (pu_op ou_mul (pu_op ou_mul (pu_var 2 (pv 2)) (pu_var 3 (pv 3))) (pu_op ou_sub (pu_var 1 (pv 1)) (pu_op ou_mul pu_int (pu_op ou_pow pu_int pu_int)))))))))))
theorem der_places_of (z_tuple : mg "tuple" = none) (z_min : mg "min" = none) (z_range : mg "range" = none)   (F_draws : Fn P w K mg base "_law_draws" ["_law_cell_here", "_law_widths", "_law_prime_here"] 2 φ_draws) (F_cell : Fn P w K mg base "_law_cell" ["_law_script", "_law_k"] 1 φ_cell) (F_mod_places : Fn P w K mg base "_law_mod_places" ["_law_cell_here", "_law_many", "_law_p", "_law_prime_here"] 3 φ_mod_places) (F_mod_times : Fn P w K mg base "_law_mod_times" ["_law_f", "_law_g", "_law_p"] 2 φ_mod_times) {f : Addr} {cdv : Value} {A : Around} {outer : List Env} {s : Shared} {H : Hp} {E : XK} (hr : Room 3 (A.deeper (envOfC "_law_places_of" (defScope s_places_of) s.heap.objs.size f cdv))) :
    PUSs (cxOf CX0 P w K mg base ["_law_script", "_law_degree", "_law_p", "_law_way", "_law_first", "_law_g", "_law_goes", "_law_left", "_law_raw", "_law_again"] "_law_places_of" (defScope s_places_of) f cdv A outer s H E).nox (defBody s_places_of) tr_places_of :=
  (us_cons (us_set 3 sc_places_of.nd rfl (Or.inl rfl) (pu_fn F_draws hr (by decide) rfl (pua_cons (pu_fn F_cell hr (by decide) rfl (pua_cons (pu_var 0 (pv 0)) (pua_cons pu_int pua_nil))) (pua_cons (pu_lst (pua_cons pu_int (pua_cons pu_int (pua_cons pu_int pua_nil)))) (pua_cons pu_int pua_nil)))) (hl := il (n := 10) rfl (by decide))) (us_cons (us_if (pt_cmpU ou_eq (pu_ix (pv_var 3 (pv 3)) pu_int (fun _ _ => rfl)) pu_int (nomark _)) (us_one (us_ret (pu_callTy cu_tuple rfl z_tuple bt_tuple (pua_cons (pu_op ou_add (pu_fn F_mod_places hr (by decide) rfl (pua_cons (pu_fn F_cell hr (by decide) rfl (pua_cons (pu_var 0 (pv 0)) (pua_cons pu_int pua_nil))) (pua_cons (pu_var 1 (pv 1)) (pua_cons (pu_var 2 (pv 2)) (pua_cons pu_int pua_nil))))) (pu_lst (pua_cons pu_int pua_nil))) pua_nil)))) us_nil) (us_cons (us_set 4 sc_places_of.nd rfl (Or.inl rfl) (pu_callB (cu_min rfl) rfl z_min bt_min (pua_cons (pu_var 1 (pv 1)) (pua_cons (pu_op ou_add pu_int (pu_ix (pv_var 3 (pv 3)) pu_int (fun _ _ => rfl))) pua_nil))) (hl := il (n := 10) rfl (by decide))) (us_cons (us_set 5 sc_places_of.nd rfl (Or.inl rfl) (pu_callTy cu_tuple rfl z_tuple bt_tuple (pua_cons (pu_op ou_add (pu_fn F_mod_places hr (by decide) rfl (pua_cons (pu_fn F_cell hr (by decide) rfl (pua_cons (pu_var 0 (pv 0)) (pua_cons pu_int pua_nil))) (pua_cons (pu_var 4 (pv 4)) (pua_cons (pu_var 2 (pv 2)) (pua_cons pu_int pua_nil))))) (pu_lst (pua_cons pu_int pua_nil))) pua_nil)) (hl := il (n := 10) rfl (by decide))) (us_cons (us_set 6 sc_places_of.nd rfl (Or.inl rfl) (pu_callB (cu_min rfl) rfl z_min bt_min (pua_cons (pu_op ou_add pu_int (pu_ix (pv_var 3 (pv 3)) pu_int (fun _ _ => rfl))) (pua_cons (pu_op ou_div (pu_var 1 (pv 1)) (pu_var 4 (pv 4))) pua_nil))) (hl := il (n := 10) rfl (by decide))) (us_cons (us_set 7 sc_places_of.nd rfl (Or.inl rfl) (pu_op ou_sub (pu_var 1 (pv 1)) (pu_op ou_mul (pu_var 4 (pv 4)) (pu_var 6 (pv 6)))) (hl := il (n := 10) rfl (by decide))) (us_cons (us_set 8 sc_places_of.nd rfl (Or.inl rfl) (pu_callTy cu_tuple rfl z_tuple bt_tuple (pua_cons (pu_op ou_add (pu_fn F_mod_places hr (by decide) rfl (pua_cons (pu_fn F_cell hr (by decide) rfl (pua_cons (pu_var 0 (pv 0)) (pua_cons pu_int pua_nil))) (pua_cons (pu_var 7 (pv 7)) (pua_cons (pu_var 2 (pv 2)) (pua_cons pu_int pua_nil))))) (pu_lst (pua_cons pu_int pua_nil))) pua_nil)) (hl := il (n := 10) rfl (by decide))) (us_cons (us_for PassesOwn.never rfl (ui_range1 rfl z_range (pua_cons (pu_var 6 (pv 6)) pua_nil)) (ug_name 9 (pg_name sc_places_of.nd rfl (Or.inl rfl))) (us_one (us_set 8 sc_places_of.nd rfl (Or.inl rfl) (pu_fn F_mod_times hr (by decide) rfl (pua_cons (pu_var 8 (pv 8)) (pua_cons (pu_var 5 (pv 5)) (pua_cons (pu_var 2 (pv 2)) pua_nil)))) (hl := il (n := 10) rfl (by decide))))) (us_one (us_retV 8 (pv 8)))))))))))
theorem der_right (z_isinstance : mg "isinstance" = none) (z_list : mg "list" = none) (z_tuple : mg "tuple" = none) (z_len : mg "len" = none) (z_range : mg "range" = none)   (F_is_mod : Fn P w K mg base "_law_is_mod" ["_law_found", "_law_p"] 3 φ_is_mod) (F_whole : Fn P w K mg base "_law_whole" ["_law_found"] 1 φ_whole) (F_mod_stays : Fn P w K mg base "_law_mod_stays" ["_law_g", "_law_p"] 2 φ_mod_stays) (F_mod_times : Fn P w K mg base "_law_mod_times" ["_law_f", "_law_g", "_law_p"] 2 φ_mod_times) {f : Addr} {cdv : Value} {A : Around} {outer : List Env} {s : Shared} {H : Hp} {E : XK} (hr : Room 3 (A.deeper (envOfC "_law_right" (defScope s_right) s.heap.objs.size f cdv))) :
    PUSs (cxOf CX0 P w K mg base ["_law_found", "_law_raw", "_law_p", "_law_far", "_law_last", "_law_row", "_law_again"] "_law_right" (defScope s_right) f cdv A outer s H E).nox (defBody s_right) tr_right :=
  (us_cons (us_if (pt_notU (pt_of (pu_callB cu_isi rfl z_isinstance bt_isinstance (pua_cons (pu_var 0 (pv 0)) (pua_cons (pu_ty rfl z_list bt_list) pua_nil))))) (us_one (us_ret pu_bl)) us_nil) (us_cons (us_set 3 sc_right.nd rfl (Or.inl rfl) (pu_tup (pua_cons pu_int pua_nil)) (hl := il (n := 7) rfl (by decide))) (us_cons (us_set 4 sc_right.nd rfl (Or.inl rfl) (pu_tup (pua_cons pu_int (pua_cons (pu_tup pua_nil) pua_nil))) (hl := il (n := 7) rfl (by decide))) (us_cons (us_for PassesOwn.never rfl (ui_seq (pu_var 0 (pv 0))) (ug_name 5 (pg_name sc_right.nd rfl (Or.inl rfl))) (us_cons (us_if (PUW.pt (pw_orU (pt_notU (pt_of (pu_callB cu_isi rfl z_isinstance bt_isinstance (pua_cons (pu_var 5 (pv 5)) (pua_cons (pu_ty rfl z_tuple bt_tuple) pua_nil))))) (pw_orU (pt_cmpU ou_ne (pu_len (pv_var 5 (pv 5)) rfl z_len) pu_int (nomark _)) (pw_orU (pt_notU (pt_of (pu_fn F_is_mod hr (by decide) rfl (pua_cons (pu_ix (pv_var 5 (pv 5)) pu_int (fun _ _ => rfl)) (pua_cons (pu_var 2 (pv 2)) pua_nil))))) (pw_or1U (pt_notU (pt_of (pu_fn F_whole hr (by decide) rfl (pua_cons (pu_ix (pv_var 5 (pv 5)) pu_int (fun _ _ => rfl)) pua_nil))))))))) (us_one (us_ret pu_bl)) us_nil) (us_cons (us_if (PUW.pt (pw_orU (pt_cmpU ou_lt (pu_len (pv_of (pu_ix (pv_var 5 (pv 5)) pu_int (fun _ _ => rfl))) rfl z_len) pu_int (nomark _)) (pw_orU (pt_cmpU ou_gt (pu_len (pv_of (pu_ix (pv_var 5 (pv 5)) pu_int (fun _ _ => rfl))) rfl z_len) pu_int (nomark _)) (pw_orU (pt_cmpU ou_ne (pu_ix (pv_of (pu_ix (pv_var 5 (pv 5)) pu_int (fun _ _ => rfl))) (pu_neg pu_int) (fun _ _ => rfl)) pu_int (nomark _)) (pw_orU (pt_cmpU ou_lt (pu_ix (pv_var 5 (pv 5)) pu_int (fun _ _ => rfl)) pu_int (nomark _)) (pw_or1U (pt_cmpU ou_gt (pu_ix (pv_var 5 (pv 5)) pu_int (fun _ _ => rfl)) pu_int (nomark _)))))))) (us_one (us_ret pu_bl)) us_nil) (us_cons (us_if (PUW.pt (pw_orU (pt_cmpU (ou_leP hr.units) (pu_tup (pua_cons (pu_len (pv_of (pu_ix (pv_var 5 (pv 5)) pu_int (fun _ _ => rfl))) rfl z_len) (pua_cons (pu_ix (pv_var 5 (pv 5)) pu_int (fun _ _ => rfl)) pua_nil))) (pu_var 4 (pv 4)) (nomark _)) (pw_or1U (pt_notU (pt_of (pu_fn F_mod_stays hr (by decide) rfl (pua_cons (pu_ix (pv_var 5 (pv 5)) pu_int (fun _ _ => rfl)) (pua_cons (pu_var 2 (pv 2)) pua_nil)))))))) (us_one (us_ret pu_bl)) us_nil) (us_cons (us_set 4 sc_right.nd rfl (Or.inl rfl) (pu_tup (pua_cons (pu_len (pv_of (pu_ix (pv_var 5 (pv 5)) pu_int (fun _ _ => rfl))) rfl z_len) (pua_cons (pu_ix (pv_var 5 (pv 5)) pu_int (fun _ _ => rfl)) pua_nil))) (hl := il (n := 7) rfl (by decide))) (us_one (us_for PassesOwn.never rfl (ui_range1 rfl z_range (pua_cons (pu_ix (pv_var 5 (pv 5)) pu_int (fun _ _ => rfl)) pua_nil)) (ug_name 6 (pg_name sc_right.nd rfl (Or.inl rfl))) (us_one (us_set 3 sc_right.nd rfl (Or.inl rfl) (pu_fn F_mod_times hr (by decide) rfl (pua_cons (pu_var 3 (pv 3)) (pua_cons (pu_ix (pv_var 5 (pv 5)) pu_int (fun _ _ => rfl)) (pua_cons (pu_var 2 (pv 2)) pua_nil)))) (hl := il (n := 7) rfl (by decide))))))))))) (us_one (us_ret (pu_cmp (ou_eqD hr.units) (pu_var 3 (pv 3)) (pu_var 1 (pv 1)) (nomark _))))))))
theorem der_law (z_tuple : mg "tuple" = none) (z_isinstance : mg "isinstance" = none) (z_bool : mg "bool" = none) (z_len : mg "len" = none)   (F_prime : Fn P w K mg base "_law_prime" ["_law_cell_here", "_law_prime_here"] 3 φ_prime) (F_cell : Fn P w K mg base "_law_cell" ["_law_script", "_law_k"] 1 φ_cell) (F_draws : Fn P w K mg base "_law_draws" ["_law_cell_here", "_law_widths", "_law_prime_here"] 2 φ_draws) (F_places_of : Fn P w K mg base "_law_places_of" ["_law_script", "_law_degree", "_law_p"] 4 φ_places_of) (F_written : Fn P w K mg base "_law_written" ["_law_places", "_law_p", "_law_cell_here", "_law_prime_here"] 3 φ_written) (F_p_split_by : Fn P w K mg base "split_by" ["poly", "p"] 6 φ_p_split_by) (F_right : Fn P w K mg base "_law_right" ["_law_found", "_law_raw", "_law_p"] 4 φ_right) (F_p_stays : Fn P w K mg base "stays" ["poly", "p"] 7 φ_p_stays) {f : Addr} {cdv : Value} {A : Around} {outer : List Env} {s : Shared} {H : Hp} {E : XK} (hr : Room 7 (A.deeper (envOfC "law" (defScope s_law) s.heap.objs.size f cdv))) :
    PUSs (cxOf CX0 P w K mg base ["_law_script", "_law_p", "_law_degree", "_law_raw", "_law_poly", "_law_found", "_law_told"] "law" (defScope s_law) f cdv A outer s H E).nox (defBody s_law) tr_law :=
  (us_cons (us_set 1 sc_law.nd rfl (Or.inl rfl) (pu_fn F_prime hr (by decide) rfl (pua_cons (pu_fn F_cell hr (by decide) rfl (pua_cons (pu_var 0 (pv 0)) (pua_cons pu_int pua_nil))) (pua_cons pu_int pua_nil))) (hl := il (n := 7) rfl (by decide))) (us_cons (us_set 2 sc_law.nd rfl (Or.inl rfl) (pu_op ou_add pu_int (pu_ix (pv_of (pu_fn F_draws hr (by decide) rfl (pua_cons (pu_fn F_cell hr (by decide) rfl (pua_cons (pu_var 0 (pv 0)) (pua_cons pu_int pua_nil))) (pua_cons (pu_lst (pua_cons pu_int pua_nil)) (pua_cons pu_int pua_nil))))) pu_int (fun _ _ => rfl))) (hl := il (n := 7) rfl (by decide))) (us_cons (us_set 3 sc_law.nd rfl (Or.inl rfl) (pu_fn F_places_of hr (by decide) rfl (pua_cons (pu_var 0 (pv 0)) (pua_cons (pu_var 2 (pv 2)) (pua_cons (pu_var 1 (pv 1)) pua_nil)))) (hl := il (n := 7) rfl (by decide))) (us_cons (us_set 4 sc_law.nd rfl (Or.inl rfl) (pu_callTy cu_tuple rfl z_tuple bt_tuple (pua_cons (pu_op ou_add (pu_fn F_written hr (by decide) rfl (pua_cons (pu_sliceT (pu_var 3 (pv 3)) puo_none (puo_some (pu_neg pu_int))) (pua_cons (pu_var 1 (pv 1)) (pua_cons (pu_fn F_cell hr (by decide) rfl (pua_cons (pu_var 0 (pv 0)) (pua_cons pu_int pua_nil))) (pua_cons pu_int pua_nil))))) (pu_lst (pua_cons pu_int pua_nil))) pua_nil)) (hl := il (n := 7) rfl (by decide))) (us_cons (us_set 5 sc_law.nd rfl (Or.inl rfl) (pu_fn F_p_split_by hr (by decide) rfl (pua_cons (pu_var 4 (pv 4)) (pua_cons (pu_var 1 (pv 1)) pua_nil))) (hl := il (n := 7) rfl (by decide))) (us_cons (us_if (pt_look (pt_notU (pt_of (pu_fn F_right hr (by decide) rfl (pua_cons (pu_var 5 (pv 5)) (pua_cons (pu_var 3 (pv 3)) (pua_cons (pu_var 1 (pv 1)) pua_nil))))))) (us_one (us_ret pu_bl)) us_nil) (us_cons (us_set 6 sc_law.nd rfl (Or.inl rfl) (pu_fn F_p_stays hr (by decide) rfl (pua_cons (pu_var 4 (pv 4)) (pua_cons (pu_var 1 (pv 1)) pua_nil))) (hl := il (n := 7) rfl (by decide))) (us_cons (us_if (pt_look (PUW.pt (pw_orU (pt_notU (pt_of (pu_callB cu_isi rfl z_isinstance bt_isinstance (pua_cons (pu_var 6 (pv 6)) (pua_cons (pu_ty rfl z_bool bt_bool) pua_nil))))) (pw_or1U (pt_cmpU ou_ne (pu_var 6 (pv 6)) (pu_and (pu_cmp ou_eq (pu_len (pv_var 5 (pv 5)) rfl z_len) pu_int (nomark _)) (pu_one (pu_cmp ou_eq (pu_ix (pv_of (pu_ix (pv_var 5 (pv 5)) pu_int (fun _ _ => rfl))) pu_int (fun _ _ => rfl)) pu_int (nomark _)))) (nomark _)))))) (us_one (us_ret pu_bl)) us_nil) (us_cons (us_append 5 (pv 5) (pu_tup (pua_cons (pu_tup (pua_cons pu_int (pua_cons pu_int pua_nil))) (pua_cons pu_int pua_nil)))) (us_cons (us_setItem 5 (pv 5) (pu_tup (pua_cons (pu_tup (pua_cons pu_int (pua_cons pu_int pua_nil))) (pua_cons pu_int pua_nil))) pu_int) (us_one (us_ret (pu_fn F_right hr (by decide) rfl (pua_cons (pu_fn F_p_split_by hr (by decide) rfl (pua_cons (pu_var 4 (pv 4)) (pua_cons (pu_var 1 (pv 1)) pua_nil))) (pua_cons (pu_var 3 (pv 3)) (pua_cons (pu_var 1 (pv 1)) pua_nil))))))))))))))))
end
theorem all_mk {l : PySem.W.OpenLaw} {w : World} {K : PySem.W.Frag} {h : Heap} {mg : Str → Option Value} {fa f1 f2 f3 f4 f5 f6 f7 f8 f9 f10 f11 f12 f13 f14 f15 f16 f17 f18 f19 f20 f21 f22 f23 f24 f25 f26 f27 f28 f29 f30 : Addr} (X : K.In h) (G : h.Ns mainGlobals mg) (hfa : mg "law" = some (.ref fa))
    {od1 an1 od2 an2 od3 an3 od4 an4 od5 an5 od6 an6 od7 an7 od8 an8 od9 an9 od10 an10 od11 an11 od12 an12 od13 an13 od14 an14 od15 an15 od16 an16 od17 an17 od18 an18 od19 an19 od20 an20 od21 an21 od22 an22 od23 an23 od24 an24 od25 an25 od26 an26 od27 an27 od28 an28 od29 an29 od30 an30 : Option Addr} {sl1 sl2 sl3 sl4 sl5 sl6 sl7 sl8 sl9 sl10 sl11 sl12 sl13 sl14 sl15 sl16 sl17 sl18 sl19 sl20 sl21 sl22 sl23 sl24 sl25 sl26 sl27 sl28 sl29 sl30 : Array (Option Value)} {oc1 kV1 dc1 pm1 cd1 ct1 oc2 kV2 dc2 pm2 cd2 ct2 oc3 kV3 dc3 pm3 cd3 ct3 oc4 kV4 dc4 pm4 cd4 ct4 oc5 kV5 dc5 pm5 cd5 ct5 oc6 kV6 dc6 pm6 cd6 ct6 oc7 kV7 dc7 pm7 cd7 ct7 oc8 kV8 dc8 pm8 cd8 ct8 oc9 kV9 dc9 pm9 cd9 ct9 oc10 kV10 dc10 pm10 cd10 ct10 oc11 kV11 dc11 pm11 cd11 ct11 oc12 kV12 dc12 pm12 cd12 ct12 oc13 kV13 dc13 pm13 cd13 ct13 oc14 kV14 dc14 pm14 cd14 ct14 oc15 kV15 dc15 pm15 cd15 ct15 oc16 kV16 dc16 pm16 cd16 ct16 oc17 kV17 dc17 pm17 cd17 ct17 oc18 kV18 dc18 pm18 cd18 ct18 oc19 kV19 dc19 pm19 cd19 ct19 oc20 kV20 dc20 pm20 cd20 ct20 oc21 kV21 dc21 pm21 cd21 ct21 oc22 kV22 dc22 pm22 cd22 ct22 oc23 kV23 dc23 pm23 cd23 ct23 oc24 kV24 dc24 pm24 cd24 ct24 oc25 kV25 dc25 pm25 cd25 ct25 oc26 kV26 dc26 pm26 cd26 ct26 oc27 kV27 dc27 pm27 cd27 ct27 oc28 kV28 dc28 pm28 cd28 ct28 oc29 kV29 dc29 pm29 cd29 ct29 oc30 kV30 dc30 pm30 cd30 ct30 : Value}
    (a1 : PySem.W.nsIn K mainGlobals "cut" = some (some (.ref f1))) (l1 : K.lookup f1 = some ⟨oc1, od1, .func (PySem.W.fnOf "cut" "cut" (defArgs s_p_cut) (defBody s_p_cut) (defScope s_p_cut) .none kV1 dc1 pm1 an1 cd1 ct1), sl1⟩) (c1 : PySem.W.codeIn K cd1 "cut" = true) (k1 : PySem.W.keepIn K (.ref f1) = true)
    (a2 : PySem.W.nsIn K mainGlobals "poly_parted" = some (some (.ref f2))) (l2 : K.lookup f2 = some ⟨oc2, od2, .func (PySem.W.fnOf "poly_parted" "poly_parted" (defArgs s_p_poly_parted) (defBody s_p_poly_parted) (defScope s_p_poly_parted) .none kV2 dc2 pm2 an2 cd2 ct2), sl2⟩) (c2 : PySem.W.codeIn K cd2 "poly_parted" = true) (k2 : PySem.W.keepIn K (.ref f2) = true)
    (a3 : PySem.W.nsIn K mainGlobals "poly_at" = some (some (.ref f3))) (l3 : K.lookup f3 = some ⟨oc3, od3, .func (PySem.W.fnOf "poly_at" "poly_at" (defArgs s_p_poly_at) (defBody s_p_poly_at) (defScope s_p_poly_at) .none kV3 dc3 pm3 an3 cd3 ct3), sl3⟩) (c3 : PySem.W.codeIn K cd3 "poly_at" = true) (k3 : PySem.W.keepIn K (.ref f3) = true)
    (a4 : PySem.W.nsIn K mainGlobals "mod_poly" = some (some (.ref f4))) (l4 : K.lookup f4 = some ⟨oc4, od4, .func (PySem.W.fnOf "mod_poly" "mod_poly" (defArgs s_p_mod_poly) (defBody s_p_mod_poly) (defScope s_p_mod_poly) .none kV4 dc4 pm4 an4 cd4 ct4), sl4⟩) (c4 : PySem.W.codeIn K cd4 "mod_poly" = true) (k4 : PySem.W.keepIn K (.ref f4) = true)
    (a5 : PySem.W.nsIn K mainGlobals "mod_parted" = some (some (.ref f5))) (l5 : K.lookup f5 = some ⟨oc5, od5, .func (PySem.W.fnOf "mod_parted" "mod_parted" (defArgs s_p_mod_parted) (defBody s_p_mod_parted) (defScope s_p_mod_parted) .none kV5 dc5 pm5 an5 cd5 ct5), sl5⟩) (c5 : PySem.W.codeIn K cd5 "mod_parted" = true) (k5 : PySem.W.keepIn K (.ref f5) = true)
    (a6 : PySem.W.nsIn K mainGlobals "scaled" = some (some (.ref f6))) (l6 : K.lookup f6 = some ⟨oc6, od6, .func (PySem.W.fnOf "scaled" "scaled" (defArgs s_p_scaled) (defBody s_p_scaled) (defScope s_p_scaled) .none kV6 dc6 pm6 an6 cd6 ct6), sl6⟩) (c6 : PySem.W.codeIn K cd6 "scaled" = true) (k6 : PySem.W.keepIn K (.ref f6) = true)
    (a7 : PySem.W.nsIn K mainGlobals "inverse_of" = some (some (.ref f7))) (l7 : K.lookup f7 = some ⟨oc7, od7, .func (PySem.W.fnOf "inverse_of" "inverse_of" (defArgs s_p_inverse_of) (defBody s_p_inverse_of) (defScope s_p_inverse_of) .none kV7 dc7 pm7 an7 cd7 ct7), sl7⟩) (c7 : PySem.W.codeIn K cd7 "inverse_of" = true) (k7 : PySem.W.keepIn K (.ref f7) = true)
    (a8 : PySem.W.nsIn K mainGlobals "small_primes" = some (some (.ref f8))) (l8 : K.lookup f8 = some ⟨oc8, od8, .func (PySem.W.fnOf "small_primes" "small_primes" (defArgs s_p_small_primes) (defBody s_p_small_primes) (defScope s_p_small_primes) .none kV8 dc8 pm8 an8 cd8 ct8), sl8⟩) (c8 : PySem.W.codeIn K cd8 "small_primes" = true) (k8 : PySem.W.keepIn K (.ref f8) = true)
    (a9 : PySem.W.nsIn K mainGlobals "split_by" = some (some (.ref f9))) (l9 : K.lookup f9 = some ⟨oc9, od9, .func (PySem.W.fnOf "split_by" "split_by" (defArgs s_p_split_by) (defBody s_p_split_by) (defScope s_p_split_by) .none kV9 dc9 pm9 an9 cd9 ct9), sl9⟩) (c9 : PySem.W.codeIn K cd9 "split_by" = true) (k9 : PySem.W.keepIn K (.ref f9) = true)
    (a10 : PySem.W.nsIn K mainGlobals "stays" = some (some (.ref f10))) (l10 : K.lookup f10 = some ⟨oc10, od10, .func (PySem.W.fnOf "stays" "stays" (defArgs s_p_stays) (defBody s_p_stays) (defScope s_p_stays) .none kV10 dc10 pm10 an10 cd10 ct10), sl10⟩) (c10 : PySem.W.codeIn K cd10 "stays" = true) (k10 : PySem.W.keepIn K (.ref f10) = true)
    (a11 : PySem.W.nsIn K mainGlobals "lines_out" = some (some (.ref f11))) (l11 : K.lookup f11 = some ⟨oc11, od11, .func (PySem.W.fnOf "lines_out" "lines_out" (defArgs s_p_lines_out) (defBody s_p_lines_out) (defScope s_p_lines_out) .none kV11 dc11 pm11 an11 cd11 ct11), sl11⟩) (c11 : PySem.W.codeIn K cd11 "lines_out" = true) (k11 : PySem.W.keepIn K (.ref f11) = true)
    (a12 : PySem.W.nsIn K mainGlobals "rootless_parts" = some (some (.ref f12))) (l12 : K.lookup f12 = some ⟨oc12, od12, .func (PySem.W.fnOf "rootless_parts" "rootless_parts" (defArgs s_p_rootless_parts) (defBody s_p_rootless_parts) (defScope s_p_rootless_parts) .none kV12 dc12 pm12 an12 cd12 ct12), sl12⟩) (c12 : PySem.W.codeIn K cd12 "rootless_parts" = true) (k12 : PySem.W.keepIn K (.ref f12) = true)
    (a13 : PySem.W.nsIn K mainGlobals "two_by_two" = some (some (.ref f13))) (l13 : K.lookup f13 = some ⟨oc13, od13, .func (PySem.W.fnOf "two_by_two" "two_by_two" (defArgs s_p_two_by_two) (defBody s_p_two_by_two) (defScope s_p_two_by_two) .none kV13 dc13 pm13 an13 cd13 ct13), sl13⟩) (c13 : PySem.W.codeIn K cd13 "two_by_two" = true) (k13 : PySem.W.keepIn K (.ref f13) = true)
    (a14 : PySem.W.nsIn K mainGlobals "_law_mixed" = some (some (.ref f14))) (l14 : K.lookup f14 = some ⟨oc14, od14, .func (PySem.W.fnOf "_law_mixed" "_law_mixed" (defArgs s_mixed) (defBody s_mixed) (defScope s_mixed) .none kV14 dc14 pm14 an14 cd14 ct14), sl14⟩) (c14 : PySem.W.codeIn K cd14 "_law_mixed" = true) (k14 : PySem.W.keepIn K (.ref f14) = true)
    (a15 : PySem.W.nsIn K mainGlobals "_law_draws" = some (some (.ref f15))) (l15 : K.lookup f15 = some ⟨oc15, od15, .func (PySem.W.fnOf "_law_draws" "_law_draws" (defArgs s_draws) (defBody s_draws) (defScope s_draws) .none kV15 dc15 pm15 an15 cd15 ct15), sl15⟩) (c15 : PySem.W.codeIn K cd15 "_law_draws" = true) (k15 : PySem.W.keepIn K (.ref f15) = true)
    (a16 : PySem.W.nsIn K mainGlobals "_law_cell" = some (some (.ref f16))) (l16 : K.lookup f16 = some ⟨oc16, od16, .func (PySem.W.fnOf "_law_cell" "_law_cell" (defArgs s_cell) (defBody s_cell) (defScope s_cell) .none kV16 dc16 pm16 an16 cd16 ct16), sl16⟩) (c16 : PySem.W.codeIn K cd16 "_law_cell" = true) (k16 : PySem.W.keepIn K (.ref f16) = true)
    (a17 : PySem.W.nsIn K mainGlobals "_law_mod_places" = some (some (.ref f17))) (l17 : K.lookup f17 = some ⟨oc17, od17, .func (PySem.W.fnOf "_law_mod_places" "_law_mod_places" (defArgs s_mod_places) (defBody s_mod_places) (defScope s_mod_places) .none kV17 dc17 pm17 an17 cd17 ct17), sl17⟩) (c17 : PySem.W.codeIn K cd17 "_law_mod_places" = true) (k17 : PySem.W.keepIn K (.ref f17) = true)
    (a18 : PySem.W.nsIn K mainGlobals "_law_cut" = some (some (.ref f18))) (l18 : K.lookup f18 = some ⟨oc18, od18, .func (PySem.W.fnOf "_law_cut" "_law_cut" (defArgs s_cut) (defBody s_cut) (defScope s_cut) .none kV18 dc18 pm18 an18 cd18 ct18), sl18⟩) (c18 : PySem.W.codeIn K cd18 "_law_cut" = true) (k18 : PySem.W.keepIn K (.ref f18) = true)
    (a19 : PySem.W.nsIn K mainGlobals "_law_mod_times" = some (some (.ref f19))) (l19 : K.lookup f19 = some ⟨oc19, od19, .func (PySem.W.fnOf "_law_mod_times" "_law_mod_times" (defArgs s_mod_times) (defBody s_mod_times) (defScope s_mod_times) .none kV19 dc19 pm19 an19 cd19 ct19), sl19⟩) (c19 : PySem.W.codeIn K cd19 "_law_mod_times" = true) (k19 : PySem.W.keepIn K (.ref f19) = true)
    (a20 : PySem.W.nsIn K mainGlobals "_law_whole" = some (some (.ref f20))) (l20 : K.lookup f20 = some ⟨oc20, od20, .func (PySem.W.fnOf "_law_whole" "_law_whole" (defArgs s_whole) (defBody s_whole) (defScope s_whole) .none kV20 dc20 pm20 an20 cd20 ct20), sl20⟩) (c20 : PySem.W.codeIn K cd20 "_law_whole" = true) (k20 : PySem.W.keepIn K (.ref f20) = true)
    (a21 : PySem.W.nsIn K mainGlobals "_law_is_poly" = some (some (.ref f21))) (l21 : K.lookup f21 = some ⟨oc21, od21, .func (PySem.W.fnOf "_law_is_poly" "_law_is_poly" (defArgs s_is_poly) (defBody s_is_poly) (defScope s_is_poly) .none kV21 dc21 pm21 an21 cd21 ct21), sl21⟩) (c21 : PySem.W.codeIn K cd21 "_law_is_poly" = true) (k21 : PySem.W.keepIn K (.ref f21) = true)
    (a22 : PySem.W.nsIn K mainGlobals "_law_is_mod" = some (some (.ref f22))) (l22 : K.lookup f22 = some ⟨oc22, od22, .func (PySem.W.fnOf "_law_is_mod" "_law_is_mod" (defArgs s_is_mod) (defBody s_is_mod) (defScope s_is_mod) .none kV22 dc22 pm22 an22 cd22 ct22), sl22⟩) (c22 : PySem.W.codeIn K cd22 "_law_is_mod" = true) (k22 : PySem.W.keepIn K (.ref f22) = true)
    (a23 : PySem.W.nsIn K mainGlobals "_law_mod_value" = some (some (.ref f23))) (l23 : K.lookup f23 = some ⟨oc23, od23, .func (PySem.W.fnOf "_law_mod_value" "_law_mod_value" (defArgs s_mod_value) (defBody s_mod_value) (defScope s_mod_value) .none kV23 dc23 pm23 an23 cd23 ct23), sl23⟩) (c23 : PySem.W.codeIn K cd23 "_law_mod_value" = true) (k23 : PySem.W.keepIn K (.ref f23) = true)
    (a24 : PySem.W.nsIn K mainGlobals "_law_mod_stays" = some (some (.ref f24))) (l24 : K.lookup f24 = some ⟨oc24, od24, .func (PySem.W.fnOf "_law_mod_stays" "_law_mod_stays" (defArgs s_mod_stays) (defBody s_mod_stays) (defScope s_mod_stays) .none kV24 dc24 pm24 an24 cd24 ct24), sl24⟩) (c24 : PySem.W.codeIn K cd24 "_law_mod_stays" = true) (k24 : PySem.W.keepIn K (.ref f24) = true)
    (a25 : PySem.W.nsIn K mainGlobals "_law_primes" = some (some (.ref f25))) (l25 : K.lookup f25 = some ⟨oc25, od25, .func (PySem.W.fnOf "_law_primes" "_law_primes" (defArgs s_primes) (defBody s_primes) (defScope s_primes) .none kV25 dc25 pm25 an25 cd25 ct25), sl25⟩) (c25 : PySem.W.codeIn K cd25 "_law_primes" = true) (k25 : PySem.W.keepIn K (.ref f25) = true)
    (a26 : PySem.W.nsIn K mainGlobals "_law_prime" = some (some (.ref f26))) (l26 : K.lookup f26 = some ⟨oc26, od26, .func (PySem.W.fnOf "_law_prime" "_law_prime" (defArgs s_prime) (defBody s_prime) (defScope s_prime) .none kV26 dc26 pm26 an26 cd26 ct26), sl26⟩) (c26 : PySem.W.codeIn K cd26 "_law_prime" = true) (k26 : PySem.W.keepIn K (.ref f26) = true)
    (a27 : PySem.W.nsIn K mainGlobals "_law_written" = some (some (.ref f27))) (l27 : K.lookup f27 = some ⟨oc27, od27, .func (PySem.W.fnOf "_law_written" "_law_written" (defArgs s_written) (defBody s_written) (defScope s_written) .none kV27 dc27 pm27 an27 cd27 ct27), sl27⟩) (c27 : PySem.W.codeIn K cd27 "_law_written" = true) (k27 : PySem.W.keepIn K (.ref f27) = true)
    (a28 : PySem.W.nsIn K mainGlobals "_law_places_of" = some (some (.ref f28))) (l28 : K.lookup f28 = some ⟨oc28, od28, .func (PySem.W.fnOf "_law_places_of" "_law_places_of" (defArgs s_places_of) (defBody s_places_of) (defScope s_places_of) .none kV28 dc28 pm28 an28 cd28 ct28), sl28⟩) (c28 : PySem.W.codeIn K cd28 "_law_places_of" = true) (k28 : PySem.W.keepIn K (.ref f28) = true)
    (a29 : PySem.W.nsIn K mainGlobals "_law_right" = some (some (.ref f29))) (l29 : K.lookup f29 = some ⟨oc29, od29, .func (PySem.W.fnOf "_law_right" "_law_right" (defArgs s_right) (defBody s_right) (defScope s_right) .none kV29 dc29 pm29 an29 cd29 ct29), sl29⟩) (c29 : PySem.W.codeIn K cd29 "_law_right" = true) (k29 : PySem.W.keepIn K (.ref f29) = true)
    (a30 : PySem.W.nsIn K mainGlobals "law" = some (some (.ref f30))) (l30 : K.lookup f30 = some ⟨oc30, od30, .func (PySem.W.fnOf "law" "law" (defArgs s_law) (defBody s_law) (defScope s_law) .none kV30 dc30 pm30 an30 cd30 ct30), sl30⟩) (c30 : PySem.W.codeIn K cd30 "law" = true) (k30 : PySem.W.keepIn K (.ref f30) = true)
    (z_len : PySem.W.nsIn K mainGlobals "len" = some none)
    (z_max : PySem.W.nsIn K mainGlobals "max" = some none)
    (z_list : PySem.W.nsIn K mainGlobals "list" = some none)
    (z_reversed : PySem.W.nsIn K mainGlobals "reversed" = some none)
    (z_range : PySem.W.nsIn K mainGlobals "range" = some none)
    (z_enumerate : PySem.W.nsIn K mainGlobals "enumerate" = some none)
    (z_tuple : PySem.W.nsIn K mainGlobals "tuple" = some none)
    (z_sorted : PySem.W.nsIn K mainGlobals "sorted" = some none)
    (z_isinstance : PySem.W.nsIn K mainGlobals "isinstance" = some none)
    (z_int : PySem.W.nsIn K mainGlobals "int" = some none)
    (z_bool : PySem.W.nsIn K mainGlobals "bool" = some none)
    (z_all : PySem.W.nsIn K mainGlobals "all" = some none)
    (z_any : PySem.W.nsIn K mainGlobals "any" = some none)
    (z_zip : PySem.W.nsIn K mainGlobals "zip" = some none)
    (z_min : PySem.W.nsIn K mainGlobals "min" = some none)
    {a_SMALL_PRIMES : Addr} {od_SMALL_PRIMES : Option Addr} {its_SMALL_PRIMES : Array Value} {n_SMALL_PRIMES : Nat} {sl_SMALL_PRIMES : Array (Option Value)} (g_SMALL_PRIMES : PySem.W.nsIn K mainGlobals "SMALL_PRIMES" = some (some (.ref a_SMALL_PRIMES))) (lk_SMALL_PRIMES : K.lookup a_SMALL_PRIMES = some ⟨.type "tuple", od_SMALL_PRIMES, .seq its_SMALL_PRIMES n_SMALL_PRIMES, sl_SMALL_PRIMES⟩) (hz_SMALL_PRIMES : its_SMALL_PRIMES.size ≤ sizeLine) (hv_SMALL_PRIMES : Vals (T_SMALL_PRIMES.map V.int) its_SMALL_PRIMES.toList) :
    ∃ fd : FuncData, (∀ (s : Shared) (v : Value), BindsTo s fd ⟨[v], []⟩ [("_law_script", v)]) ∧ ∀ base : Heap, K.In base → base.Ns mainGlobals mg → FnOk l.prog w K mg base CX0 8 fa fd ["_law_script"] (spP K φLaw) := by
  have e := hfa.symm.trans (PySem.W.mg_of X G a30)
  cases e
  have z_len := PySem.W.mg_none_of X G z_len
  have z_max := PySem.W.mg_none_of X G z_max
  have z_list := PySem.W.mg_none_of X G z_list
  have z_reversed := PySem.W.mg_none_of X G z_reversed
  have z_range := PySem.W.mg_none_of X G z_range
  have z_enumerate := PySem.W.mg_none_of X G z_enumerate
  have z_tuple := PySem.W.mg_none_of X G z_tuple
  have z_sorted := PySem.W.mg_none_of X G z_sorted
  have z_isinstance := PySem.W.mg_none_of X G z_isinstance
  have z_int := PySem.W.mg_none_of X G z_int
  have z_bool := PySem.W.mg_none_of X G z_bool
  have z_all := PySem.W.mg_none_of X G z_all
  have z_any := PySem.W.mg_none_of X G z_any
  have z_zip := PySem.W.mg_none_of X G z_zip
  have z_min := PySem.W.mg_none_of X G z_min
  have g_SMALL_PRIMES := PySem.W.mg_of X G g_SMALL_PRIMES
  have k_SMALL_PRIMES : KT K a_SMALL_PRIMES (T_SMALL_PRIMES.map V.int) := kt_of lk_SMALL_PRIMES hz_SMALL_PRIMES hv_SMALL_PRIMES
  have U1 := fun_mk (st := s_p_cut) l1 c1 k1
  have U2 := fun_mk (st := s_p_poly_parted) l2 c2 k2
  have U3 := fun_mk (st := s_p_poly_at) l3 c3 k3
  have U4 := fun_mk (st := s_p_mod_poly) l4 c4 k4
  have U5 := fun_mk (st := s_p_mod_parted) l5 c5 k5
  have U6 := fun_mk (st := s_p_scaled) l6 c6 k6
  have U7 := fun_mk (st := s_p_inverse_of) l7 c7 k7
  have U8 := fun_mk (st := s_p_small_primes) l8 c8 k8
  have U9 := fun_mk (st := s_p_split_by) l9 c9 k9
  have U10 := fun_mk (st := s_p_stays) l10 c10 k10
  have U11 := fun_mk (st := s_p_lines_out) l11 c11 k11
  have U12 := fun_mk (st := s_p_rootless_parts) l12 c12 k12
  have U13 := fun_mk (st := s_p_two_by_two) l13 c13 k13
  have U14 := fun_mk (st := s_mixed) l14 c14 k14
  have U15 := fun_mk (st := s_draws) l15 c15 k15
  have U16 := fun_mk (st := s_cell) l16 c16 k16
  have U17 := fun_mk (st := s_mod_places) l17 c17 k17
  have U18 := fun_mk (st := s_cut) l18 c18 k18
  have U19 := fun_mk (st := s_mod_times) l19 c19 k19
  have U20 := fun_mk (st := s_whole) l20 c20 k20
  have U21 := fun_mk (st := s_is_poly) l21 c21 k21
  have U22 := fun_mk (st := s_is_mod) l22 c22 k22
  have U23 := fun_mk (st := s_mod_value) l23 c23 k23
  have U24 := fun_mk (st := s_mod_stays) l24 c24 k24
  have U25 := fun_mk (st := s_primes) l25 c25 k25
  have U26 := fun_mk (st := s_prime) l26 c26 k26
  have U27 := fun_mk (st := s_written) l27 c27 k27
  have U28 := fun_mk (st := s_places_of) l28 c28 k28
  have U29 := fun_mk (st := s_right) l29 c29 k29
  have U30 := fun_mk (st := s_law) l30 c30 k30
  refine ⟨PySem.W.fnOf "law" "law" (defArgs s_law) (defBody s_law) (defScope s_law) .none kV30 dc30 pm30 an30 cd30 ct30, fun s v => .of_eq rfl, fun base _ _ => ?_⟩
  have F_p_cut : Fn l.prog w K mg base "cut" ["row"] 1 φ_p_cut := Fn.mk' U1 (PySem.W.mg_of X G a1) (U1.binds (ps := ["row"]) fun _ _ _ _ _ _ us hl => match us, hl with | [_], _ => rfl) sc_p_cut len_p_cut (fun cdv A outer s H E hr => der_p_cut z_len    hr) rd_p_cut
  have F_p_poly_parted : Fn l.prog w K mg base "poly_parted" ["f", "g"] 2 φ_p_poly_parted := Fn.mk' U2 (PySem.W.mg_of X G a2) (U2.binds (ps := ["f", "g"]) fun _ _ _ _ _ _ us hl => match us, hl with | [_, _], _ => rfl) sc_p_poly_parted len_p_poly_parted (fun cdv A outer s H E hr => der_p_poly_parted z_len z_max z_list z_reversed z_range z_enumerate z_tuple   F_p_cut hr) rd_p_poly_parted
  have F_p_poly_at : Fn l.prog w K mg base "poly_at" ["f", "z"] 1 φ_p_poly_at := Fn.mk' U3 (PySem.W.mg_of X G a3) (U3.binds (ps := ["f", "z"]) fun _ _ _ _ _ _ us hl => match us, hl with | [_, _], _ => rfl) sc_p_poly_at len_p_poly_at (fun cdv A outer s H E hr => der_p_poly_at z_reversed    hr) rd_p_poly_at
  have F_p_mod_poly : Fn l.prog w K mg base "mod_poly" ["row", "p"] 2 φ_p_mod_poly := Fn.mk' U4 (PySem.W.mg_of X G a4) (U4.binds (ps := ["row", "p"]) fun _ _ _ _ _ _ us hl => match us, hl with | [_, _], _ => rfl) sc_p_mod_poly len_p_mod_poly (fun cdv A outer s H E hr => der_p_mod_poly z_tuple   F_p_cut hr) rd_p_mod_poly
  have F_p_inverse_of : Fn l.prog w K mg base "inverse_of" ["c", "p"] 1 φ_p_inverse_of := Fn.mk' U7 (PySem.W.mg_of X G a7) (U7.binds (ps := ["c", "p"]) fun _ _ _ _ _ _ us hl => match us, hl with | [_, _], _ => rfl) sc_p_inverse_of len_p_inverse_of (fun cdv A outer s H E hr => der_p_inverse_of z_range    hr) rd_p_inverse_of
  have F_p_scaled : Fn l.prog w K mg base "scaled" ["f", "k", "p"] 3 φ_p_scaled := Fn.mk' U6 (PySem.W.mg_of X G a6) (U6.binds (ps := ["f", "k", "p"]) fun _ _ _ _ _ _ us hl => match us, hl with | [_, _, _], _ => rfl) sc_p_scaled len_p_scaled (fun cdv A outer s H E hr => der_p_scaled z_tuple   F_p_mod_poly hr) rd_p_scaled
  have F_p_mod_parted : Fn l.prog w K mg base "mod_parted" ["a", "b", "p"] 4 φ_p_mod_parted := Fn.mk' U5 (PySem.W.mg_of X G a5) (U5.binds (ps := ["a", "b", "p"]) fun _ _ _ _ _ _ us hl => match us, hl with | [_, _, _], _ => rfl) sc_p_mod_parted len_p_mod_parted (fun cdv A outer s H E hr => der_p_mod_parted    F_p_mod_poly F_p_inverse_of F_p_poly_parted F_p_scaled hr) rd_p_mod_parted
  have F_p_small_primes : Fn l.prog w K mg base "small_primes" [] 1 φ_p_small_primes := Fn.mk' U8 (PySem.W.mg_of X G a8) (U8.binds (ps := []) fun _ _ _ _ _ _ us hl => match us, hl with | [], _ => rfl) sc_p_small_primes len_p_small_primes (fun cdv A outer s H E hr => der_p_small_primes z_list  g_SMALL_PRIMES k_SMALL_PRIMES  hr) rd_p_small_primes
  have F_p_lines_out : Fn l.prog w K mg base "lines_out" ["f", "p"] 5 φ_p_lines_out := Fn.mk' U11 (PySem.W.mg_of X G a11) (U11.binds (ps := ["f", "p"]) fun _ _ _ _ _ _ us hl => match us, hl with | [_, _], _ => rfl) sc_p_lines_out len_p_lines_out (fun cdv A outer s H E hr => der_p_lines_out z_range   F_p_poly_at F_p_mod_parted hr) rd_p_lines_out
  have F_p_two_by_two : Fn l.prog w K mg base "two_by_two" ["f", "p"] 1 φ_p_two_by_two := Fn.mk' U13 (PySem.W.mg_of X G a13) (U13.binds (ps := ["f", "p"]) fun _ _ _ _ _ _ us hl => match us, hl with | [_, _], _ => rfl) sc_p_two_by_two len_p_two_by_two (fun cdv A outer s H E hr => der_p_two_by_two z_range    hr) rd_p_two_by_two
  have F_p_rootless_parts : Fn l.prog w K mg base "rootless_parts" ["f", "p"] 2 φ_p_rootless_parts := Fn.mk' U12 (PySem.W.mg_of X G a12) (U12.binds (ps := ["f", "p"]) fun _ _ _ _ _ _ us hl => match us, hl with | [_, _], _ => rfl) sc_p_rootless_parts len_p_rootless_parts (fun cdv A outer s H E hr => der_p_rootless_parts z_len z_sorted   F_p_two_by_two hr) rd_p_rootless_parts
  have F_p_split_by : Fn l.prog w K mg base "split_by" ["poly", "p"] 6 φ_p_split_by := Fn.mk' U9 (PySem.W.mg_of X G a9) (U9.binds (ps := ["poly", "p"]) fun _ _ _ _ _ _ us hl => match us, hl with | [_, _], _ => rfl) sc_p_split_by len_p_split_by (fun cdv A outer s H E hr => der_p_split_by    F_p_small_primes F_p_lines_out F_p_mod_poly F_p_rootless_parts hr) rd_p_split_by
  have F_p_stays : Fn l.prog w K mg base "stays" ["poly", "p"] 7 φ_p_stays := Fn.mk' U10 (PySem.W.mg_of X G a10) (U10.binds (ps := ["poly", "p"]) fun _ _ _ _ _ _ us hl => match us, hl with | [_, _], _ => rfl) sc_p_stays len_p_stays (fun cdv A outer s H E hr => der_p_stays z_len   F_p_split_by hr) rd_p_stays
  have F_mixed : Fn l.prog w K mg base "_law_mixed" ["_law_cell_here", "_law_k", "_law_prime_here"] 1 φ_mixed := Fn.mk' U14 (PySem.W.mg_of X G a14) (U14.binds (ps := ["_law_cell_here", "_law_k", "_law_prime_here"]) fun _ _ _ _ _ _ us hl => match us, hl with | [_, _, _], _ => rfl) sc_mixed len_mixed (fun cdv A outer s H E hr => der_mixed     hr) rd_mixed
  have F_draws : Fn l.prog w K mg base "_law_draws" ["_law_cell_here", "_law_widths", "_law_prime_here"] 2 φ_draws := Fn.mk' U15 (PySem.W.mg_of X G a15) (U15.binds (ps := ["_law_cell_here", "_law_widths", "_law_prime_here"]) fun _ _ _ _ _ _ us hl => match us, hl with | [_, _, _], _ => rfl) sc_draws len_draws (fun cdv A outer s H E hr => der_draws z_range z_len   F_mixed hr) rd_draws
  have F_cell : Fn l.prog w K mg base "_law_cell" ["_law_script", "_law_k"] 1 φ_cell := Fn.mk' U16 (PySem.W.mg_of X G a16) (U16.binds (ps := ["_law_script", "_law_k"]) fun _ _ _ _ _ _ us hl => match us, hl with | [_, _], _ => rfl) sc_cell len_cell (fun cdv A outer s H E hr => der_cell z_len    hr) rd_cell
  have F_mod_places : Fn l.prog w K mg base "_law_mod_places" ["_law_cell_here", "_law_many", "_law_p", "_law_prime_here"] 3 φ_mod_places := Fn.mk' U17 (PySem.W.mg_of X G a17) (U17.binds (ps := ["_law_cell_here", "_law_many", "_law_p", "_law_prime_here"]) fun _ _ _ _ _ _ us hl => match us, hl with | [_, _, _, _], _ => rfl) sc_mod_places len_mod_places (fun cdv A outer s H E hr => der_mod_places    F_draws hr) rd_mod_places
  have F_cut : Fn l.prog w K mg base "_law_cut" ["_law_row"] 1 φ_cut := Fn.mk' U18 (PySem.W.mg_of X G a18) (U18.binds (ps := ["_law_row"]) fun _ _ _ _ _ _ us hl => match us, hl with | [_], _ => rfl) sc_cut len_cut (fun cdv A outer s H E hr => der_cut z_len z_tuple    hr) rd_cut
  have F_mod_times : Fn l.prog w K mg base "_law_mod_times" ["_law_f", "_law_g", "_law_p"] 2 φ_mod_times := Fn.mk' U19 (PySem.W.mg_of X G a19) (U19.binds (ps := ["_law_f", "_law_g", "_law_p"]) fun _ _ _ _ _ _ us hl => match us, hl with | [_, _, _], _ => rfl) sc_mod_times len_mod_times (fun cdv A outer s H E hr => der_mod_times z_len z_range   F_cut hr) rd_mod_times
  have F_whole : Fn l.prog w K mg base "_law_whole" ["_law_found"] 1 φ_whole := Fn.mk' U20 (PySem.W.mg_of X G a20) (U20.binds (ps := ["_law_found"]) fun _ _ _ _ _ _ us hl => match us, hl with | [_], _ => rfl) sc_whole len_whole (fun cdv A outer s H E hr => der_whole z_isinstance z_int z_bool    hr) rd_whole
  have F_is_poly : Fn l.prog w K mg base "_law_is_poly" ["_law_found"] 2 φ_is_poly := Fn.mk' U21 (PySem.W.mg_of X G a21) (U21.binds (ps := ["_law_found"]) fun _ _ _ _ _ _ us hl => match us, hl with | [_], _ => rfl) sc_is_poly len_is_poly (fun cdv A outer s H E hr => der_is_poly z_isinstance z_tuple z_all z_len   F_whole hr) rd_is_poly
  have F_is_mod : Fn l.prog w K mg base "_law_is_mod" ["_law_found", "_law_p"] 3 φ_is_mod := Fn.mk' U22 (PySem.W.mg_of X G a22) (U22.binds (ps := ["_law_found", "_law_p"]) fun _ _ _ _ _ _ us hl => match us, hl with | [_, _], _ => rfl) sc_is_mod len_is_mod (fun cdv A outer s H E hr => der_is_mod z_all   F_is_poly hr) rd_is_mod
  have F_mod_value : Fn l.prog w K mg base "_law_mod_value" ["_law_f", "_law_z", "_law_p"] 1 φ_mod_value := Fn.mk' U23 (PySem.W.mg_of X G a23) (U23.binds (ps := ["_law_f", "_law_z", "_law_p"]) fun _ _ _ _ _ _ us hl => match us, hl with | [_, _, _], _ => rfl) sc_mod_value len_mod_value (fun cdv A outer s H E hr => der_mod_value z_reversed    hr) rd_mod_value
  have F_mod_stays : Fn l.prog w K mg base "_law_mod_stays" ["_law_g", "_law_p"] 2 φ_mod_stays := Fn.mk' U24 (PySem.W.mg_of X G a24) (U24.binds (ps := ["_law_g", "_law_p"]) fun _ _ _ _ _ _ us hl => match us, hl with | [_, _], _ => rfl) sc_mod_stays len_mod_stays (fun cdv A outer s H E hr => der_mod_stays z_len z_any z_range   F_mod_value hr) rd_mod_stays
  have F_primes : Fn l.prog w K mg base "_law_primes" [] 1 φ_primes := Fn.mk' U25 (PySem.W.mg_of X G a25) (U25.binds (ps := []) fun _ _ _ _ _ _ us hl => match us, hl with | [], _ => rfl) sc_primes len_primes (fun cdv A outer s H E hr => der_primes z_range z_all    hr) rd_primes
  have F_prime : Fn l.prog w K mg base "_law_prime" ["_law_cell_here", "_law_prime_here"] 3 φ_prime := Fn.mk' U26 (PySem.W.mg_of X G a26) (U26.binds (ps := ["_law_cell_here", "_law_prime_here"]) fun _ _ _ _ _ _ us hl => match us, hl with | [_, _], _ => rfl) sc_prime len_prime (fun cdv A outer s H E hr => der_prime    F_draws F_primes hr) rd_prime
  have F_written : Fn l.prog w K mg base "_law_written" ["_law_places", "_law_p", "_law_cell_here", "_law_prime_here"] 3 φ_written := Fn.mk' U27 (PySem.W.mg_of X G a27) (U27.binds (ps := ["_law_places", "_law_p", "_law_cell_here", "_law_prime_here"]) fun _ _ _ _ _ _ us hl => match us, hl with | [_, _, _, _], _ => rfl) sc_written len_written (fun cdv A outer s H E hr => der_written z_len z_zip   F_draws hr) rd_written
  have F_places_of : Fn l.prog w K mg base "_law_places_of" ["_law_script", "_law_degree", "_law_p"] 4 φ_places_of := Fn.mk' U28 (PySem.W.mg_of X G a28) (U28.binds (ps := ["_law_script", "_law_degree", "_law_p"]) fun _ _ _ _ _ _ us hl => match us, hl with | [_, _, _], _ => rfl) sc_places_of len_places_of (fun cdv A outer s H E hr => der_places_of z_tuple z_min z_range   F_draws F_cell F_mod_places F_mod_times hr) rd_places_of
  have F_right : Fn l.prog w K mg base "_law_right" ["_law_found", "_law_raw", "_law_p"] 4 φ_right := Fn.mk' U29 (PySem.W.mg_of X G a29) (U29.binds (ps := ["_law_found", "_law_raw", "_law_p"]) fun _ _ _ _ _ _ us hl => match us, hl with | [_, _, _], _ => rfl) sc_right len_right (fun cdv A outer s H E hr => der_right z_isinstance z_list z_tuple z_len z_range   F_is_mod F_whole F_mod_stays F_mod_times hr) rd_right
  exact fn_pure U30 sc_law len_law (fun cdv A outer s H E hr => ⟨tr_law, der_law z_tuple z_isinstance z_bool z_len   F_prime F_cell F_draws F_places_of F_written F_p_split_by F_right F_p_stays hr, rd_law⟩)
end M
open PySem PySem.W PyProof.Rows
set_option maxRecDepth 100000 in
set_option maxHeartbeats 0 in
theorem PySem.Challenge.cw_ringhouse_k10_whole_split_holds : PySem.Challenge.rw_ringhouse_k10_whole_split.Holds := by
  w_on; o_law; k_head; (case hw => w_witness2)
  k_fill
  refine M.walkM (l := PySem.Challenge.rw_ringhouse_k10_whole_split) (k := 8) (x := "_law_script") rfl rfl ⟨rfl, by decide, by decide⟩ (fun w h Y => PySem.W.kIn_of Y) ?F
  case F =>
    intro w mg fa h KX G hmg
    refine' M.all_mk KX G hmg ?a1 ?l1 ?c1 ?k1 ?a2 ?l2 ?c2 ?k2 ?a3 ?l3 ?c3 ?k3 ?a4 ?l4 ?c4 ?k4 ?a5 ?l5 ?c5 ?k5 ?a6 ?l6 ?c6 ?k6 ?a7 ?l7 ?c7 ?k7 ?a8 ?l8 ?c8 ?k8 ?a9 ?l9 ?c9 ?k9 ?a10 ?l10 ?c10 ?k10 ?a11 ?l11 ?c11 ?k11 ?a12 ?l12 ?c12 ?k12 ?a13 ?l13 ?c13 ?k13 ?a14 ?l14 ?c14 ?k14 ?a15 ?l15 ?c15 ?k15 ?a16 ?l16 ?c16 ?k16 ?a17 ?l17 ?c17 ?k17 ?a18 ?l18 ?c18 ?k18 ?a19 ?l19 ?c19 ?k19 ?a20 ?l20 ?c20 ?k20 ?a21 ?l21 ?c21 ?k21 ?a22 ?l22 ?c22 ?k22 ?a23 ?l23 ?c23 ?k23 ?a24 ?l24 ?c24 ?k24 ?a25 ?l25 ?c25 ?k25 ?a26 ?l26 ?c26 ?k26 ?a27 ?l27 ?c27 ?k27 ?a28 ?l28 ?c28 ?k28 ?a29 ?l29 ?c29 ?k29 ?a30 ?l30 ?c30 ?k30 ?z_len ?z_max ?z_list ?z_reversed ?z_range ?z_enumerate ?z_tuple ?z_sorted ?z_isinstance ?z_int ?z_bool ?z_all ?z_any ?z_zip ?z_min ?g_SMALL_PRIMES ?lk_SMALL_PRIMES ?hz_SMALL_PRIMES ?hv_SMALL_PRIMES
    (case a1 => k_is); (case l1 => k_is); (case c1 => k_is); (case k1 => k_is); (case a2 => k_is); (case l2 => k_is); (case c2 => k_is); (case k2 => k_is); (case a3 => k_is); (case l3 => k_is); (case c3 => k_is); (case k3 => k_is); (case a4 => k_is); (case l4 => k_is); (case c4 => k_is); (case k4 => k_is); (case a5 => k_is); (case l5 => k_is); (case c5 => k_is); (case k5 => k_is); (case a6 => k_is); (case l6 => k_is); (case c6 => k_is); (case k6 => k_is); (case a7 => k_is); (case l7 => k_is); (case c7 => k_is); (case k7 => k_is); (case a8 => k_is); (case l8 => k_is); (case c8 => k_is); (case k8 => k_is); (case a9 => k_is); (case l9 => k_is); (case c9 => k_is); (case k9 => k_is); (case a10 => k_is); (case l10 => k_is); (case c10 => k_is); (case k10 => k_is); (case a11 => k_is); (case l11 => k_is); (case c11 => k_is); (case k11 => k_is); (case a12 => k_is); (case l12 => k_is); (case c12 => k_is); (case k12 => k_is); (case a13 => k_is); (case l13 => k_is); (case c13 => k_is); (case k13 => k_is); (case a14 => k_is); (case l14 => k_is); (case c14 => k_is); (case k14 => k_is); (case a15 => k_is); (case l15 => k_is); (case c15 => k_is); (case k15 => k_is); (case a16 => k_is); (case l16 => k_is); (case c16 => k_is); (case k16 => k_is); (case a17 => k_is); (case l17 => k_is); (case c17 => k_is); (case k17 => k_is); (case a18 => k_is); (case l18 => k_is); (case c18 => k_is); (case k18 => k_is); (case a19 => k_is); (case l19 => k_is); (case c19 => k_is); (case k19 => k_is); (case a20 => k_is); (case l20 => k_is); (case c20 => k_is); (case k20 => k_is); (case a21 => k_is); (case l21 => k_is); (case c21 => k_is); (case k21 => k_is); (case a22 => k_is); (case l22 => k_is); (case c22 => k_is); (case k22 => k_is); (case a23 => k_is); (case l23 => k_is); (case c23 => k_is); (case k23 => k_is); (case a24 => k_is); (case l24 => k_is); (case c24 => k_is); (case k24 => k_is); (case a25 => k_is); (case l25 => k_is); (case c25 => k_is); (case k25 => k_is); (case a26 => k_is); (case l26 => k_is); (case c26 => k_is); (case k26 => k_is); (case a27 => k_is); (case l27 => k_is); (case c27 => k_is); (case k27 => k_is); (case a28 => k_is); (case l28 => k_is); (case c28 => k_is); (case k28 => k_is); (case a29 => k_is); (case l29 => k_is); (case c29 => k_is); (case k29 => k_is); (case a30 => k_is); (case l30 => k_is); (case c30 => k_is); (case k30 => k_is); (case z_len => k_is); (case z_max => k_is); (case z_list => k_is); (case z_reversed => k_is); (case z_range => k_is); (case z_enumerate => k_is); (case z_tuple => k_is); (case z_sorted => k_is); (case z_isinstance => k_is); (case z_int => k_is); (case z_bool => k_is); (case z_all => k_is); (case z_any => k_is); (case z_zip => k_is); (case z_min => k_is); (case g_SMALL_PRIMES => k_is); (case lk_SMALL_PRIMES => k_is)
    (case hz_SMALL_PRIMES => first | decide | (trace_state; decide +kernel)); (case hv_SMALL_PRIMES => first | (show L2.Vals (List.map _ _) (List.toList _); simp only [M.T_SMALL_PRIMES, List.map]; repeat (first | exact .nil | refine .cons (.int _ _) ?_)) | (repeat constructor) | trace_state)
