import PyProof.Rows.All
import Wide.All
import OpenK.AllK
import Wide.FinOn
import Lean
import PyProof.EqAt
import PyProof.EqKinds
import PyProof.TupleCall
import PySem.Challenge.RW_ringhouse_k03_parted
set_option Elab.async false
set_option linter.all false
set_option maxRecDepth 100000
/-! THE HAND LAYER, for ints, bools, texts, own classes, LISTS and tuples (index, slices, in, append, pop ..), calls, loops. Paste it whole ahead of your own text; what your proof does not reach may be deleted. -/
namespace L2
open PySem PySem.Spec PyProof.Rows

/-- a key: an int or a str -/
abbrev Key := Sum Int Str
def keyIs : Key → Value → Bool
  | .inl k, v => Value.isInt k v
  | .inr x, v => Value.isStrOf x v
def keyH (w : World) : Key → Int
  | .inl k => hashInt k
  | .inr x => hashStr w x
theorem keyIs_shape : ∀ {k : Key} {v : Value}, keyIs k v = true → (∃ i t, k = Sum.inl i ∧ v = Value.int i t) ∨ (∃ x t, k = Sum.inr x ∧ v = Value.str x t)
  | .inl i, v, h => by
    obtain ⟨t, e⟩ := Value.isInt_shape (k := i) (v := v) h
    exact .inl ⟨i, t, rfl, e⟩
  | .inr x, v, h => by
    obtain ⟨t, e⟩ := Value.isStrOf_shape (x := x) (v := v) h
    exact .inr ⟨x, t, rfl, e⟩
theorem keyIs_int (i : Int) (t : Tok) : keyIs (.inl i) (.int i t) = true := by simp [keyIs, Value.isInt]
theorem keyIs_str (x : Str) (t : Tok) : keyIs (.inr x) (.str x t) = true := by simp [keyIs, Value.isStrOf]
theorem key_ll (a b : Int) : decide ((Sum.inl a : Key) = Sum.inl b) = (a == b) := by
  by_cases e : a = b
  · subst e; simp
  · have h : ¬ (Sum.inl a : Key) = Sum.inl b := fun q => e (Sum.inl.inj q)
    rw [decide_eq_false h]
    exact (beq_eq_false_iff_ne.mpr e).symm
theorem key_rr (a b : Str) : decide ((Sum.inr a : Key) = Sum.inr b) = decide (a = b) := by
  by_cases e : a = b
  · subst e; simp
  · have h : ¬ (Sum.inr a : Key) = Sum.inr b := fun q => e (Sum.inr.inj q)
    rw [decide_eq_false h, decide_eq_false e]
theorem key_lr (a : Int) (b : Str) : decide ((Sum.inl a : Key) = Sum.inr b) = false := decide_eq_false (fun q => nomatch q)
theorem key_rl (a : Str) (b : Int) : decide ((Sum.inr a : Key) = Sum.inl b) = false := decide_eq_false (fun q => nomatch q)

def mixKind (prog : Program) (w : World) : PySem.KeyKind prog w Key where
  is := keyIs
  hash := keyH w
  inj := fun v a b ha hb => by
    rcases keyIs_shape ha with ⟨i, t, rfl, rfl⟩ | ⟨x, t, rfl, rfl⟩
    · rcases keyIs_shape hb with ⟨j, u, rfl, e⟩ | ⟨y, u, rfl, e⟩
      · injection e with e1 _; rw [e1]
      · exact nomatch e
    · rcases keyIs_shape hb with ⟨j, u, rfl, e⟩ | ⟨y, u, rfl, e⟩
      · exact nomatch e
      · injection e with e1 _; rw [e1]
  byValue := fun k v h => by
    rcases keyIs_shape h with ⟨i, t, rfl, rfl⟩ | ⟨x, t, rfl, rfl⟩ <;> rfl
  pyHash := fun hv h => by
    rcases keyIs_shape hv with ⟨i, t, rfl, rfl⟩ | ⟨x, t, rfl, rfl⟩
    · exact wpAny_pyHash_int h
    · exact wpAny_pyHash_str h
  eqBool := fun hu hv h => by
    rcases keyIs_shape hu with ⟨i, t, rfl, rfl⟩ | ⟨x, t, rfl, rfl⟩
    · rcases keyIs_shape hv with ⟨j, u, rfl, rfl⟩ | ⟨y, u, rfl, rfl⟩
      · rw [key_ll] at h; exact wpAny_eqBool_int h
      · rw [key_lr] at h; exact SeqAt.EqAt.int_str i t y u _ _ _ _ h
    · rcases keyIs_shape hv with ⟨j, u, rfl, rfl⟩ | ⟨y, u, rfl, rfl⟩
      · rw [key_rl] at h; exact SeqAt.EqAt.str_int x t j u _ _ _ _ h
      · rw [key_rr] at h; exact wpAny_eqBool_str h
  «strs» := fun k x t v h => by
    rcases keyIs_shape h with ⟨i, u, rfl, e⟩ | ⟨y, u, rfl, e⟩
    · exact nomatch e
    · injection e with e1 _
      subst e1
      cases v <;> rfl

theorem mixKind_is (prog : Program) (w : World) (k : Key) (v : Value) : (mixKind prog w).is k v = keyIs k v := rfl
theorem mixKind_int (prog : Program) (w : World) (i : Int) (t : Tok) : (mixKind prog w).is (.inl i) (.int i t) = true := keyIs_int i t
theorem mixKind_str (prog : Program) (w : World) (x : Str) (t : Tok) : (mixKind prog w).is (.inr x) (.str x t) = true := keyIs_str x t
end L2

namespace L2
open PySem PySem.Spec PyProof.Rows

/-- a value, without the heap -/
inductive V where
  | non | bl (b : Bool) | int (i : Int) | str (x : Str) | byt (b : Array UInt8) | flt (b : UInt64) | ref (a : Addr) | ty (n : String)
  deriving DecidableEq

def RelV : V → Value → Prop
  | .non, u => u = Value.none
  | .bl b, u => u = Value.bool b
  | .int i, u => ∃ t, u = Value.int i t
  | .str x, u => ∃ t, u = Value.str x t
  | .byt b, u => ∃ t, u = Value.bytes b t
  | .flt b, u => ∃ t, u = Value.float b t
  | .ref a, u => u = Value.ref a
  | .ty n, u => u = Value.type n

abbrev Vals : List V → List Value → Prop := Paired RelV
theorem Vals.length {xs : List V} {us : List Value} (r : Vals xs us) : xs.length = us.length := Paired.length r
theorem Vals.get : ∀ {xs : List V} {us : List Value} {i : Nat} {x : V}, Vals xs us → xs[i]? = some x → ∃ u, us[i]? = some u ∧ RelV x u
  | _, _, _, _, .nil, e => by simp at e
  | _, _, 0, _, .cons r _, e => by simp at e; subst e; exact ⟨_, rfl, r⟩
  | _, _, i + 1, x, .cons _ t, e => by
    obtain ⟨u, h1, h2⟩ := Vals.get (i := i) (x := x) t (by simpa using e)
    exact ⟨u, by simpa using h1, h2⟩
theorem Vals.set {x : V} {u : Value} (r : RelV x u) : ∀ {xs : List V} {us : List Value} (i : Nat), Vals xs us → Vals (xs.set i x) (us.set i u)
  | _, _, _, .nil => .nil
  | _, _, 0, .cons _ t => .cons r t
  | _, _, i + 1, .cons q t => .cons q (Vals.set r i t)
theorem Vals.append : ∀ {xs ys : List V} {us ws : List Value}, Vals xs us → Vals ys ws → Vals (xs ++ ys) (us ++ ws)
  | _, _, _, _, .nil, s => s
  | _, _, _, _, .cons r t, s => .cons r (Vals.append t s)
theorem Vals.take : ∀ {xs : List V} {us : List Value} (n : Nat), Vals xs us → Vals (xs.take n) (us.take n)
  | _, _, 0, _ => .nil
  | _, _, _ + 1, .nil => .nil
  | _, _, n + 1, .cons r t => .cons r (Vals.take n t)
theorem Vals.drop : ∀ {xs : List V} {us : List Value} (n : Nat), Vals xs us → Vals (xs.drop n) (us.drop n)
  | _, _, 0, r => r
  | _, _, _ + 1, .nil => .nil
  | _, _, n + 1, .cons _ t => Vals.drop n t
theorem Vals.none_of : ∀ {xs : List V} {us : List Value} {i : Nat}, Vals xs us → xs[i]? = none → us[i]? = none := fun {xs us i} r e => by
  have h1 := r.length
  have h2 : xs.length ≤ i := List.getElem?_eq_none_iff.mp e
  exact List.getElem?_eq_none_iff.mpr (by omega)

def RelO : Option V → Option Value → Prop
  | some v, some u => RelV v u
  | none, none => True
  | _, _ => False
def KV {κ : Type} : List (κ × V) → List (κ × Value) → Prop := Paired fun (p : κ × V) (q : κ × Value) => p.1 = q.1 ∧ RelV p.2 q.2

/-- a key of a dict (00_mix): an int or a text -/
def kV : Key → V
  | .inl i => .int i
  | .inr x => .str x

/-- what stands at a tracked address -/
inductive HO where
  /-- a list -/
  | lst (xs : List V)
  /-- a tuple (never changes) -/
  | tup (xs : List V)
  /-- a dict whose keys are ints and texts; one whose keys are tuples of ints and texts (the empty one is both) -/
  | dK (kvs : List (Key × V)) | dT (kvs : List (List Key × V))
  /-- a set of ints: its members, its size -/
  | set (S : Int → Bool) (n : Nat)
  /-- an instance of the class at C, its dict at dx, its attributes -/
  | ins (C dx : Addr) (fs : List (Str × V))
  /-- the dict of the instance at x -/
  | own (x : Addr)
  /-- the dict of an exception -/
  | xd (fs : List (Str × V))
  /-- a bound method, f of x -/
  | met (f x : Addr)
  /-- a range object lo, lo + 1, .. below hi -/
  | rng (lo hi : Int)
  /-- a thing that is known to the object (the script; a dict while a loop walks it): read, never written while it is so -/
  | frz (o : Obj) (u : HO)
  /-- a code object's table -/
  | tbl (ps : Array Value)
  /-- any other thing, by what is true of its one object (a def of one's own: SetO a S n := HO.ext fun h => ..) -/
  | ext (φ : Heap → Prop)

abbrev Hp := Addr → Option HO
def upd (H : Hp) (a : Addr) (o : HO) : Hp := fun b => if b = a then some o else H b
theorem upd_same {H : Hp} {a : Addr} {o : HO} : upd H a o a = some o := by unfold upd; rw [if_pos rfl]
theorem upd_ne {H : Hp} {a b : Addr} {o : HO} (h : b ≠ a) : upd H a o b = H b := by unfold upd; rw [if_neg h]
theorem upd_upd {H : Hp} {a : Addr} {o u : HO} : upd (upd H a o) a u = upd H a u := by
  funext b; unfold upd; split <;> rfl
/-- two objects of different content stand apart -/
theorem ne_of {H : Hp} {a b : Addr} {o u : HO} (h : H a = some o) (h' : H b = some u) (d : o ≠ u) : a ≠ b := by
  intro e; subst e; rw [h] at h'; exact d (Option.some.inj h')
theorem ne_of_none {H : Hp} {a b : Addr} {o : HO} (h : H a = some o) (h' : H b = none) : a ≠ b := by
  intro e; subst e; rw [h] at h'; cases h'

section
variable (P : Program) (w : World)
def ObjOk (H : Hp) (h : Heap) (a : Addr) : HO → Prop
  | .lst xs => xs.length ≤ sizeLine ∧ ∃ (its : List Value) (n : Nat), Vals xs its ∧ h.get? a = some { cls := .type "list", data := .seq its.toArray n }
  | .tup xs => xs.length ≤ sizeLine ∧ ∃ its : List Value, Vals xs its ∧ IsTup h a its.toArray
  | .dK kvs => kvs.length ≤ sizeLine ∧ (a == sysModules) = false ∧ ∃ vs, KV kvs vs ∧ h.DictOf (mixKind P w) a vs
  | .dT kvs => kvs.length ≤ sizeLine ∧ (a == sysModules) = false ∧ ∃ xs : List (List Key × Addr × Value),
      Paired (fun (p : List Key × V) (q : List Key × Addr × Value) => p.1 = q.1 ∧ H q.2.1 = some (.tup (p.1.map kV)) ∧ RelV p.2 q.2.2) kvs xs ∧
      ∃ o es ep, h.get? a = some o ∧ o.ExactDict ∧ o.data = .dict es ep ∧ es.toList = xs.map (entryOfKey (tupleKind (mixKind P w))) ∧ (xs.map (·.1)).Nodup
  | .set S n => h.SetOf (intKind P w) a S n
  | .ins C dx fs => H dx = some (.own a) ∧ fs.length ≤ 1000 ∧ dx ≠ a ∧ h.get? a = some (PySem.W.instObj C dx) ∧
      ∃ mA, h.Ns1 dx mA ∧ (∀ f, RelO (fs.lookup f) (mA f)) ∧ PySem.Within mA (fs.map (·.1))
  | .own _ => ∃ o, h.get? a = some o
  | .xd fs => ∃ mA, h.Ns1 a mA ∧ ∀ f, RelO (fs.lookup f) (mA f)
  | .rng lo hi => ∃ t u v, h.get? a = some { cls := .type "range", data := .fields #[.int lo t, .int hi u, .int 1 v] }
  | .frz o u => h.get? a = some o ∧ ObjOk H h a u
  | .tbl ps => h.get? a = some { cls := .none, data := .fields ps }
  | .met f x => h.get? a = some (PySem.W.methodObj (.ref f) (.ref x))
  | .ext φ => φ h ∧ (∃ o, h.get? a = some o) ∧ ∀ h1 h2 : Heap, φ h1 → (∀ o, h1.get? a = some o → h2.get? a = some o) → φ h2
/-- the abstract heap is held -/
def HOk (H : Hp) (h : Heap) : Prop := ∀ a o, H a = some o → ObjOk P w H h a o
end

section
variable {P : Program} {w : World} {H H' : Hp} {h h' : Heap} {a : Addr} {o : HO}
theorem ObjOk.lt (x : ObjOk P w H h a o) : a < h.objs.size := by
  cases o with
  | lst xs => obtain ⟨_, _, _, _, e⟩ := x; exact Heap.lt_size e
  | tup xs => obtain ⟨_, _, _, p⟩ := x; exact p.lt
  | dK kvs => obtain ⟨_, _, _, _, o, _, _, e, _⟩ := x; exact Heap.lt_size e
  | dT kvs => obtain ⟨_, _, _, _, o, _, _, e, _⟩ := x; exact Heap.lt_size e
  | set S n => obtain ⟨o, _, _, _, e, _⟩ := x; exact Heap.lt_size e
  | ins C dx fs => obtain ⟨_, _, _, e, _⟩ := x; exact Heap.lt_size e
  | own y => obtain ⟨_, e⟩ := x; exact Heap.lt_size e
  | xd fs => obtain ⟨_, ⟨_, _, _, e, _⟩, _⟩ := x; exact Heap.lt_size e
  | rng lo hi => obtain ⟨_, _, _, e⟩ := x; exact Heap.lt_size e
  | frz ob u => obtain ⟨e, _⟩ := x; exact Heap.lt_size e
  | tbl ps => exact Heap.lt_size (show h.get? a = some _ from x)
  | met f y => exact Heap.lt_size (show h.get? a = some _ from x)
  | ext φ => obtain ⟨_, ⟨_, e⟩, _⟩ := x; exact Heap.lt_size e
theorem Paired.mapP {α β : Type} {F G : α → β → Prop} : ∀ {l₁ : List α} {l₂ : List β}, Paired F l₁ l₂ → (∀ a b, F a b → G a b) → Paired G l₁ l₂
  | _, _, .nil, _ => .nil
  | _, _, .cons r t, f => .cons (f _ _ r) (Paired.mapP t f)
theorem Paired.imp' {α β : Type} {F G : α → β → Prop} (f : ∀ a b, F a b → G a b) {l₁ : List α} {l₂ : List β} (r : Paired F l₁ l₂) : Paired G l₁ l₂ := Paired.mapP r f
/-- what an object's description leans on: its own object, its own dict, the tuples -/
theorem ObjOk.stay (x : ObjOk P w H h a o) (k : ∀ b u, (b = a ∨ H b = some (.own a)) → h.get? b = some u → h'.get? b = some u)
    (ho : ∀ b, H b = some (.own a) → H' b = some (.own a)) (ht : ∀ b xs, H b = some (.tup xs) → H' b = some (.tup xs)) : ObjOk P w H' h' a o := by
  induction o with
  | lst xs => obtain ⟨z, its, n, r, e⟩ := x; exact ⟨z, its, n, r, k _ _ (.inl rfl) e⟩
  | tup xs => obtain ⟨z, its, r, ob, e, c⟩ := x; exact ⟨z, its, r, ob, k _ _ (.inl rfl) e, c⟩
  | dK kvs => obtain ⟨z, y, vs, r, ob, es, ep, e, c⟩ := x; exact ⟨z, y, vs, r, ob, es, ep, k _ _ (.inl rfl) e, c⟩
  | dT kvs =>
    obtain ⟨z, y, xs, r, ob, es, ep, e, c⟩ := x
    exact ⟨z, y, xs, Paired.mapP r fun p q z => ⟨z.1, ht _ _ z.2.1, z.2.2⟩, ob, es, ep, k _ _ (.inl rfl) e, c⟩
  | set S n => obtain ⟨ob, es, ep, t, e, c⟩ := x; exact ⟨ob, es, ep, t, k _ _ (.inl rfl) e, c⟩
  | ins C dx fs =>
    obtain ⟨d, z, ne, e, mA, ⟨od, es, ep, e2, c⟩, r⟩ := x
    exact ⟨ho _ d, z, ne, k _ _ (.inl rfl) e, mA, ⟨od, es, ep, k _ _ (.inr d) e2, c⟩, r⟩
  | own y => obtain ⟨ob, e⟩ := x; exact ⟨ob, k _ _ (.inl rfl) e⟩
  | xd fs => obtain ⟨mA, ⟨od, es, ep, e, c⟩, r⟩ := x; exact ⟨mA, ⟨od, es, ep, k _ _ (.inl rfl) e, c⟩, r⟩
  | rng lo hi => obtain ⟨t, u, v, e⟩ := x; exact ⟨t, u, v, k _ _ (.inl rfl) e⟩
  | frz ob u ih => obtain ⟨e, q⟩ := x; exact ⟨k _ _ (.inl rfl) e, ih q⟩
  | tbl ps =>
    have e : h.get? a = some { cls := .none, data := .fields ps } := x
    show h'.get? a = some { cls := .none, data := .fields ps }
    exact k a _ (.inl rfl) e
  | met f y =>
    have e : h.get? a = some (PySem.W.methodObj (.ref f) (.ref y)) := x
    show h'.get? a = some (PySem.W.methodObj (.ref f) (.ref y))
    exact k a _ (.inl rfl) e
  | ext φ => obtain ⟨p, ⟨o, e⟩, st⟩ := x; exact ⟨st _ _ p fun o q => k _ _ (.inl rfl) q, ⟨o, k _ _ (.inl rfl) e⟩, st⟩
theorem HOk.lt (x : HOk P w H h) (e : H a = some o) : a < h.objs.size := (x a o e).lt
theorem HOk.fresh (x : HOk P w H h) (e : h.objs.size ≤ a) : H a = none := by
  cases q : H a with
  | none => rfl
  | some u => exact absurd (Nat.lt_of_lt_of_le (x.lt q) e) (Nat.lt_irrefl _)
/-- every object of the heap is kept -/
theorem HOk.kept (x : HOk P w H h) (k : ∀ b u, h.get? b = some u → h'.get? b = some u) : HOk P w H h' := fun a o e =>
  (x a o e).stay (fun b u _ q => k b u q) (fun _ q => q) fun _ _ q => q
/-- a new object is laid and tracked -/
theorem HOk.laid (x : HOk P w H h) (k : ∀ b u, h.get? b = some u → h'.get? b = some u) (hp : h.objs.size ≤ a) (new : ObjOk P w (upd H a o) h' a o) : HOk P w (upd H a o) h' := fun b u e => by
  have hn := x.fresh hp
  by_cases hb : b = a
  · subst hb; rw [upd_same] at e; cases e; exact new
  · rw [upd_ne hb] at e
    exact (x b u e).stay (fun c v _ q => k c v q) (fun c q => by rw [upd_ne (ne_of_none q hn)]; exact q) fun c xs q => by rw [upd_ne (ne_of_none q hn)]; exact q
end

/-- what may be read as u: it is u, or a known u -/
def Rd (H : Hp) (a : Addr) (u : HO) : Prop := H a = some u ∨ ∃ o, H a = some (.frz o u)
theorem Rd.of {H : Hp} {a : Addr} {u : HO} (h : H a = some u) : Rd H a u := .inl h
theorem Rd.ok {P : Program} {w : World} {H : Hp} {h : Heap} {a : Addr} {u : HO} (r : Rd H a u) (x : HOk P w H h) : ObjOk P w H h a u := by
  rcases r with r | ⟨o, r⟩
  · exact x a u r
  · obtain ⟨_, q⟩ := x a _ r
    exact q
/-- what may be written -/
def Mut : Option HO → Prop
  | some (.lst _) => True
  | some (.dK _) => True
  | some (.dT _) => True
  | some (.set _ _) => True
  | some (.ins _ _ _) => True
  | some (.ext _) => True
  | _ => False
section
variable {P : Program} {w : World} {H : Hp} {h h' : Heap} {x e : Addr} {o' : HO}
/-- the object at e is changed: x itself, or the dict of the instance x -/
theorem HOk.write (ok : HOk P w H h) (mu : Mut (H x)) (he : e = x ∨ H e = some (.own x)) (k : ∀ b u, b ≠ e → h.get? b = some u → h'.get? b = some u) (heo : ∃ u, h'.get? e = some u)
    (new : ObjOk P w (upd H x o') h' x o') : HOk P w (upd H x o') h' := fun b u q => by
  have nown : ∀ c y, H c = some (.own y) → c ≠ x := fun c y r z => by subst z; rw [r] at mu; exact mu
  have ntup : ∀ c xs, H c = some (.tup xs) → c ≠ x := fun c xs r z => by subst z; rw [r] at mu; exact mu
  by_cases hb : b = x
  · subst hb; rw [upd_same] at q; cases q; exact new
  · rw [upd_ne hb] at q
    by_cases hbe : b = e
    · have q' : H b = some (.own x) := by
        rcases he with z | z
        · exact absurd (hbe.trans z) hb
        · rw [hbe]; exact z
      rw [q] at q'; cases q'
      obtain ⟨v, hv⟩ := heo
      exact ⟨v, by rw [hbe]; exact hv⟩
    · refine (ok b u q).stay (fun c v hc r => k c v ?_ r) (fun c r => by rw [upd_ne (nown c b r)]; exact r) fun c xs r => by rw [upd_ne (ntup c xs r)]; exact r
      rcases hc with rfl | hc
      · exact hbe
      · rintro rfl
        rcases he with z | z
        · exact nown c b hc z
        · rw [hc] at z; cases z; exact hb rfl
end

/-! ### kept unless tracked; of the frames at fs (the callers') the slots may change (an exception that passes writes there); of the records at ex (iterators) nothing is said -/
structure Un (fs ex : List Addr) (H H' : Hp) (h h' : Heap) : Prop where
  keep : ∀ b o, h.get? b = some o → H b = none → b ∉ fs → b ∉ ex → h'.get? b = some o
  slot : ∀ b o, h.get? b = some o → H b = none → b ∈ fs → b ∉ ex → ∃ sl, h'.get? b = some { o with slots := sl }
  free : ∀ b o, h.get? b = some o → H b = none → b ∉ ex → H' b = none
  there : ∀ b o, h.get? b = some o → b ∉ ex → ∃ o', h'.get? b = some o'
  tups : ∀ b xs, H b = some (.tup xs) → H' b = some (.tup xs)
  frzs : ∀ b o u, H b = some (.frz o u) → H' b = some (.frz o u)
  tbls : ∀ b ps, H b = some (.tbl ps) → ∃ more, H' b = some (.tbl (ps ++ more))
section
variable {fs fs' ex ex' : List Addr} {H H1 H2 : Hp} {h h1 h2 h' : Heap} {a x e : Addr} {o : HO}
theorem Un.any (u : Un fs ex H H1 h h1) {b : Addr} {ob : Obj} (q : h.get? b = some ob) (n : H b = none) (hx : b ∉ ex) : ∃ sl, h1.get? b = some { ob with slots := sl } := by
  by_cases hb : b ∈ fs
  · exact u.slot b ob q n hb hx
  · exact ⟨ob.slots, u.keep b ob q n hb hx⟩
theorem Un.trans (a : Un fs ex H H1 h h1) (b : Un fs ex H1 H2 h1 h2) : Un fs ex H H2 h h2 where
  keep := fun c ob q n hc hx => b.keep c ob (a.keep c ob q n hc hx) (a.free c ob q n hx) hc hx
  slot := fun c ob q n hc hx => by
    obtain ⟨sl, e1⟩ := a.slot c ob q n hc hx
    obtain ⟨sl', e2⟩ := b.slot c _ e1 (a.free c ob q n hx) hc hx
    exact ⟨sl', e2⟩
  free := fun c ob q n hx => by
    obtain ⟨o', e1⟩ := a.there c ob q hx
    exact b.free c o' e1 (a.free c ob q n hx) hx
  there := fun c ob q hx => by
    obtain ⟨o', e1⟩ := a.there c ob q hx
    exact b.there c o' e1 hx
  tups := fun c xs q => b.tups c xs (a.tups c xs q)
  frzs := fun c ob xs q => b.frzs c ob xs (a.frzs c ob xs q)
  tbls := fun c ps q => by
    obtain ⟨m1, e1⟩ := a.tbls c ps q
    obtain ⟨m2, e2⟩ := b.tbls c _ e1
    exact ⟨m1 ++ m2, by rw [e2, Array.append_assoc]⟩
theorem Un.kept (k : ∀ b u, h.get? b = some u → h'.get? b = some u) : Un fs ex H H h h' :=
  ⟨fun b ob q _ _ _ => k b ob q, fun b ob q _ _ _ => ⟨ob.slots, k b ob q⟩, fun _ _ _ n _ => n, fun b ob q _ => ⟨ob, k b ob q⟩, fun _ _ q => q, fun _ _ _ q => q, fun _ ps q => ⟨#[], by rw [q]; simp⟩⟩
theorem Un.refl : Un fs ex H H h h := Un.kept fun _ _ q => q
theorem Un.laid (k : ∀ b u, h.get? b = some u → h'.get? b = some u) (hp : h.objs.size ≤ a) (hn : H a = none) : Un fs ex H (upd H a o) h h' where
  keep := fun b u q _ _ _ => k b u q
  slot := fun b u q _ _ _ => ⟨u.slots, k b u q⟩
  free := fun b u q n _ => by rw [upd_ne (Nat.ne_of_lt (Nat.lt_of_lt_of_le (Heap.lt_size q) hp))]; exact n
  there := fun b u q _ => ⟨u, k b u q⟩
  tups := fun b xs q => by rw [upd_ne (ne_of_none q hn)]; exact q
  frzs := fun b u xs q => by rw [upd_ne (ne_of_none q hn)]; exact q
  tbls := fun b ps q => ⟨#[], by rw [upd_ne (ne_of_none q hn), q]; simp⟩
theorem Un.write (mu : Mut (H x)) (he : e = x ∨ H e = some (.own x)) (k : ∀ b u, b ≠ e → h.get? b = some u → h'.get? b = some u) (heo : ∃ u, h'.get? e = some u) : Un fs ex H (upd H x o) h h' := by
  have hx : ∀ b, H b = none → b ≠ x := fun b n z => by subst z; rw [n] at mu; exact mu
  have hb : ∀ b, H b = none → b ≠ e := fun b n z => by
    subst z
    rcases he with r | r
    · exact hx b n r
    · rw [n] at r; cases r
  have hm : ∀ b u, H b = some u → ¬ Mut (some u) → b ≠ x := fun b u q nm z => by subst z; rw [q] at mu; exact nm mu
  refine ⟨fun b u q n _ _ => k b u (hb b n) q, fun b u q n _ _ => ⟨u.slots, k b u (hb b n) q⟩, fun b u q n _ => by rw [upd_ne (hx b n)]; exact n, fun b u q _ => ?_,
    fun b xs q => by rw [upd_ne (hm b _ q fun z => z)]; exact q, fun b u xs q => by rw [upd_ne (hm b _ q fun z => z)]; exact q, fun b ps q => ⟨#[], by rw [upd_ne (hm b _ q fun z => z), q]; simp⟩⟩
  by_cases hbe : b = e
  · subst hbe; exact heo
  · exact ⟨u, k b u hbe q⟩
theorem Un.mono (u : Un fs ex H H1 h h1) (hs : ∀ b ∈ fs, b ∈ fs') (hx : ∀ b ∈ ex, b ∈ ex') : Un fs' ex' H H1 h h1 :=
  ⟨fun b ob q n hb he => u.keep b ob q n (fun z => hb (hs b z)) fun z => he (hx b z), fun _ _ q n _ he => u.any q n fun z => he (hx _ z), fun b ob q n he => u.free b ob q n fun z => he (hx b z), fun b ob q he => u.there b ob q fun z => he (hx b z), u.tups, u.frzs, u.tbls⟩
end

/-! ### the heap without what is tracked -/
def trk (h : Heap) (H : Hp) : List Addr := (List.range h.objs.size).filter fun a => (H a).isSome
def hidT (h : Heap) (H : Hp) : Heap := PySem.W.hideAll h (trk h H)
theorem hidT_size (h : Heap) (H : Hp) : (hidT h H).objs.size = h.objs.size := PySem.W.hideAll_size _ _
theorem hidT_get {h : Heap} {H : Hp} {b : Addr} {o : Obj} (e : h.get? b = some o) (n : H b = none) : (hidT h H).get? b = some o :=
  PySem.W.hideAll_get _ e fun hm => by
    have q : (H b).isSome = true := (List.mem_filter.mp hm).2
    rw [n] at q; simp at q
theorem of_hidT {h : Heap} {H : Hp} {b : Addr} {o : Obj} (e : (hidT h H).get? b = some o) : h.get? b = some o ∧ H b = none := by
  have e' : h.get? b = some o := PySem.W.of_hideAll (trk h H) e
  refine ⟨e', ?_⟩
  cases q : H b with
  | none => rfl
  | some x =>
    have hm : b ∈ trk h H := List.mem_filter.mpr ⟨List.mem_range.mpr (Heap.lt_size e'), by simp [q]⟩
    have z : (hidT h H).get? b = none := PySem.W.hideAll_none (trk h H) hm
    rw [z] at e; cases e

/-! ### OpenK's ledger, filled with every new object but one -/
def allNews (g h : Heap) (L : Addr) : List (Addr × Obj) := (List.range h.objs.size).filterMap fun a => if a = L ∨ (g.get? a).isSome = true then none else (h.get? a).map fun o => (a, o)
theorem mem_allNews {g h : Heap} {L a : Addr} {o : Obj} (h1 : a ≠ L) (h2 : g.get? a = none) (h3 : h.get? a = some o) : (a, o) ∈ allNews g h L :=
  List.mem_filterMap.mpr ⟨a, List.mem_range.mpr (Heap.lt_size h3), by simp [h1, h2, h3]⟩
theorem of_mem_allNews {g h : Heap} {L : Addr} {p : Addr × Obj} (hp : p ∈ allNews g h L) : p.1 ≠ L ∧ g.get? p.1 = none ∧ h.get? p.1 = some p.2 := by
  obtain ⟨b, _, e⟩ := List.mem_filterMap.mp hp
  split at e
  · cases e
  · rename_i hn
    cases q : h.get? b with
    | none => rw [q] at e; simp at e
    | some u =>
      rw [q] at e
      simp only [Option.map_some, Option.some.injEq] at e
      subst e
      refine ⟨fun z => hn (.inl z), ?_, q⟩
      show g.get? b = none
      cases r : g.get? b with
      | none => rfl
      | some v => exact (hn (.inr (by simp [r]))).elim
def rest (g h : Heap) (L d : Addr) : List (Addr × Obj) := (allNews g h L).filter fun p => decide (p.1 ≠ d)
theorem rest_ne {g h : Heap} {L d : Addr} : ∀ p ∈ rest g h L d, p.1 ≠ d := fun p hp => of_decide_eq_true (List.mem_filter.mp hp).2
theorem mem_rest {g h : Heap} {L d a : Addr} {o : Obj} (h1 : a ≠ L) (h2 : g.get? a = none) (h3 : h.get? a = some o) (h4 : a ≠ d) : (a, o) ∈ rest g h L d :=
  List.mem_filter.mpr ⟨mem_allNews h1 h2 h3, decide_eq_true h4⟩
theorem news_all {g h : Heap} {L : Addr} : News g L h (allNews g h L) := fun p hp => let ⟨a, b, c⟩ := of_mem_allNews hp; ⟨c, a, b⟩
theorem news_at {g h : Heap} {L d : Addr} {o : Obj} (h1 : d ≠ L) (h2 : g.get? d = none) (h3 : h.get? d = some o) : News g L h ((d, o) :: rest g h L d) := fun p hp => by
  rcases List.mem_cons.mp hp with rfl | hp
  · exact ⟨h3, h1, h2⟩
  · exact news_all p (List.mem_filter.mp hp).1
/-- behind a rule that changed d alone: all else but the frame is kept -/
theorem kept_of_news {g h h' : Heap} {L d : Addr} {m : Str → Option Value} (k : ∀ b o, g.get? b = some o → h.get? b = some o) (F : Fr g L h' m) (N : News g L h' (rest g h L d)) :
    ∀ b o, b ≠ L → b ≠ d → h.get? b = some o → h'.get? b = some o := fun b o h1 h2 e => by
  cases q : g.get? b with
  | some u =>
    have := k b u q
    rw [e] at this; cases this
    exact F.keep b _ q
  | none => exact (N (b, o) (mem_rest h1 q e h2)).1
end L2

namespace L2
open PySem PySem.Spec PyProof.Rows

/-- the module's facts, over the base: the heap at the law's entry without what is tracked there -/
structure Mod (K : PySem.W.Frag) (mg : Str → Option Value) (base : Heap) : Prop where
  kin : K.In base
  glob : base.Ns mainGlobals mg
  blt : ∃ mb, base.Ns builtinsNs mb ∧ ∀ x : Str, x ≠ "__name__" → mb x = bootBuiltins x
  nolimit : base.NoLimit

/-- the context: a def's body (or a comprehension's block) running. base: fixed through the whole law; s₀, H₀: the entry; outer: the frames whose slots others may change (a def's callers); stack: all frames that run;
   ex: iterators that were made ahead of the entry and are walked here (a comprehension's); fn: the names whose cells were made at the entry (a def: all; a comprehension's block: its own); calm: not within an except suite; pn: pins that every state bears; xe: what is wanted of an exception that leaves the code -/
structure Cx where
  prog : Program
  w : World
  K : PySem.W.Frag
  mg : Str → Option Value
  base : Heap
  A : Around
  N : List Str
  s₀ : Shared
  H₀ : Hp
  env : Env
  outer : List Env
  stack : List Env
  ex : List Addr
  fn : Str → Bool
  calm : Bool
  pn : List (Addr × Obj)
  xe : Value → Shared → Prop
/-- the callers' frames -/
def frs (l : List Env) : List Addr := l.filterMap (·.frame)
abbrev Cx.fs (X : Cx) : List Addr := frs X.outer

def Vis (sc : Scope) (x : Str) : Prop := sc.names.lookup x = some .local ∨ sc.names.lookup x = some .cell ∨ sc.names.lookup x = some .free
def Loc (sc : Scope) (x : Str) : Prop := sc.names.lookup x = some .local ∨ sc.names.lookup x = some .cell
def Look (env : Env) (h : Heap) (m : Str → Option Value) (x : Str) (u : Value) : Prop :=
  (env.kindOf x = some .local ∧ m x = some u) ∨ ((env.kindOf x = some .cell ∨ env.kindOf x = some .free) ∧ ∃ c, env.cells.lookup x = some c ∧ h.IsCell c (some u))

structure Cx.Ok (X : Cx) : Prop where
  mod : Mod X.K X.mg X.base
  kind : X.env.scope.kind = .function
  glob : X.env.globals = mainGlobals
  blt : X.env.builtins = builtinsNs
  above : X.s₀.heap.objs.size ≤ X.env.locals
  inj : ∀ x y c, X.env.cells.lookup x = some c → X.env.cells.lookup y = some c → x = y
  has : ∀ x, (X.env.kindOf x = some .cell ∨ X.env.kindOf x = some .free) → ∃ c, X.env.cells.lookup x = some c
  cab : ∀ x c, X.fn x = true → X.env.cells.lookup x = some c → X.s₀.heap.objs.size ≤ c
  hd : X.calm = true → X.A.handled = none
  frames : X.A.frames = some X.stack
  stk : X.stack = X.outer ∨ (X.stack = X.env :: X.outer ∧ X.env.frame = some X.env.locals)
  exf : ∀ b ∈ X.ex, b ≠ X.env.locals ∧ ∀ x c, X.env.cells.lookup x = some c → c ≠ b
  bs : ∀ b o, X.base.get? b = some o → X.s₀.heap.get? b = some o ∧ X.H₀ b = none
  bsz : X.base.objs.size ≤ X.s₀.heap.objs.size
  noex : ∀ b o, X.base.get? b = some o → b ∉ X.ex
  exfs : ∀ b ∈ X.ex, b ∉ X.fs
  funs : X.s₀.heap.FunFrames X.base X.outer
  frf : ∀ b ∈ X.fs, X.H₀ b = none

structure Inv (X : Cx) (pins : List (Addr × Obj)) (σ : List (Option V)) (H : Hp) (s : Shared) : Prop where
  ok : X.Ok
  os : s.os = X.s₀.os
  bare : AllBare s.gens
  base : Un X.fs X.ex X.H₀ H X.s₀.heap s.heap
  loc : ∃ m, s.heap.Ns X.env.locals m ∧ ∀ (i : Nat) (x : Str) (v : V), X.N[i]? = some x → σ[i]? = some (some v) → Vis X.env.scope x → ∃ u, RelV v u ∧ Look X.env s.heap m x u
  cell : ∀ x c, X.env.cells.lookup x = some c → ∃ v, s.heap.IsCell c v
  free : H X.env.locals = none
  freeC : ∀ x c, X.env.cells.lookup x = some c → H c = none
  pin : ∀ p ∈ X.pn ++ pins, s.heap.get? p.1 = some p.2 ∧ H p.1 = none ∧ p.1 ≠ X.env.locals ∧ p.1 ∉ X.fs ∧ ∀ v, p.2.data ≠ .cell v
  hok : HOk X.prog X.w H s.heap
  len : σ.length = X.N.length

section
variable {X : Cx} {pins : List (Addr × Obj)} {σ : List (Option V)} {H H' : Hp} {s : Shared} {h' : Heap}

theorem Cx.Ok.nofr (ok : X.Ok) {b : Addr} {o : Obj} (e : X.base.get? b = some o) : b ∉ X.fs := fun hb => by
  have := (ok.funs.mem hb).1
  rw [e] at this; cases this
theorem Inv.bs (I : Inv X pins σ H s) : ∀ b o, X.base.get? b = some o → s.heap.get? b = some o ∧ H b = none := fun b o e =>
  ⟨I.base.keep b o (I.ok.bs b o e).1 (I.ok.bs b o e).2 (I.ok.nofr e) (I.ok.noex b o e), I.base.free b o (I.ok.bs b o e).1 (I.ok.bs b o e).2 (I.ok.noex b o e)⟩
theorem Inv.bk (I : Inv X pins σ H s) : ∀ b o, X.base.get? b = some o → s.heap.get? b = some o := fun b o e => (I.bs b o e).1
theorem Inv.mod (I : Inv X pins σ H s) : Mod X.K X.mg X.base := I.ok.mod
theorem Inv.kIn (I : Inv X pins σ H s) : X.K.In s.heap := I.ok.mod.kin.keeps I.bk
theorem Inv.nolimit (I : Inv X pins σ H s) : s.heap.NoLimit := I.ok.mod.nolimit.keeps I.bk
/-- the frame over the base: for OpenK's rules (K.In X.base is I.mod.kin) -/
theorem Inv.fr (I : Inv X pins σ H s) : ∃ m, Fr X.base X.env.locals s.heap m :=
  let ⟨m, hn, _⟩ := I.loc
  ⟨m, hn, I.bk, Nat.le_trans I.ok.bsz I.ok.above⟩
theorem Inv.lt (I : Inv X pins σ H s) : X.env.locals < s.heap.objs.size := let ⟨_, hn, _⟩ := I.loc; hn.lt
theorem Inv.sz (I : Inv X pins σ H s) : X.s₀.heap.objs.size ≤ s.heap.objs.size := Nat.le_trans I.ok.above (Nat.le_of_lt I.lt)
theorem Inv.nofs (I : Inv X pins σ H s) {a : Addr} (h : s.heap.objs.size ≤ a) : a ∉ X.fs := fun hb => by
  obtain ⟨_, o, ho, _⟩ := I.ok.funs.mem hb
  exact absurd (Nat.lt_of_lt_of_le (Heap.lt_size ho) (Nat.le_trans I.sz h)) (Nat.lt_irrefl _)
theorem Inv.cne (I : Inv X pins σ H s) : ∀ x c, X.env.cells.lookup x = some c → c ≠ X.env.locals := fun x c e z => by
  obtain ⟨v, o, ho, hd⟩ := I.cell x c e
  obtain ⟨m, ⟨o', es, ep, ho', hd', _⟩, _⟩ := I.loc
  rw [z, ho'] at ho; cases ho; rw [hd'] at hd; cases hd
theorem Inv.funs (I : Inv X pins σ H s) : s.heap.FunFrames X.base X.outer := by
  have all : ∀ (l : List Env), (∀ b ∈ frs l, b ∈ X.fs) → X.s₀.heap.FunFrames X.base l → s.heap.FunFrames X.base l := by
    intro l
    induction l with
    | nil => intro _ _; trivial
    | cons env r ih =>
      intro hs hl
      obtain ⟨hk, ⟨L, o, hf, hn, ho, hd⟩, hr⟩ := hl
      have hL : L ∈ X.fs := hs L (by unfold frs; rw [List.filterMap_cons, hf]; exact List.mem_cons_self)
      obtain ⟨sl, e⟩ := I.base.slot L o ho (I.ok.frf L hL) hL fun z => I.ok.exfs L z hL
      exact ⟨hk, ⟨L, _, hf, hn, e, hd⟩, ih (fun b hb => hs b (by unfold frs; rw [List.filterMap_cons, hf]; exact List.mem_cons_of_mem _ hb)) hr⟩
  exact all X.outer (fun _ hb => hb) I.ok.funs

/-- the frames that run, for a call -/
theorem Inv.stack (I : Inv X pins σ H s) : s.heap.FunFrames X.base X.stack := by
  rcases I.ok.stk with e | ⟨e, hf⟩
  · rw [e]; exact I.funs
  · rw [e]
    obtain ⟨m, hn, _⟩ := I.loc
    refine .cons (by rw [I.ok.kind]; decide) hf hn ?_ I.funs
    exact Heap.get?_none_of_le (Nat.le_trans I.ok.bsz I.ok.above)
theorem Inv.stkSub (I : Inv X pins σ H s) : ∀ b ∈ frs X.stack, b ∈ X.env.locals :: X.fs := fun b hb => by
  rcases I.ok.stk with e | ⟨e, hf⟩
  · rw [e] at hb; exact List.mem_cons_of_mem _ hb
  · rw [e] at hb
    unfold frs at hb
    rw [List.filterMap_cons, hf] at hb
    exact hb
theorem Inv.stkFree (I : Inv X pins σ H s) : ∀ b ∈ frs X.stack, H b = none := fun b hb => by
  rcases List.mem_cons.mp (I.stkSub b hb) with e | hb
  · rw [e]; exact I.free
  · obtain ⟨_, o, ho, _⟩ := I.ok.funs.mem hb
    exact I.base.free b o ho (I.ok.frf b hb) fun z => I.ok.exfs b z hb

/-- THE STEP: the untracked objects but the frame and the records at ch are kept (the callers' frames up to slots), the frame's map is kept, the new abstract heap is held -/
theorem Inv.step {g' : Array GenState} {t' : Nat} {d' : Drawn} {ch : List Addr} (I : Inv X pins σ H s)
    (hch : ∀ b ∈ ch, (b ∈ X.ex ∨ X.s₀.heap.objs.size ≤ b) ∧ b ≠ X.env.locals ∧ (∀ x c, X.env.cells.lookup x = some c → c ≠ b) ∧ ∀ p ∈ X.pn ++ pins, p.1 ≠ b)
    (keep : ∀ b o, b ≠ X.env.locals → b ∉ X.fs → b ∉ ch → s.heap.get? b = some o → H b = none → h'.get? b = some o)
    (slot : ∀ b o, b ≠ X.env.locals → b ∈ X.fs → b ∉ ch → s.heap.get? b = some o → H b = none → ∃ sl, h'.get? b = some { o with slots := sl }) (free : ∀ b o, b ∉ ch → s.heap.get? b = some o → H b = none → H' b = none)
    (there : ∀ b o, b ∉ ch → s.heap.get? b = some o → ∃ o', h'.get? b = some o')
    (tups : ∀ b xs, H b = some (.tup xs) → H' b = some (.tup xs)) (frzs : ∀ b o u, H b = some (.frz o u) → H' b = some (.frz o u)) (tbls : ∀ b ps, H b = some (.tbl ps) → ∃ more, H' b = some (.tbl (ps ++ more)))
    (ns : ∀ m, s.heap.Ns X.env.locals m → h'.Ns X.env.locals m) (hok : HOk X.prog X.w H' h') (hg : AllBare g') :
    Inv X pins σ H' { s with heap := h', gens := g', drawn := d', toks := t' } := by
  have neL : ∀ b o, X.s₀.heap.get? b = some o → b ≠ X.env.locals := fun b o e => Nat.ne_of_lt (Nat.lt_of_lt_of_le (Heap.lt_size e) I.ok.above)
  have neC : ∀ b o, X.s₀.heap.get? b = some o → b ∉ X.ex → b ∉ ch := fun b o e hx hb => by
    rcases (hch b hb).1 with z | z
    · exact hx z
    · exact absurd (Nat.lt_of_lt_of_le (Heap.lt_size e) z) (Nat.lt_irrefl _)
  have cellK : ∀ x c, X.env.cells.lookup x = some c → ∀ v, s.heap.IsCell c v → h'.IsCell c v := fun x c e v ⟨o, ho, hd⟩ => by
    have nch : c ∉ ch := fun z => (hch c z).2.2.1 x c e rfl
    by_cases hc : c ∈ X.fs
    · obtain ⟨sl, q⟩ := slot c o (I.cne x c e) hc nch ho (I.freeC x c e)
      exact ⟨_, q, hd⟩
    · exact ⟨o, keep c o (I.cne x c e) hc nch ho (I.freeC x c e), hd⟩
  refine ⟨I.ok, I.os, hg, ⟨fun b o e n hb hx => ?_, fun b o e n hb hx => ?_, fun b o e n hx => ?_, fun b o e hx => ?_, fun b xs e => tups b xs (I.base.tups b xs e), fun b o xs e => frzs b o xs (I.base.frzs b o xs e), fun b ps e => ?_⟩, ?_, fun x c e => ?_, ?_, fun x c e => ?_, fun p hp => ?_, hok, I.len⟩
  · exact keep b o (neL b o e) hb (neC b o e hx) (I.base.keep b o e n hb hx) (I.base.free b o e n hx)
  · obtain ⟨sl, e1⟩ := I.base.slot b o e n hb hx
    obtain ⟨sl', e2⟩ := slot b _ (neL b o e) hb (neC b o e hx) e1 (I.base.free b o e n hx)
    exact ⟨sl', e2⟩
  · obtain ⟨o', e1⟩ := I.base.there b o e hx
    exact free b o' (neC b o e hx) e1 (I.base.free b o e n hx)
  · obtain ⟨o', e1⟩ := I.base.there b o e hx
    exact there b o' (neC b o e hx) e1
  · obtain ⟨m1, e1⟩ := I.base.tbls b ps e
    obtain ⟨m2, e2⟩ := tbls b _ e1
    exact ⟨m1 ++ m2, by rw [e2, Array.append_assoc]⟩
  · obtain ⟨m, hn, hl⟩ := I.loc
    refine ⟨m, ns m hn, fun i x v e1 e2 e3 => ?_⟩
    obtain ⟨u, r, l⟩ := hl i x v e1 e2 e3
    refine ⟨u, r, ?_⟩
    rcases l with l | ⟨k, c, e, z⟩
    · exact .inl l
    · exact .inr ⟨k, c, e, cellK x c e _ z⟩
  · obtain ⟨v, z⟩ := I.cell x c e
    exact ⟨v, cellK x c e v z⟩
  · obtain ⟨m, ⟨o, _, _, ho, _⟩, _⟩ := I.loc
    exact free _ o (fun z => (hch _ z).2.1 rfl) ho I.free
  · obtain ⟨v, o, ho, hd⟩ := I.cell x c e
    exact free c o (fun z => (hch c z).2.2.1 x c e rfl) ho (I.freeC x c e)
  · obtain ⟨e, n, ne, nf, d⟩ := I.pin p hp
    have nch : p.1 ∉ ch := fun z => (hch p.1 z).2.2.2 p hp rfl
    exact ⟨keep p.1 p.2 ne nf nch e n, free p.1 p.2 nch e n, ne, nf, d⟩
/-- .. where the frame's own object is kept too -/
theorem Inv.un {t' : Nat} (I : Inv X pins σ H s) (u : Un X.fs [] H H' s.heap h') (hok : HOk X.prog X.w H' h') : Inv X pins σ H' { s with heap := h', toks := t' } := by
  obtain ⟨m, ⟨o, es, ep, ho, r⟩, _⟩ := id I.loc
  obtain ⟨sl, hL⟩ := u.any ho I.free (by simp)
  exact I.step (g' := s.gens) (d' := s.drawn) (ch := []) (fun _ z => nomatch z) (fun b o _ hb _ e n => u.keep b o e n hb (by simp)) (fun b o _ hb _ e n => u.slot b o e n hb (by simp)) (fun b o _ e n => u.free b o e n (by simp)) (fun b o _ e => u.there b o e (by simp)) u.tups u.frzs u.tbls (fun m' hm => by
    obtain ⟨o', es', ep', ho', r'⟩ := hm
    rw [ho] at ho'; cases ho'
    exact ⟨_, es', ep', hL, r'⟩) hok I.bare
/-- behind a call (or a comprehension's block): the slots of this frame may have changed too, the records at ch may have turned -/
theorem Inv.call {g' : Array GenState} {t' : Nat} {d' : Drawn} {ch : List Addr} (I : Inv X pins σ H s) (u : Un (frs X.stack) ch H H' s.heap h') (hok : HOk X.prog X.w H' h') (hg : AllBare g')
    (hch : ∀ b ∈ ch, (b ∈ X.ex ∨ X.s₀.heap.objs.size ≤ b) ∧ b ≠ X.env.locals ∧ (∀ x c, X.env.cells.lookup x = some c → c ≠ b) ∧ ∀ p ∈ X.pn ++ pins, p.1 ≠ b) :
    Inv X pins σ H' { s with heap := h', gens := g', drawn := d', toks := t' } := by
  obtain ⟨m, ⟨o, es, ep, ho, r⟩, _⟩ := id I.loc
  obtain ⟨sl, hL⟩ := u.any ho I.free fun z => (hch _ z).2.1 rfl
  exact I.step (ch := ch) hch (fun b o hL hb hc e n => u.keep b o e n (fun z => (List.mem_cons.mp (I.stkSub b z)).elim hL hb) hc) (fun b o _ _ hc e n => u.any e n hc) (fun b o hc e n => u.free b o e n hc) (fun b o hc e => u.there b o e hc) u.tups u.frzs u.tbls (fun m' hm => by
    obtain ⟨o', es', ep', ho', r'⟩ := hm
    rw [ho] at ho'; cases ho'
    exact ⟨_, es', ep', hL, r'⟩) hok hg
/-- an untracked record of ours (an iterator) has turned -/
theorem Inv.turned {t' : Nat} {it : Addr} (I : Inv X pins σ H s) (k : ∀ b o, b ≠ it → s.heap.get? b = some o → h'.get? b = some o) (hn : H it = none) (hL : it ≠ X.env.locals)
    (h1 : it ∈ X.ex ∨ X.s₀.heap.objs.size ≤ it) (h2 : ∀ x c, X.env.cells.lookup x = some c → c ≠ it) (h3 : ∀ p ∈ X.pn ++ pins, p.1 ≠ it) : Inv X pins σ H { s with heap := h', toks := t' } := by
  have nit : ∀ b u, H b = some u → b ≠ it := fun b u e z => by rw [z, hn] at e; cases e
  refine I.step (g' := s.gens) (d' := s.drawn) (ch := [it]) (fun b hb => ?_) (fun b o _ _ hc e _ => k b o (fun z => hc (by simp [z])) e) (fun b o _ _ hc e _ => ⟨o.slots, k b o (fun z => hc (by simp [z])) e⟩) (fun _ _ _ _ n => n)
    (fun b o hc e => ⟨o, k b o (fun z => hc (by simp [z])) e⟩) (fun _ _ e => e) (fun _ _ _ e => e) (fun b ps e => ⟨#[], by rw [e]; simp⟩) (fun m hm => ?_) (fun b u e => ?_) I.bare
  · have e : b = it := by simpa using hb
    subst e
    exact ⟨h1, hL, h2, h3⟩
  · obtain ⟨o, es, ep, ho, r⟩ := hm
    exact ⟨o, es, ep, k _ o (Ne.symm hL) ho, r⟩
  · refine (I.hok b u e).stay (fun c v hc q => k c v ?_ q) (fun _ q => q) fun _ _ q => q
    rcases hc with z | z
    · rw [z]; exact nit b u e
    · exact nit c _ z
theorem Inv.tok (I : Inv X pins σ H s) (t : Nat) : Inv X pins σ H { s with toks := t } := I.un (h' := s.heap) (t' := t) Un.refl I.hok
/-- all objects kept -/
theorem Inv.kept {t' : Nat} (I : Inv X pins σ H s) (k : ∀ b u, s.heap.get? b = some u → h'.get? b = some u) : Inv X pins σ H { s with heap := h', toks := t' } := I.un (Un.kept k) (I.hok.kept k)
/-- a new object laid and tracked -/
theorem Inv.laid {a : Addr} {o : HO} {t' : Nat} (I : Inv X pins σ H s) (k : ∀ b u, s.heap.get? b = some u → h'.get? b = some u) (hp : s.heap.objs.size ≤ a) (new : ObjOk X.prog X.w (upd H a o) h' a o) :
    Inv X pins σ (upd H a o) { s with heap := h', toks := t' } := I.un (Un.laid k hp (I.hok.fresh hp)) (I.hok.laid k hp new)
/-- an object written -/
theorem Inv.write {x e : Addr} {o : HO} {t' : Nat} (I : Inv X pins σ H s) (mu : Mut (H x)) (he : e = x ∨ H e = some (.own x)) (k : ∀ b u, b ≠ e → s.heap.get? b = some u → h'.get? b = some u) (heo : ∃ u, h'.get? e = some u)
    (new : ObjOk X.prog X.w (upd H x o) h' x o) : Inv X pins σ (upd H x o) { s with heap := h', toks := t' } := I.un (Un.write mu he k heo) (I.hok.write mu he k heo new)
/-- forgetting slots, pins -/
theorem Inv.weak {σ' : List (Option V)} (I : Inv X pins σ H s) (hl : σ'.length = σ.length) (w : ∀ (i : Nat) v, σ'[i]? = some (some v) → σ[i]? = some (some v)) : Inv X pins σ' H s :=
  ⟨I.ok, I.os, I.bare, I.base, let ⟨m, hn, hl'⟩ := I.loc; ⟨m, hn, fun i x v e1 e2 e3 => hl' i x v e1 (w i v e2) e3⟩, I.cell, I.free, I.freeC, I.pin, I.hok, hl.trans I.len⟩
theorem Inv.pins_of {pins' : List (Addr × Obj)} (I : Inv X pins σ H s) (h : ∀ p ∈ pins', s.heap.get? p.1 = some p.2 ∧ H p.1 = none ∧ p.1 ≠ X.env.locals ∧ p.1 ∉ X.fs ∧ ∀ v, p.2.data ≠ .cell v) : Inv X pins' σ H s :=
  ⟨I.ok, I.os, I.bare, I.base, I.loc, I.cell, I.free, I.freeC, fun p hp => (List.mem_append.mp hp).elim (fun z => I.pin p (List.mem_append_left _ z)) (h p), I.hok, I.len⟩

theorem nodup_ix {N : List Str} (hN : N.Nodup) {i j : Nat} {x : Str} (a : N[i]? = some x) (b : N[j]? = some x) : i = j := by
  obtain ⟨h1, e1⟩ := List.getElem?_eq_some_iff.mp a
  obtain ⟨h2, e2⟩ := List.getElem?_eq_some_iff.mp b
  exact (List.getElem_inj hN).mp (e1.trans e2.symm)

/-- a name is stored; what changed -/
theorem store_ok2 {M : Model} {A : Around} {E : Value → Shared → Prop} {i : Nat} {x : Str} {v : V} {u : Value} {Q : Unit → Shared → Prop} (I : Inv X pins σ H s) (hN : X.N.Nodup) (hi : X.N[i]? = some x) (hx : Loc X.env.scope x) (r : RelV v u)
    (h : ∀ s', Inv X pins (σ.set i (some v)) H s' → (∃ a, Heap.SameBut a s.heap s'.heap ∧ (a = X.env.locals ∨ X.env.cells.lookup x = some a)) → Q () s') (hf : X.fn x = true ∨ X.env.scope.names.lookup x = some .local := by first | exact .inl rfl | exact .inr rfl | assumption) : wpAny M A (storeName X.env x u) Q E s := by
  obtain ⟨m, hn, hl⟩ := id I.loc
  have hcls : (X.env.scope.kind == .class || (X.env.scope.kind == .module && X.env.locals != X.env.globals)) = false := by rw [I.ok.kind]; rfl
  have hiσ : i < σ.length := by rw [I.len]; exact (List.getElem?_eq_some_iff.mp hi).1
  have cne := I.cne
  have tracked : ∀ {a : Addr} {h' : Heap}, (∃ o, s.heap.get? a = some o ∧ H a = none) → Heap.SameBut a s.heap h' → HOk X.prog X.w H h' := fun {a h'} ha hs b ob e => by
    obtain ⟨_, _, hfree⟩ := ha
    refine (I.hok b ob e).stay (fun c w' hc q => (hs.2 c ?_).trans q) (fun _ q => q) fun _ _ q => q
    rintro rfl
    rcases hc with rfl | hc
    · rw [hfree] at e; cases e
    · rw [hfree] at hc; cases hc
  rcases hx with hk | hk
  · refine wpAny_storeName_local hk hn (fun h' hn' hs => ?_) hcls
    obtain ⟨oL, _, _, hoL, _⟩ := id hn
    refine h _ ⟨I.ok, I.os, I.bare, ⟨fun b o e n hb hx => ?_, fun b o e n hb hx => ?_, I.base.free, fun b o e hx => ?_, I.base.tups, I.base.frzs, I.base.tbls⟩, ⟨_, hn', fun j y v' e1 e2 e3 => ?_⟩, fun y c e => ?_, I.free, I.freeC, fun p hp => ?_, tracked ⟨oL, hoL, I.free⟩ hs, by simpa using I.len⟩ ⟨_, hs, .inl rfl⟩
    · exact (hs.2 b (Nat.ne_of_lt (Nat.lt_of_lt_of_le (Heap.lt_size e) I.ok.above))).trans (I.base.keep b o e n hb hx)
    · obtain ⟨sl, e1⟩ := I.base.slot b o e n hb hx
      exact ⟨sl, (hs.2 b (Nat.ne_of_lt (Nat.lt_of_lt_of_le (Heap.lt_size e) I.ok.above))).trans e1⟩
    · obtain ⟨o', e1⟩ := I.base.there b o e hx
      exact ⟨o', (hs.2 b (Nat.ne_of_lt (Nat.lt_of_lt_of_le (Heap.lt_size e) I.ok.above))).trans e1⟩
    · by_cases hj : j = i
      · subst hj
        rw [hi] at e1; cases e1
        rw [List.getElem?_set_self hiσ] at e2
        cases e2
        exact ⟨u, r, .inl ⟨hk, by simp⟩⟩
      · rw [List.getElem?_set_ne (Ne.symm hj)] at e2
        obtain ⟨u', r', q⟩ := hl j y v' e1 e2 e3
        refine ⟨u', r', ?_⟩
        rcases q with ⟨k, e⟩ | ⟨k, c, e, z⟩
        · refine .inl ⟨k, ?_⟩
          have : y ≠ x := fun e => hj (nodup_ix hN e1 (e ▸ hi))
          simp [this, e]
        · exact .inr ⟨k, c, e, z.sameBut hs (cne y c e)⟩
    · obtain ⟨w', z⟩ := I.cell y c e
      exact ⟨w', z.sameBut hs (cne y c e)⟩
    · obtain ⟨e, n, ne, nf, d⟩ := I.pin p hp
      exact ⟨(hs.2 p.1 ne).trans e, n, ne, nf, d⟩
  · have hfn : X.fn x = true := by
      rcases hf with z | z
      · exact z
      · rw [z] at hk; cases hk
    obtain ⟨c, hc⟩ := I.ok.has x (.inl hk)
    obtain ⟨w', z⟩ := I.cell x c hc
    refine wpAny_storeName_cell I.ok.kind hk hc z (fun h' hc' hs => ?_)
    obtain ⟨oc, hoc, hocd⟩ := id z
    refine h { s with heap := h' } ⟨I.ok, I.os, I.bare, ⟨fun b o e n hb hx => ?_, fun b o e n hb hx => ?_, I.base.free, fun b o e hx => ?_, I.base.tups, I.base.frzs, I.base.tbls⟩, ⟨m, hn.sameBut hs (Ne.symm (cne x c hc)), fun j y v' e1 e2 e3 => ?_⟩, fun y c' e => ?_, I.free, I.freeC, fun p hp => ?_, tracked ⟨oc, hoc, I.freeC x c hc⟩ hs, by simpa using I.len⟩ ⟨c, hs, .inr hc⟩
    · exact (hs.2 b (Nat.ne_of_lt (Nat.lt_of_lt_of_le (Heap.lt_size e) (I.ok.cab x c hfn hc)))).trans (I.base.keep b o e n hb hx)
    · obtain ⟨sl, e1⟩ := I.base.slot b o e n hb hx
      exact ⟨sl, (hs.2 b (Nat.ne_of_lt (Nat.lt_of_lt_of_le (Heap.lt_size e) (I.ok.cab x c hfn hc)))).trans e1⟩
    · obtain ⟨o', e1⟩ := I.base.there b o e hx
      exact ⟨o', (hs.2 b (Nat.ne_of_lt (Nat.lt_of_lt_of_le (Heap.lt_size e) (I.ok.cab x c hfn hc)))).trans e1⟩
    · by_cases hj : j = i
      · subst hj
        rw [hi] at e1; cases e1
        rw [List.getElem?_set_self hiσ] at e2
        cases e2
        exact ⟨u, r, .inr ⟨.inl hk, c, hc, hc'⟩⟩
      · rw [List.getElem?_set_ne (Ne.symm hj)] at e2
        obtain ⟨u', r', q⟩ := hl j y v' e1 e2 e3
        refine ⟨u', r', ?_⟩
        rcases q with q | ⟨k, c', e, z'⟩
        · exact .inl q
        · refine .inr ⟨k, c', e, z'.sameBut hs ?_⟩
          rintro rfl
          exact hj (nodup_ix hN e1 (I.ok.inj _ _ _ e hc ▸ hi))
    · by_cases hcc : c' = c
      · subst hcc; exact ⟨_, hc'⟩
      · obtain ⟨w2, z2⟩ := I.cell y c' e
        exact ⟨w2, z2.sameBut hs hcc⟩
    · obtain ⟨e, n, ne, nf, d⟩ := I.pin p hp
      refine ⟨(hs.2 p.1 ?_).trans e, n, ne, nf, d⟩
      intro q
      rw [q, hoc] at e
      have q' : oc = p.2 := Option.some.inj e
      exact d w' (by rw [← q']; exact hocd)
theorem store_ok {M : Model} {A : Around} {E : Value → Shared → Prop} {i : Nat} {x : Str} {v : V} {u : Value} {Q : Unit → Shared → Prop} (I : Inv X pins σ H s) (hN : X.N.Nodup) (hi : X.N[i]? = some x) (hx : Loc X.env.scope x) (r : RelV v u)
    (h : ∀ s', Inv X pins (σ.set i (some v)) H s' → Q () s') (hf : X.fn x = true ∨ X.env.scope.names.lookup x = some .local := by first | exact .inl rfl | exact .inr rfl | assumption) : wpAny M A (storeName X.env x u) Q E s :=
  store_ok2 I hN hi hx r (fun s' I' _ => h s' I') hf
/-- behind a call or a block, the state as it is -/
theorem Inv.call' {s' : Shared} {ch : List Addr} (I : Inv X pins σ H s) (ho : s'.os = s.os) (u : Un (frs X.stack) ch H H' s.heap s'.heap) (hok : HOk X.prog X.w H' s'.heap) (hg : AllBare s'.gens)
    (hch : ∀ b ∈ ch, (b ∈ X.ex ∨ X.s₀.heap.objs.size ≤ b) ∧ b ≠ X.env.locals ∧ (∀ x c, X.env.cells.lookup x = some c → c ≠ b) ∧ ∀ p ∈ X.pn ++ pins, p.1 ≠ b) : Inv X pins σ H' s' := by
  obtain ⟨h', g', d', t', o'⟩ := s'
  have e : o' = s.os := ho
  subst e
  exact I.call (g' := g') (t' := t') (d' := d') u hok hg hch
end

/-! ### the judgements -/
/-- an exception: its class, its own dict's address (where it has one), the abstract heap behind it -/
abbrev XK := Value → Option Addr → Hp → Prop
abbrev St := List (Option V)
abbrev VK := V → Hp → Prop
/-- an expression's reading; a test's; an argument list's -/
abbrev TE := St → Hp → VK → Prop
abbrev TT := St → Hp → (Bool → Hp → Prop) → Prop
abbrev TA := St → Hp → (List V → Hp → Prop) → Prop
/-- what is wanted behind a statement -/
structure Ends where
  nx : St → Hp → Prop
  rt : VK
  bk : St → Hp → Prop := fun _ _ => False
  ct : St → Hp → Prop := fun _ _ => False
abbrev TS := Ends → St → Hp → Prop

def EP (X : Cx) (pins : List (Addr × Obj)) (σ : St) (Q : VK) (u : Value) (s' : Shared) : Prop := ∃ v H', Inv X pins σ H' s' ∧ RelV v u ∧ Q v H'
def TP (X : Cx) (pins : List (Addr × Obj)) (σ : St) (Q : Bool → Hp → Prop) (b : Bool) (s' : Shared) : Prop := ∃ H', Inv X pins σ H' s' ∧ Q b H'
def AP (X : Cx) (pins : List (Addr × Obj)) (σ : St) (Q : List V → Hp → Prop) (us : List Value) (s' : Shared) : Prop := ∃ vs H', Inv X pins σ H' s' ∧ Vals vs us ∧ Q vs H'
def SP (X : Cx) (pins : List (Addr × Obj)) (D : Ends) (f : Flow) (s' : Shared) : Prop :=
  match f with
  | .next => ∃ σ' H', Inv X pins σ' H' s' ∧ D.nx σ' H'
  | .brk => ∃ σ' H', Inv X pins σ' H' s' ∧ D.bk σ' H'
  | .cont => ∃ σ' H', Inv X pins σ' H' s' ∧ D.ct σ' H'
  | .ret u => ∃ v σ' H', Inv X pins σ' H' s' ∧ RelV v u ∧ D.rt v H'

def PE (X : Cx) (e : Expr) (t : TE) : Prop :=
  ∀ (pins : List (Addr × Obj)) (s : Shared) (σ : St) (H : Hp) (Q : VK), Inv X pins σ H s → t σ H Q → wpAny (model X.prog X.w) X.A (eval e X.env) (EP X pins σ Q) X.xe s
def PT (X : Cx) (e : Expr) (t : TT) : Prop :=
  ∀ (pins : List (Addr × Obj)) (s : Shared) (σ : St) (H : Hp) (Q : Bool → Hp → Prop), Inv X pins σ H s → t σ H Q → wpAny (model X.prog X.w) X.A (isTrue e X.env (eval e X.env)) (TP X pins σ Q) X.xe s
/-- a test whatever its 'whole' is (and, or) -/
def PW (X : Cx) (e : Expr) (t : TT) : Prop :=
  ∀ (whole : Sem Value) (pins : List (Addr × Obj)) (s : Shared) (σ : St) (H : Hp) (Q : Bool → Hp → Prop), Inv X pins σ H s → t σ H Q → wpAny (model X.prog X.w) X.A (isTrue e X.env whole) (TP X pins σ Q) X.xe s
theorem PW.pt {X : Cx} {e : Expr} {t : TT} (h : PW X e t) : PT X e t := h _
/-- an argument list (no star), from the left -/
def PA (X : Cx) (es : List Expr) (t : TA) : Prop :=
  ∀ (pos : Pos) (pins : List (Addr × Obj)) (s : Shared) (σ : St) (H : Hp) (Q : List V → Hp → Prop), Inv X pins σ H s → t σ H Q → wpAny (model X.prog X.w) X.A (spliced (backTo pos (starEach es X.env))) (AP X pins σ Q) X.xe s
def PS (X : Cx) (st : Stmt) (t : TS) : Prop :=
  ∀ (pins : List (Addr × Obj)) (s : Shared) (σ : St) (H : Hp) (D : Ends), Inv X pins σ H s → t D σ H → wpAny (model X.prog X.w) X.A (exec st X.env) (SP X pins D) X.xe s
def PSs (X : Cx) (st : List Stmt) (t : TS) : Prop :=
  ∀ (pins : List (Addr × Obj)) (s : Shared) (σ : St) (H : Hp) (D : Ends), Inv X pins σ H s → t D σ H → wpAny (model X.prog X.w) X.A (execs st X.env) (SP X pins D) X.xe s
/-- weaken the end -/
theorem thn {α : Type} {t : Sem α} {Q Q' : α → Shared → Prop} {M : Model} {A : Around} {E : Value → Shared → Prop} {s : Shared} (h : wpAny M A t Q E s) (hQ : ∀ a s, Q a s → Q' a s) : wpAny M A t Q' E s := wpAny_mono h hQ fun _ _ x => x
end L2

namespace L2
open PySem PySem.Spec PyProof.Rows
section
variable {X : Cx}

/-- two expressions in a row -/
theorem bin {a b : Expr} {ta tb : TE} (ha : PE X a ta) (hb : PE X b tb) {pins : List (Addr × Obj)} {s : Shared} {σ : St} {H : Hp} {R : V → V → Hp → Prop} (I : Inv X pins σ H s) (h : ta σ H fun x H1 => tb σ H1 fun y H2 => R x y H2)
    {α : Type} {Q : α → Shared → Prop} {f : Value → Value → Sem α}
    (hf : ∀ v u s2 x y H2, Inv X pins σ H2 s2 → RelV x v → RelV y u → R x y H2 → wpAny (model X.prog X.w) X.A (f v u) Q X.xe s2) :
    wpAny (model X.prog X.w) X.A (eval a X.env) (fun v s₁ => wpAny (model X.prog X.w) X.A (eval b X.env) (fun u s₂ => wpAny (model X.prog X.w) X.A (f v u) Q X.xe s₂) X.xe s₁) X.xe s := by
  refine thn (ha pins s σ H _ I h) fun v s1 ⟨x, H1, I1, r1, q1⟩ => ?_
  refine thn (hb pins s1 σ H1 _ I1 q1) fun u s2 ⟨y, H2, I2, r2, q2⟩ => ?_
  exact hf v u s2 x y H2 I2 r1 r2 q2

/-! ### names and constants -/
def tVar (i : Nat) : TE := fun σ H Q => ∃ v, σ[i]? = some (some v) ∧ Q v H
def tC (v : V) : TE := fun _ H Q => Q v H
theorem pe_var {i : Nat} {x : Str} {pos : Pos} (hN : X.N[i]? = some x) (hv : Vis X.env.scope x) (hd : (x == ("__debug__" : Str)) = false := by decide) (hcd : (x == ("__classdict__" : Str)) = false := by decide) : PE X (.Name x pos) (tVar i) := by
  intro pins s σ H Q I h
  obtain ⟨v, e, h⟩ := h
  obtain ⟨m, hn, hl⟩ := I.loc
  obtain ⟨u, r, l⟩ := hl i x v hN e hv
  have fin : EP X pins σ Q u s := ⟨v, H, I, r, h⟩
  rcases l with ⟨hk, hm⟩ | ⟨hk, c, hc, hcell⟩
  · exact wpAny_Name (wpAny_loadName_local I.ok.kind hk hn hm fin) hd
  · rcases hk with hk | hk
    · exact wpAny_Name (wpAny_loadName_cell I.ok.kind hk hc hcell fin) hd
    · exact wpAny_Name (wpAny_loadName_free I.ok.kind hk hc hcell fin hcd) hd
theorem pe_int {i j pos} : PE X (.Constant (.int i) j pos) (tC (.int i)) := fun _ _ _ H _ I h => wpAny_Constant_int ⟨.int i, H, I.tok _, ⟨_, rfl⟩, h⟩
theorem pe_bl {b j pos} : PE X (.Constant (.bool b) j pos) (tC (.bl b)) := fun _ _ _ H _ I h => Constant_bool ⟨.bl b, H, I, rfl, h⟩
theorem pe_non {j pos} : PE X (.Constant .none j pos) (tC .non) := fun _ _ _ H _ I h => Constant_none ⟨.non, H, I, rfl, h⟩
theorem pe_str {x j pos} : PE X (.Constant (.str x) j pos) (tC (.str x)) := fun _ _ _ H _ I h => Calls.Constant_str ⟨.str x, H, I.tok _, ⟨_, rfl⟩, h⟩

/-- a global name of the def -/
def Gl (X : Cx) (x : Str) : Prop := X.env.kindOf x = some .globalImplicit
theorem ld_glob {E : Value → Shared → Prop} {pins : List (Addr × Obj)} {s : Shared} {σ : St} {H : Hp} {x : Str} {u : Value} {pos : Pos} {Q : Value → Shared → Prop} (I : Inv X pins σ H s) (hg : Gl X x) (hm : X.mg x = some u) (h : Q u s)
    (hd : (x == ("__debug__" : Str)) = false := by decide) : wpAny (model X.prog X.w) X.A (eval (.Name x pos) X.env) Q E s :=
  Calls.Name_function_global I.ok.kind hg (Calls.loadGlobal_global (by rw [I.ok.glob]; exact I.mod.glob.keeps I.bk) hm h) hd
theorem ld_blt {E : Value → Shared → Prop} {pins : List (Addr × Obj)} {s : Shared} {σ : St} {H : Hp} {x : Str} {u : Value} {pos : Pos} {Q : Value → Shared → Prop} (I : Inv X pins σ H s) (hg : Gl X x) (hm : X.mg x = none) (hv : bootBuiltins x = some u) (h : Q u s)
    (hn : x ≠ "__name__" := by decide) (hd : (x == ("__debug__" : Str)) = false := by decide) : wpAny (model X.prog X.w) X.A (eval (.Name x pos) X.env) Q E s := by
  obtain ⟨mb, h1, h2⟩ := I.mod.blt
  exact Calls.Name_function_global I.ok.kind hg (Calls.loadGlobal_builtin (by rw [I.ok.glob]; exact I.mod.glob.keeps I.bk) hm (by rw [I.ok.blt]; exact h1.keeps I.bk) ((h2 x hn).trans hv) h) hd
/-- a module's constant, a class, a function, as a value -/
theorem pe_glob {x : Str} {v : V} {u : Value} {pos : Pos} (hg : Gl X x) (hm : X.mg x = some u) (r : RelV v u) (hd : (x == ("__debug__" : Str)) = false := by decide) : PE X (.Name x pos) (tC v) :=
  fun _ _ _ H _ I h => ld_glob I hg hm ⟨v, H, I, r, h⟩ hd
theorem pe_bltn {x : Str} {v : V} {u : Value} {pos : Pos} (hg : Gl X x) (hm : X.mg x = none) (hv : bootBuiltins x = some u) (r : RelV v u) (hn : x ≠ "__name__" := by decide) (hd : (x == ("__debug__" : Str)) = false := by decide) : PE X (.Name x pos) (tC v) :=
  fun _ _ _ H _ I h => ld_blt I hg hm hv ⟨v, H, I, r, h⟩ hn hd

/-! ### arithmetic -/
/-- two ints -/
def t2I (ta tb : TE) (k : Int → Int → Hp → Prop) : St → Hp → Prop := fun σ H => ta σ H fun x H1 => tb σ H1 fun y H2 => ∃ i j, x = .int i ∧ y = .int j ∧ k i j H2
def tAdd (ta tb : TE) : TE := fun σ H Q => t2I ta tb (fun i j H2 => Q (.int (i + j)) H2) σ H
def tSub (ta tb : TE) : TE := fun σ H Q => t2I ta tb (fun i j H2 => Q (.int (i - j)) H2) σ H
/-- the left factor below 2^64 -/
def tMul (ta tb : TE) : TE := fun σ H Q => t2I ta tb (fun i j H2 => (-(2 ^ 64) < i ∧ i < 2 ^ 64) ∧ Q (.int (i * j)) H2) σ H
variable {a b : Expr} {ta tb : TE} {pos : Pos}
theorem pe_add (ha : PE X a ta) (hb : PE X b tb) : PE X (.BinOp a .Add b pos) (tAdd ta tb) := by
  intro pins s σ H Q I h
  refine wpAny_BinOp (bin ha hb I h fun v u s2 x y H2 I2 rx ry q => ?_)
  obtain ⟨i, j, rfl, rfl, q⟩ := q
  obtain ⟨t, rfl⟩ := rx
  obtain ⟨t', rfl⟩ := ry
  exact add_int ⟨.int _, H2, I2.tok _, ⟨_, rfl⟩, q⟩
theorem pe_sub (ha : PE X a ta) (hb : PE X b tb) : PE X (.BinOp a .Sub b pos) (tSub ta tb) := by
  intro pins s σ H Q I h
  refine wpAny_BinOp (bin ha hb I h fun v u s2 x y H2 I2 rx ry q => ?_)
  obtain ⟨i, j, rfl, rfl, q⟩ := q
  obtain ⟨t, rfl⟩ := rx
  obtain ⟨t', rfl⟩ := ry
  exact sub_int ⟨.int _, H2, I2.tok _, ⟨_, rfl⟩, q⟩
theorem pe_mul (ha : PE X a ta) (hb : PE X b tb) : PE X (.BinOp a .Mult b pos) (tMul ta tb) := by
  intro pins s σ H Q I h
  refine wpAny_BinOp (bin ha hb I h fun v u s2 x y H2 I2 rx ry q => ?_)
  obtain ⟨i, j, rfl, rfl, ⟨q1, q2⟩, q⟩ := q
  obtain ⟨t, rfl⟩ := rx
  obtain ⟨t', rfl⟩ := ry
  exact mul_int ⟨.int _, H2, I2.tok _, ⟨_, rfl⟩, q⟩ (.of_left (intBits_le_64 q1 q2))

/-! ### comparisons -/
def PC (X : Cx) (op : CmpOp) (a b : Expr) (t : TE) : Prop :=
  ∀ (pins : List (Addr × Obj)) (s : Shared) (σ : St) (H : Hp) (Q : VK), Inv X pins σ H s → t σ H Q →
    wpAny (model X.prog X.w) X.A (eval a X.env) (fun v s₁ => wpAny (model X.prog X.w) X.A (eval b X.env) (fun u s₂ => wpAny (model X.prog X.w) X.A (compareOp op v u) (EP X pins σ Q) X.xe s₂) X.xe s₁) X.xe s
theorem nobehind (b : Expr) {op : CmpOp} (h : op ≠ .In) (h2 : op ≠ .NotIn) : behindInMarks op b = false := by
  have e1 : (op == CmpOp.In) = false := by cases op <;> first | rfl | exact absurd rfl h
  have e2 : (op == CmpOp.NotIn) = false := by cases op <;> first | rfl | exact absurd rfl h2
  cases b <;> simp [behindInMarks, e1, e2]
def tCmp (p : Int → Int → Bool) (ta tb : TE) : TE := fun σ H Q => t2I ta tb (fun i j H2 => Q (.bl (p i j)) H2) σ H
abbrev tLt : TE → TE → TE := tCmp fun i j => decide (i < j)
abbrev tLe : TE → TE → TE := tCmp fun i j => decide (i ≤ j)
abbrev tGt : TE → TE → TE := tCmp fun i j => decide (j < i)
abbrev tGe : TE → TE → TE := tCmp fun i j => decide (j ≤ i)
abbrev tEqI : TE → TE → TE := tCmp fun i j => decide (i = j)
abbrev tNeI : TE → TE → TE := tCmp fun i j => !decide (i = j)
/-- a comparison of two ints, by its rule -/
theorem pc_int {op : CmpOp} {p : Int → Int → Bool} (ha : PE X a ta) (hb : PE X b tb)
    (rule : ∀ (i j : Int) (t u : Tok) (Q : Value → Shared → Prop) (s : Shared), Q (.bool (p i j)) s → wpAny (model X.prog X.w) X.A (compareOp op (.int i t) (.int j u)) Q X.xe s) : PC X op a b (tCmp p ta tb) := by
  intro pins s σ H Q I h
  refine bin ha hb I h fun v u s2 x y H2 I2 rx ry q => ?_
  obtain ⟨i, j, rfl, rfl, q⟩ := q
  obtain ⟨t, rfl⟩ := rx
  obtain ⟨t', rfl⟩ := ry
  exact rule i j t t' _ s2 ⟨.bl _, H2, I2, rfl, q⟩
theorem pc_lt (ha : PE X a ta) (hb : PE X b tb) : PC X .Lt a b (tLt ta tb) := pc_int ha hb fun _ _ _ _ _ _ h => lt_int h
theorem pc_le (ha : PE X a ta) (hb : PE X b tb) : PC X .LtE a b (tLe ta tb) := pc_int ha hb fun _ _ _ _ _ _ h => le_int h
theorem pc_gt (ha : PE X a ta) (hb : PE X b tb) : PC X .Gt a b (tGt ta tb) := pc_int ha hb fun _ _ _ _ _ _ h => gt_int h
theorem pc_ge (ha : PE X a ta) (hb : PE X b tb) : PC X .GtE a b (tGe ta tb) := pc_int ha hb fun _ _ _ _ _ _ h => ge_int h
theorem pc_eqI (ha : PE X a ta) (hb : PE X b tb) : PC X .Eq a b (tEqI ta tb) := pc_int ha hb fun _ _ _ _ _ _ h => eq_int (by rw [Bool.beq_eq_decide_eq]; exact h)
theorem pc_neI (ha : PE X a ta) (hb : PE X b tb) : PC X .NotEq a b (tNeI ta tb) := pc_int ha hb fun _ _ _ _ _ _ h => ne_int (by rw [bne, Bool.beq_eq_decide_eq]; exact h)
/-- is None -/
def tIsN (ta : TE) : TE := fun σ H Q => ta σ H fun x H1 => Q (.bl (decide (x = .non))) H1
def tNotN (ta : TE) : TE := fun σ H Q => ta σ H fun x H1 => Q (.bl (!decide (x = .non))) H1
theorem RelV.none_iff {x : V} {v : Value} (r : RelV x v) : (v == Value.none) = decide (x = .non) := by
  cases x with
  | non => cases r; rfl
  | bl _ => cases r; rfl
  | int _ => obtain ⟨t, rfl⟩ := r; rfl
  | str _ => obtain ⟨t, rfl⟩ := r; rfl
  | byt _ => obtain ⟨t, rfl⟩ := r; rfl
  | flt _ => obtain ⟨t, rfl⟩ := r; rfl
  | ref _ => cases r; rfl
  | ty _ => cases r; rfl
theorem pc_isN {j pos'} (ha : PE X a ta) : PC X .Is a (.Constant .none j pos') (tIsN ta) := by
  intro pins s σ H Q I h
  refine thn (ha pins s σ H _ I h) fun v s1 ⟨x, H1, I1, r1, q1⟩ => ?_
  exact Constant_none (is_none_gen ⟨.bl _, H1, I1, by rw [r1.none_iff]; rfl, q1⟩)
theorem pc_notN {j pos'} (ha : PE X a ta) : PC X .IsNot a (.Constant .none j pos') (tNotN ta) := by
  intro pins s σ H Q I h
  refine thn (ha pins s σ H _ I h) fun v s1 ⟨x, H1, I1, r1, q1⟩ => ?_
  exact Constant_none (isnot_none_gen ⟨.bl _, H1, I1, by rw [r1.none_iff]; rfl, q1⟩)
/-- a comparison as a value, as a test -/
def tB (t : TE) : TT := fun σ H Q => t σ H fun x H1 => ∃ c, x = .bl c ∧ Q c H1
theorem pe_cmp {op : CmpOp} {t : TE} (h : PC X op a b t) (h1 : behindInMarks op b = false := by first | exact nobehind _ (by decide) (by decide) | rfl) : PE X (.Compare a [op] [b] pos) t := fun pins s σ H Q I hw => wpAny_Compare1 (h pins s σ H Q I hw) h1
theorem pt_cmp {op : CmpOp} {t : TE} (h : PC X op a b t) (h1 : behindInMarks op b = false := by first | exact nobehind _ (by decide) (by decide) | rfl) : PT X (.Compare a [op] [b] pos) (tB t) := by
  intro pins s σ H Q I hw
  refine wpAny_isTrue_Compare1 (thn (h pins s σ H _ I hw) fun v s1 h1 => thn h1 fun u s2 h2 => thn h2 fun c s3 ⟨x, H1, I1, r1, q1⟩ => ?_) h1
  obtain ⟨d, rfl, q⟩ := q1
  cases r1
  exact wpAny_truthy_bool ⟨H1, I1, q⟩
/-- an expression whose value is a bool, as a test -/
theorem pt_val {e : Expr} {t : TE} (h : PE X e t) (he : ∀ whole, isTrue e X.env whole = (do let v ← whole; standAt e.pos; holding [v] (truthy v)) := by intro _; rfl) : PT X e (tB t) := by
  intro pins s σ H Q I hw
  refine isTrue_plain (thn (h pins s σ H _ I hw) fun v s1 ⟨x, H1, I1, r1, q1⟩ => ?_) (he _)
  obtain ⟨d, rfl, q⟩ := q1
  cases r1
  exact wpAny_truthy_bool ⟨H1, I1, q⟩

/-! ### and, or, not -/
variable {tA tB' : TT} {rest : List Expr}
def tAnd (t u : TT) : TT := fun σ H Q => t σ H fun c H1 => if c = true then u σ H1 Q else Q false H1
def tOr (t u : TT) : TT := fun σ H Q => t σ H fun c H1 => if c = true then Q true H1 else u σ H1 Q
def tNot (t : TT) : TT := fun σ H Q => t σ H fun c H1 => Q (!c) H1
theorem pw_and1 (ha : PT X a tA) : PW X (.BoolOp .And [a] pos) tA := by
  intro wh pins s σ H Q I h
  refine isTrue_and (thn (ha pins s σ H Q I h) fun c s1 e => ?_)
  cases c with
  | true => exact isTrue_and_nil e
  | false => exact e
theorem pw_or1 (ha : PT X a tA) : PW X (.BoolOp .Or [a] pos) tA := by
  intro wh pins s σ H Q I h
  refine isTrue_or (thn (ha pins s σ H Q I h) fun c s1 e => ?_)
  cases c with
  | false => exact isTrue_or_nil e
  | true => exact e
theorem pw_and (ha : PT X a tA) (hb : PW X (.BoolOp .And (b :: rest) pos) tB') : PW X (.BoolOp .And (a :: b :: rest) pos) (tAnd tA tB') := by
  intro wh pins s σ H Q I h
  refine isTrue_and (thn (ha pins s σ H _ I h) fun c s1 ⟨H1, I1, q1⟩ => ?_)
  cases c with
  | true => exact hb wh pins s1 σ H1 Q I1 q1
  | false => exact ⟨H1, I1, q1⟩
theorem pw_or (ha : PT X a tA) (hb : PW X (.BoolOp .Or (b :: rest) pos) tB') : PW X (.BoolOp .Or (a :: b :: rest) pos) (tOr tA tB') := by
  intro wh pins s σ H Q I h
  refine isTrue_or (thn (ha pins s σ H _ I h) fun c s1 ⟨H1, I1, q1⟩ => ?_)
  cases c with
  | true => exact ⟨H1, I1, q1⟩
  | false => exact hb wh pins s1 σ H1 Q I1 q1
theorem pt_not (ha : PT X a tA) : PT X (.UnaryOp .Not a pos) (tNot tA) := by
  intro pins s σ H Q I h
  exact isTrue_not (ha pins s σ H (fun c H1 => Q (!c) H1) I h)
/-- .. as values (bools) -/
def tAndV (ta tb : TE) : TE := fun σ H Q => ta σ H fun x H1 => ∃ c, x = .bl c ∧ if c = true then tb σ H1 Q else Q (.bl false) H1
def tOrV (ta tb : TE) : TE := fun σ H Q => ta σ H fun x H1 => ∃ c, x = .bl c ∧ if c = true then Q (.bl true) H1 else tb σ H1 Q
def tNotV (ta : TE) : TE := fun σ H Q => ta σ H fun x H1 => ∃ c, x = .bl c ∧ Q (.bl (!c)) H1
theorem pe_one {op} {t : TE} (h : PE X a t) : PE X (.BoolOp op [a] pos) t := fun pins s σ H Q I hw => BoolOp_one (h pins s σ H Q I hw)
theorem pe_and (ha : PE X a ta) (hb : PE X (.BoolOp .And (b :: rest) pos) tb) : PE X (.BoolOp .And (a :: b :: rest) pos) (tAndV ta tb) := by
  intro pins s σ H Q I h
  refine BoolOp_and (thn (ha pins s σ H _ I h) fun v s1 ⟨x, H1, I1, r1, q1⟩ => ?_)
  obtain ⟨c, rfl, q1⟩ := q1
  cases r1
  refine wpAny_truthy_bool ?_
  cases c with
  | true => exact hb pins s1 σ H1 Q I1 q1
  | false => exact ⟨.bl false, H1, I1, rfl, q1⟩
theorem pe_or (ha : PE X a ta) (hb : PE X (.BoolOp .Or (b :: rest) pos) tb) : PE X (.BoolOp .Or (a :: b :: rest) pos) (tOrV ta tb) := by
  intro pins s σ H Q I h
  refine BoolOp_or (thn (ha pins s σ H _ I h) fun v s1 ⟨x, H1, I1, r1, q1⟩ => ?_)
  obtain ⟨c, rfl, q1⟩ := q1
  cases r1
  refine wpAny_truthy_bool ?_
  cases c with
  | false => exact hb pins s1 σ H1 Q I1 q1
  | true => exact ⟨.bl true, H1, I1, rfl, q1⟩
theorem pe_not (ha : PE X a ta) : PE X (.UnaryOp .Not a pos) (tNotV ta) := by
  intro pins s σ H Q I h
  refine UnaryOp_ (thn (ha pins s σ H _ I h) fun v s1 ⟨x, H1, I1, r1, q1⟩ => ?_)
  obtain ⟨c, rfl, q1⟩ := q1
  cases r1
  exact not_of (wpAny_truthy_bool ⟨.bl (!c), H1, I1, rfl, q1⟩)
/-- a if t else b -/
def tIf (t : TT) (ta tb : TE) : TE := fun σ H Q => t σ H fun c H1 => if c = true then ta σ H1 Q else tb σ H1 Q
theorem pe_ifExp {c : Expr} (hc : PT X c tA) (ha : PE X a ta) (hb : PE X b tb) : PE X (.IfExp c a b pos) (tIf tA ta tb) := by
  intro pins s σ H Q I h
  refine wpAny_IfExp (thn (hc pins s σ H _ I h) fun d s1 ⟨H1, I1, q1⟩ => ?_)
  cases d with
  | true => exact ha pins s1 σ H1 Q I1 q1
  | false => exact hb pins s1 σ H1 Q I1 q1
end
end L2

namespace L2
open PySem PySem.Spec PyProof.Rows

/-! ### a list, a tuple that is read: tracked, frozen, or an object of the module -/
def SqL (K : PySem.W.Frag) (H : Hp) (a : Addr) (xs : List V) : Prop :=
  Rd H a (.lst xs) ∨
    ∃ (o : Obj) (its : Array Value) (n : Nat), K.lookup a = some o ∧ o.cls = .type "list" ∧ o.dict = none ∧ o.data = .seq its n ∧ its.size ≤ sizeLine ∧ Vals xs its.toList
def SqT (K : PySem.W.Frag) (H : Hp) (a : Addr) (xs : List V) : Prop :=
  Rd H a (.tup xs) ∨
    ∃ (o : Obj) (its : Array Value) (n : Nat), K.lookup a = some o ∧ o.cls = .type "tuple" ∧ o.data = .seq its n ∧ its.size ≤ sizeLine ∧ Vals xs its.toList
def absV : Value → Option V
  | .none => some .non
  | .bool b => some (.bl b)
  | .int i _ => some (.int i)
  | .str x _ => some (.str x)
  | .bytes b _ => some (.byt b)
  | .float b _ => some (.flt b)
  | .ref a => some (.ref a)
  | .type n => some (.ty n)
  | _ => none
theorem RelV.abs {x : V} {u : Value} (r : RelV x u) : absV u = some x := by
  cases x with
  | non => cases r; rfl
  | bl _ => cases r; rfl
  | int _ => obtain ⟨t, rfl⟩ := r; rfl
  | str _ => obtain ⟨t, rfl⟩ := r; rfl
  | byt _ => obtain ⟨t, rfl⟩ := r; rfl
  | flt _ => obtain ⟨t, rfl⟩ := r; rfl
  | ref _ => cases r; rfl
  | ty _ => cases r; rfl
theorem RelV.inj {x y : V} {u : Value} (r : RelV x u) (q : RelV y u) : x = y := Option.some.inj (r.abs.symm.trans q.abs)
theorem Vals.inj : ∀ {xs ys : List V} {us : List Value}, Vals xs us → Vals ys us → xs = ys
  | _, _, _, .nil, .nil => rfl
  | _, _, _, .cons r t, .cons r' t' => by rw [r.inj r', Vals.inj t t']
section
variable {X : Cx} {pins : List (Addr × Obj)} {σ : St} {H : Hp} {s : Shared} {a : Addr} {xs ys : List V}
theorem SqL.of {K : PySem.W.Frag} (h : H a = some (.lst xs)) : SqL K H a xs := .inl (.inl h)
theorem SqT.of {K : PySem.W.Frag} (h : H a = some (.tup xs)) : SqT K H a xs := .inl (.inl h)
theorem Inv.list (I : Inv X pins σ H s) (h : SqL X.K H a xs) : ∃ its : List Value, Vals xs its ∧ PlainL s.heap a its.toArray ∧ xs.length ≤ sizeLine := by
  rcases h with h | ⟨o, its, n, hk, hc, hd, hs, hz, r⟩
  · obtain ⟨z, its, n, r, e⟩ := h.ok I.hok
    exact ⟨its, r, ⟨_, n, e, rfl, rfl, rfl⟩, z⟩
  · refine ⟨its.toList, r, ⟨o, n, I.kIn a o hk, hc, hd, by simpa using hs⟩, ?_⟩
    have e := r.length
    simp only [Array.length_toList] at e
    omega
theorem Inv.tuple (I : Inv X pins σ H s) (h : SqT X.K H a xs) : ∃ its : List Value, Vals xs its ∧ IsTup s.heap a its.toArray ∧ xs.length ≤ sizeLine := by
  rcases h with h | ⟨o, its, n, hk, hc, hs, hz, r⟩
  · obtain ⟨z, its, r, p⟩ := h.ok I.hok
    exact ⟨its, r, p, z⟩
  · refine ⟨its.toList, r, ⟨o, I.kIn a o hk, hc, n, by simpa using hs⟩, ?_⟩
    have e := r.length
    simp only [Array.length_toList] at e
    omega
theorem Inv.list_inj (I : Inv X pins σ H s) (h : SqL X.K H a xs) (h' : SqL X.K H a ys) : xs = ys := by
  obtain ⟨its, r, ⟨o, n, e, _, _, d⟩, _⟩ := I.list h
  obtain ⟨its', r', ⟨o', n', e', _, _, d'⟩, _⟩ := I.list h'
  rw [e] at e'; cases e'
  rw [d] at d'
  injection d' with d1 _
  have : its = its' := by simpa using congrArg Array.toList d1
  subst this
  exact r.inj r'
theorem Inv.tuple_inj (I : Inv X pins σ H s) (h : SqT X.K H a xs) (h' : SqT X.K H a ys) : xs = ys := by
  obtain ⟨its, r, ⟨o, e, _, n, d⟩, _⟩ := I.tuple h
  obtain ⟨its', r', ⟨o', e', _, n', d'⟩, _⟩ := I.tuple h'
  rw [e] at e'; cases e'
  rw [d] at d'
  injection d' with d1 _
  have : its = its' := by simpa using congrArg Array.toList d1
  subst this
  exact r.inj r'
end

/-! ### another wish about exceptions -/
abbrev Cx.wish (X : Cx) (E : Value → Shared → Prop) : Cx := { X with xe := E }
/-- no exception leaves -/
abbrev Cx.nox (X : Cx) : Cx := X.wish fun _ _ => False
theorem Cx.Ok.wish {X : Cx} (ok : X.Ok) (E : Value → Shared → Prop) : (X.wish E).Ok :=
  ⟨ok.mod, ok.kind, ok.glob, ok.blt, ok.above, ok.inj, ok.has, ok.cab, ok.hd, ok.frames, ok.stk, ok.exf, ok.bs, ok.bsz, ok.noex, ok.exfs, ok.funs, ok.frf⟩
theorem Cx.Ok.unwish {X : Cx} {E : Value → Shared → Prop} (ok : (X.wish E).Ok) : X.Ok :=
  ⟨ok.mod, ok.kind, ok.glob, ok.blt, ok.above, ok.inj, ok.has, ok.cab, ok.hd, ok.frames, ok.stk, ok.exf, ok.bs, ok.bsz, ok.noex, ok.exfs, ok.funs, ok.frf⟩
section
variable {X : Cx} {pins : List (Addr × Obj)} {σ : St} {H : Hp} {s : Shared} {E : Value → Shared → Prop}
theorem Inv.wish (I : Inv X pins σ H s) (E : Value → Shared → Prop) : Inv (X.wish E) pins σ H s := ⟨I.ok.wish E, I.os, I.bare, I.base, I.loc, I.cell, I.free, I.freeC, I.pin, I.hok, I.len⟩
theorem Inv.unwish (I : Inv (X.wish E) pins σ H s) : Inv X pins σ H s := ⟨I.ok.unwish, I.os, I.bare, I.base, I.loc, I.cell, I.free, I.freeC, I.pin, I.hok, I.len⟩
theorem SP.unwish {D : Ends} {f : Flow} {s' : Shared} (h : SP (X.wish E) pins D f s') : SP X pins D f s' := by
  cases f with
  | next => obtain ⟨σ', H', I, q⟩ := h; exact ⟨σ', H', I.unwish, q⟩
  | brk => obtain ⟨σ', H', I, q⟩ := h; exact ⟨σ', H', I.unwish, q⟩
  | cont => obtain ⟨σ', H', I, q⟩ := h; exact ⟨σ', H', I.unwish, q⟩
  | ret u => obtain ⟨v, σ', H', I, r, q⟩ := h; exact ⟨v, σ', H', I.unwish, r, q⟩
theorem PE.nox {e : Expr} {t : TE} (h : PE X.nox e t) : PE X e t := fun pins s σ H Q I hw =>
  wpAny_mono (h pins s σ H Q (I.wish _) hw) (fun _ _ ⟨v, H', I', r, q⟩ => ⟨v, H', I'.unwish, r, q⟩) fun _ _ z => False.elim z
theorem PT.nox {e : Expr} {t : TT} (h : PT X.nox e t) : PT X e t := fun pins s σ H Q I hw =>
  wpAny_mono (h pins s σ H Q (I.wish _) hw) (fun _ _ ⟨H', I', q⟩ => ⟨H', I'.unwish, q⟩) fun _ _ z => False.elim z
theorem PSs.nox {st : List Stmt} {t : TS} (h : PSs X.nox st t) : PSs X st t := fun pins s σ H D I hw =>
  wpAny_mono (h pins s σ H D (I.wish _) hw) (fun _ _ q => q.unwish) fun _ _ z => False.elim z
end

/-! ### blocks and small statements -/
section
variable {X : Cx} {st : Stmt} {rest : List Stmt} {t u : TS} {e : Expr} {te : TE} {pos : Pos}
def tNext : TS := fun D σ H => D.nx σ H
def tSeq (t u : TS) : TS := fun D σ H => t { D with nx := u D } σ H
theorem pss_nil : PSs X [] tNext := fun _ _ σ H _ I h => wpAny_execs_nil ⟨σ, H, I, h⟩
theorem pss_cons (h1 : PS X st t) (h2 : PSs X rest u) : PSs X (st :: rest) (tSeq t u) := by
  intro pins s σ H D I h
  refine wpAny_execs_cons (thn (h1 pins s σ H { D with nx := u D } I h) fun f s1 q => ?_)
  cases f with
  | next =>
    obtain ⟨σ', H', I', q⟩ := q
    exact h2 pins s1 σ' H' D I' q
  | ret v => exact q
  | brk => exact q
  | cont => exact q
theorem pss_one (h1 : PS X st t) : PSs X [st] t := by
  intro pins s σ H D I h
  refine wpAny_execs_cons (thn (h1 pins s σ H D I h) fun f s1 q => ?_)
  cases f with
  | next => exact wpAny_execs_nil q
  | ret v => exact q
  | brk => exact q
  | cont => exact q
def tBreak : TS := fun D σ H => D.bk σ H
def tCont : TS := fun D σ H => D.ct σ H
theorem ps_pass : PS X (.Pass pos) tNext := fun _ _ σ H _ I h => wpAny_Pass ⟨σ, H, I, h⟩
theorem ps_break : PS X (.Break pos) tBreak := fun _ _ σ H _ I h => wpAny_Break ⟨σ, H, I, h⟩
theorem ps_continue : PS X (.Continue pos) tCont := fun _ _ σ H _ I h => wpAny_Continue ⟨σ, H, I, h⟩
/-- in a def's body nothing is shown -/
theorem Inv.quiet {pins : List (Addr × Obj)} {σ : St} {H : Hp} {s : Shared} (I : Inv X pins σ H s) : interactive X.env = false := by simp [interactive, I.ok.kind]
/-- a docstring -/
theorem ps_doc {x j pos pos'} : PS X (.Expr (.Constant (.str x) j pos) pos') tNext := fun _ s σ H _ I h => wpAny_Expr (Calls.Constant_str (show SP X _ _ .next { s with toks := s.toks + 1 } from ⟨σ, H, I.tok _, h⟩)) I.quiet
/-- an expression whose value is dropped -/
def tDrop (te : TE) : TS := fun D σ H => te σ H fun _ H1 => D.nx σ H1
theorem ps_expr (he : PE X e te) (hs : swapsWith e none pos.line X.env = pure false := by rfl) : PS X (.Expr e pos) (tDrop te) := by
  intro pins s σ H D I h
  exact wpAny_Expr_any (thn (he pins s σ H _ I h) fun v s1 ⟨x, H1, I1, r1, q1⟩ => ⟨σ, H1, I1, q1⟩) I.quiet hs
def tRet (te : TE) : TS := fun D σ H => te σ H D.rt
theorem ps_ret (he : PE X e te) : PS X (.Return (some e) pos) (tRet te) := by
  intro pins s σ H D I h
  exact wpAny_Return_some (thn (he pins s σ H _ I h) fun v s1 ⟨x, H1, I1, r1, q1⟩ => ⟨x, σ, H1, I1, r1, q1⟩)
def tRetN : TS := fun D _ H => D.rt .non H
theorem ps_retN : PS X (.Return none pos) tRetN := fun _ _ σ H _ I h => wpAny_Return_none ⟨.non, σ, H, I, rfl, h⟩
def tIfS (c : TT) (t u : TS) : TS := fun D σ H => c σ H fun b H1 => if b = true then t D σ H1 else u D σ H1
theorem ps_if {c : Expr} {a b : List Stmt} {tc : TT} (hc : PT X c tc) (ha : PSs X a t) (hb : PSs X b u) : PS X (.If c a b pos) (tIfS tc t u) := by
  intro pins s σ H D I h
  refine wpAny_If (thn (hc pins s σ H _ I h) fun d s1 ⟨H1, I1, q1⟩ => ?_)
  cases d with
  | true => exact ha pins s1 σ H1 D I1 q1
  | false => exact hb pins s1 σ H1 D I1 q1
/-- code that the proof never comes to -/
def tNever : TS := fun _ _ _ => False
theorem ps_never : PS X st tNever := fun _ _ _ _ _ _ h => h.elim
theorem pss_never {sts : List Stmt} : PSs X sts tNever := fun _ _ _ _ _ _ h => h.elim
end

/-! ### targets -/
abbrev TG := V → St → Hp → (St → Hp → Prop) → Prop
abbrev TGs := List V → St → Hp → (St → Hp → Prop) → Prop
def PG (X : Cx) (target : Expr) (t : TG) : Prop :=
  ∀ (pins : List (Addr × Obj)) (s : Shared) (σ : St) (H : Hp) (v : V) (u : Value) (Q : St → Hp → Prop), Inv X pins σ H s → RelV v u → t v σ H Q →
    wpAny (model X.prog X.w) X.A (assign target X.env u) (fun _ s' => ∃ σ' H', Inv X pins σ' H' s' ∧ Q σ' H') X.xe s
/-- several targets, one after another -/
def PGs (X : Cx) (ts : List Expr) (t : TGs) : Prop :=
  ∀ (pins : List (Addr × Obj)) (s : Shared) (σ : St) (H : Hp) (vs : List V) (us : List Value) (Q : St → Hp → Prop), Inv X pins σ H s → Vals vs us → t vs σ H Q →
    wpAny (model X.prog X.w) X.A (assignInOrder ((assignEach ts X.env).map (·.2)) us) (fun _ s' => ∃ σ' H', Inv X pins σ' H' s' ∧ Q σ' H') X.xe s
/-- o[i] = v, by values -/
abbrev TSet := V → V → V → Hp → (Hp → Prop) → Prop
def PSet (X : Cx) (t : TSet) : Prop :=
  ∀ (pins : List (Addr × Obj)) (s : Shared) (σ : St) (H : Hp) (o i v : V) (ov iv u : Value) (Q : Hp → Prop), Inv X pins σ H s → RelV o ov → RelV i iv → RelV v u → t o i v H Q →
    wpAny (model X.prog X.w) X.A (setItem ov iv u) (fun _ s' => ∃ H', Inv X pins σ H' s' ∧ Q H') X.xe s
/-- a op= b, by values -/
abbrev TIp := V → V → Hp → VK → Prop
def PIp (X : Cx) (op : Operator) (t : TIp) : Prop :=
  ∀ (pins : List (Addr × Obj)) (s : Shared) (σ : St) (H : Hp) (x y : V) (v u : Value) (Q : VK), Inv X pins σ H s → RelV x v → RelV y u → t x y H Q →
    wpAny (model X.prog X.w) X.A (inplaceOp op v u) (EP X pins σ Q) X.xe s
section
variable {X : Cx} {pos : Pos}
def gName (i : Nat) : TG := fun v σ H Q => Q (σ.set i (some v)) H
theorem pg_name {i : Nat} {x : Str} (hN : X.N.Nodup) (hi : X.N[i]? = some x) (hx : Loc X.env.scope x) (hf : X.fn x = true ∨ X.env.scope.names.lookup x = some .local := by first | exact .inl rfl | exact .inr rfl | assumption) : PG X (.Name x pos) (gName i) := by
  intro pins s σ H v u Q I r h
  exact wpAny_assign_Name (store_ok I hN hi hx r (fun s' I' => ⟨_, H, I', h⟩) hf)
def gNil : TGs := fun vs σ H Q => vs = [] ∧ Q σ H
def gCons (t : TG) (u : TGs) : TGs := fun vs σ H Q => ∃ v r, vs = v :: r ∧ t v σ H fun σ' H' => u r σ' H' Q
theorem pgs_nil : PGs X [] gNil := by
  intro pins s σ H vs us Q I r h
  obtain ⟨e, h⟩ := h
  subst e
  cases r
  exact assignInOrder_nil ⟨σ, H, I, h⟩
theorem pgs_cons {e : Expr} {es : List Expr} {t : TG} {u : TGs} (h1 : PG X e t) (h2 : PGs X es u)
    (hs : (assignEach (e :: es) X.env).map (·.2) = assign e X.env :: (assignEach es X.env).map (·.2) := by rfl) : PGs X (e :: es) (gCons t u) := by
  intro pins s σ H vs us Q I r h
  obtain ⟨v, vr, e1, h⟩ := h
  subst e1
  cases r with
  | cons r rr =>
    rw [hs]
    refine assignInOrder_cons (thn (h1 pins s σ H _ _ _ I r h) fun _ s1 ⟨σ1, H1, I1, q1⟩ => ?_)
    exact h2 pins s1 σ1 H1 _ _ Q I1 rr q1
/-- (a, b, ..) = a tuple of that length -/
def gTup (K : PySem.W.Frag) (n : Nat) (t : TGs) : TG := fun v σ H Q => ∃ a xs, v = .ref a ∧ SqT K H a xs ∧ xs.length = n ∧ t xs σ H Q
theorem pg_tup {es : List Expr} {k : Nat} {t : TGs} {n : Nat} (hc : X.calm = true) (h : PGs X es t)
    (hn : (assignEach es X.env).length = n := by rfl) (hst : (assignEach es X.env).findIdx? (·.1) = none := by rfl) : PG X (.Tuple es k pos) (gTup X.K n t) := by
  intro pins s σ H v u Q I r hw
  obtain ⟨a, xs, e1, hq, hl, hw⟩ := hw
  subst e1
  cases r
  obtain ⟨its, rv, ht, hz⟩ := I.tuple hq
  refine assign_Tuple_tuple (I.ok.hd hc) ht (by simp [hn, ← hl, rv.length]) hst fun h' hx => ?_
  have I1 : Inv X pins σ H { s with heap := h' } := I.kept (t' := s.toks) fun b o e => hx b o (Nat.ne_of_lt (Heap.lt_size e)) e
  exact h pins _ σ H xs _ Q I1 (by simpa using rv) hw
/-- o[i] = .. -/
def gSub (to ti : TE) (t : TSet) : TG := fun v σ H Q => to σ H fun o H1 => ti σ H1 fun i H2 => t o i v H2 fun H3 => Q σ H3
theorem pg_sub {o i : Expr} {to ti : TE} {t : TSet} (ho : PE X o to) (hi : PE X i ti) (hs : PSet X t)
    (ha : ∀ v, assign (.Subscript o i pos) X.env v = (do
      let ov ← holding [v] (eval o X.env)
      let iv ← holding [v, ov] (eval i X.env)
      standAt pos
      holding [v, ov, iv] (setItem ov iv v)
      release [v, ov, iv] []) := by intro _; rfl) : PG X (.Subscript o i pos) (gSub to ti t) := by
  intro pins s σ H v u Q I r h
  rw [ha]
  refine wpAny_bind (wpAny_holding (thn (ho pins s σ H _ I h) fun ov s1 ⟨x, H1, I1, r1, q1⟩ => ?_))
  refine wpAny_bind (wpAny_holding (thn (hi pins s1 σ H1 _ I1 q1) fun iv s2 ⟨y, H2, I2, r2, q2⟩ => ?_))
  refine wpAny_bind (wpAny_standAt (wpAny_bind (wpAny_holding (thn (hs pins s2 σ H2 x y v ov iv u _ I2 r1 r2 r q2) fun _ s3 ⟨H3, I3, q3⟩ => ?_))))
  exact wpAny_release ⟨σ, H3, I3, q3⟩
/-- target = value -/
def tAsg (te : TE) (g : TG) : TS := fun D σ H => te σ H fun x H1 => g x σ H1 D.nx
theorem ps_asg {tg e : Expr} {te : TE} {g : TG} (he : PE X e te) (hg : PG X tg g) (hs : swapsWithSole [tg] e pos.line X.env = pure false := by rfl) (hw : swappedStores [tg] e X.env = pure none := by rfl)
    (h1 : (assignEach [tg] X.env).map (·.2) = [assign tg X.env] := by rfl) : PS X (.Assign [tg] e pos) (tAsg te g) := by
  intro pins s σ H D I h
  refine wpAny_Assign_stores (thn (he pins s σ H _ I h) fun v s1 ⟨x, H1, I1, r1, q1⟩ => ?_) hs hw
  rw [h1]
  exact thn (hg pins s1 σ H1 x v _ I1 r1 q1) fun _ s2 q => q
/-- name = value -/
theorem ps_set {i : Nat} {x : Str} {e : Expr} {te : TE} {pos' : Pos} (hN : X.N.Nodup) (hi : X.N[i]? = some x) (hx : Loc X.env.scope x) (he : PE X e te) (hs : swapsWith e (some (.Name x pos')) pos.line X.env = pure false := by rfl) (hf : X.fn x = true ∨ X.env.scope.names.lookup x = some .local := by first | exact .inl rfl | exact .inr rfl | assumption) :
    PS X (.Assign [.Name x pos'] e pos) (tAsg te (gName i)) := by
  intro pins s σ H D I h
  refine wpAny_Assign_Name (thn (he pins s σ H _ I h) fun v s1 ⟨y, H1, I1, r1, q1⟩ => ?_) hs
  exact store_ok I1 hN hi hx r1 (fun s2 I2 => ⟨_, H1, I2, q1⟩) hf
/-- a, b = x, y with plain local names: stored from the right; the pair itself is not tracked (the opening rows as in PyProof/Rows/TupAssign.lean:23) -/
def tPar (i j : Nat) (ta : TA) : TS := fun D σ H => ta σ H fun vs H1 => ∃ v w, vs = [v, w] ∧ D.nx ((σ.set i (some v)).set j (some w)) H1
theorem ps_par {i j : Nat} {x y : Str} {a b : Expr} {ta : TA} {px py pt : Pos} {kt k2 pt2} (hc : X.calm = true) (hN : X.N.Nodup) (hi : X.N[i]? = some x) (hj : X.N[j]? = some y) (hij : i ≠ j)
    (hx : X.env.scope.names.lookup x = some .local) (hy : X.env.scope.names.lookup y = some .local) (ha : PA X [a, b] ta)
    (hw : swappedStores [.Tuple [.Name x px, .Name y py] kt pt] (.Tuple [a, b] k2 pt2) X.env = pure (some [x, y]))
    (hs : swapsWithSole [.Tuple [.Name x px, .Name y py] kt pt] (.Tuple [a, b] k2 pt2) pos.line X.env = pure false := by rfl) :
    PS X (.Assign [.Tuple [.Name x px, .Name y py] kt pt] (.Tuple [a, b] k2 pt2) pos) (tPar i j ta) := by
  intro pins s σ H D I h
  rw [exec_Assign_arm]
  refine wpAny_bind (wpAny_standAt ?_)
  rw [hs]
  refine wpAny_bind (wpAny_pure ?_)
  rw [if_neg (by decide)]
  refine wpAny_bind (Tuple_ (thn (ha _ pins s σ H _ I h) fun us s1 ⟨vs, H1, I1, r1, q1⟩ => ?_))
  obtain ⟨v, w, e1, q1⟩ := q1
  subst e1
  obtain ⟨u1, u2, rfl, rv, rw'⟩ : ∃ u1 u2, us = [u1, u2] ∧ RelV v u1 ∧ RelV w u2 := by
    cases r1 with
    | cons p q =>
      cases q with
      | cons p' q' =>
        cases q'
        exact ⟨_, _, rfl, p, p'⟩
  refine wpAny_newObj_type ?_ (by show 2 ≤ sizeLine; decide)
  have I2 : Inv X pins σ H1 { s1 with heap := s1.heap.push { cls := .type "tuple", data := .seq [u1, u2].toArray } } := I1.kept (t' := s1.toks) fun b o e => Heap.get?_push_of_some _ e
  rw [hw]
  refine wpAny_bind (wpAny_pure ?_)
  show wpAny (model X.prog X.w) X.A (do rule "assign.swapped-stores"; let items ← unpackItems (.ref s1.heap.objs.size) 2 none; assignInOrder [fun v => bindName X.env y v, fun v => bindName X.env x v] items.reverse; pure Flow.next) _ _ _
  refine wpAny_bind (wpAny_rule (wpAny_bind (unpackItems_tuple (items := #[u1, u2]) (I.ok.hd hc) (IsTup.new s1.heap _) fun h' hx' => ?_)))
  have I3 := I2.kept (h' := h') (t' := s1.toks) fun b o e => hx' b o (Nat.ne_of_lt (Heap.lt_size e)) e
  show wpAny _ _ (assignInOrder [fun v => bindName X.env y v, fun v => bindName X.env x v] [u2, u1] >>= fun _ => pure Flow.next) _ _ _
  refine wpAny_bind (assignInOrder_cons (wpAny_bindName (store_ok I3 hN hj (.inl hy) rw' (fun s2 I4 => ?_) (.inr hy))))
  refine assignInOrder_cons (wpAny_bindName (store_ok I4 hN hi (.inl hx) rv (fun s3 I5 => assignInOrder_nil (wpAny_pure ?_)) (.inr hx)))
  rw [List.set_comm _ _ (Ne.symm hij)] at I5
  exact ⟨_, H1, I5, q1⟩
/-- name op= e -/
def tAug (i : Nat) (te : TE) (ti : TIp) : TS := fun D σ H => ∃ x, σ[i]? = some (some x) ∧ te σ H fun y H1 => ti x y H1 fun z H2 => D.nx (σ.set i (some z)) H2
theorem ps_aug {i : Nat} {x : Str} {e : Expr} {te : TE} {op : Operator} {ti : TIp} {pos' : Pos} (hN : X.N.Nodup) (hi : X.N[i]? = some x) (hx : Loc X.env.scope x) (he : PE X e te) (ho : PIp X op ti) (hf : X.fn x = true ∨ X.env.scope.names.lookup x = some .local := by first | exact .inl rfl | exact .inr rfl | assumption) :
    PS X (.AugAssign (.Name x pos') op e pos) (tAug i te ti) := by
  intro pins s σ H D I h
  obtain ⟨v, e1, h⟩ := h
  obtain ⟨m, hn, hl⟩ := I.loc
  have vis : Vis X.env.scope x := by rcases hx with k | k; exact .inl k; exact .inr (.inl k)
  obtain ⟨u, r, l⟩ := hl i x v hi e1 vis
  refine wpAny_AugAssign_Name ?_
  have go : wpAny (model X.prog X.w) X.A (eval e X.env) (fun w s₂ => wpAny (model X.prog X.w) X.A (inplaceOp op u w) (fun r s₃ => wpAny (model X.prog X.w) X.A (storeName X.env x r) (fun _ => SP X pins D .next) X.xe s₃) X.xe s₂) X.xe s := by
    refine thn (he pins s σ H _ I h) fun w s1 ⟨y, H1, I1, r1, q1⟩ => ?_
    refine thn (ho pins s1 σ H1 v y u w _ I1 r r1 q1) fun z s2 ⟨zv, H2, I2, r2, q2⟩ => ?_
    exact store_ok I2 hN hi hx r2 (fun s3 I3 => ⟨_, H2, I3, q2⟩) hf
  rcases l with ⟨hk, hm⟩ | ⟨hk, c, hc, hcell⟩
  · exact wpAny_loadName_local I.ok.kind hk hn hm go
  · rcases hk with hk | hk
    · exact wpAny_loadName_cell I.ok.kind hk hc hcell go
    · rcases hx with k | k
      · have : X.env.scope.names.lookup x = some .free := hk
        rw [k] at this; cases this
      · have : X.env.scope.names.lookup x = some .free := hk
        rw [k] at this; cases this
/-- o[i] op= e -/
def tAugS (to ti te : TE) (tget : V → V → Hp → VK → Prop) (tip : TIp) (tset : TSet) : TS := fun D σ H => to σ H fun o H1 => ti σ H1 fun i H2 => tget o i H2 fun x H3 => te σ H3 fun y H4 => tip x y H4 fun z H5 => tset o i z H5 fun H6 => D.nx σ H6
/-- o[i], by values -/
def PGet (X : Cx) (t : V → V → Hp → VK → Prop) : Prop :=
  ∀ (pins : List (Addr × Obj)) (s : Shared) (σ : St) (H : Hp) (o i : V) (ov iv : Value) (Q : VK), Inv X pins σ H s → RelV o ov → RelV i iv → t o i H Q →
    wpAny (model X.prog X.w) X.A (getItem ov iv) (EP X pins σ Q) X.xe s
theorem ps_augS {o i e : Expr} {to ti te : TE} {tget : V → V → Hp → VK → Prop} {tip : TIp} {tset : TSet} {op : Operator} {tpos : Pos} (ho : PE X o to) (hi : PE X i ti) (hg : PGet X tget) (he : PE X e te) (hp : PIp X op tip) (hs : PSet X tset)
    (ha : ∀ ov iv new, augStore i ov iv new = (do holding [new, ov, iv] (setItem ov iv new); release [new, ov, iv] []; pure .next) := by intros; rfl) : PS X (.AugAssign (.Subscript o i tpos) op e pos) (tAugS to ti te tget tip tset) := by
  intro pins s σ H D I h
  refine wpAny_AugAssign_SubscriptAny (thn (ho pins s σ H _ I h) fun ov s1 ⟨x1, H1, I1, r1, q1⟩ => ?_) ha
  refine thn (hi pins s1 σ H1 _ I1 q1) fun iv s2 ⟨x2, H2, I2, r2, q2⟩ => ?_
  refine thn (hg pins s2 σ H2 x1 x2 ov iv _ I2 r1 r2 q2) fun old s3 ⟨x3, H3, I3, r3, q3⟩ => ?_
  refine thn (he pins s3 σ H3 _ I3 q3) fun v s4 ⟨x4, H4, I4, r4, q4⟩ => ?_
  refine thn (hp pins s4 σ H4 x3 x4 old v _ I4 r3 r4 q4) fun new s5 ⟨x5, H5, I5, r5, q5⟩ => ?_
  exact thn (hs pins s5 σ H5 x1 x2 x5 ov iv new _ I5 r1 r2 r5 q5) fun _ s6 ⟨H6, I6, q6⟩ => ⟨σ, H6, I6, q6⟩
/-- ints -/
def ipI (f : Int → Int → Int) : TIp := fun x y H Q => ∃ i j, x = .int i ∧ y = .int j ∧ Q (.int (f i j)) H
theorem ip_add : PIp X .Add (ipI fun i j => i + j) := by
  intro pins s σ H x y v u Q I r1 r2 h
  obtain ⟨i, j, e1, e2, q⟩ := h
  subst e1; subst e2
  obtain ⟨t, rfl⟩ := r1
  obtain ⟨t', rfl⟩ := r2
  exact iadd_int ⟨.int _, H, I.tok _, ⟨_, rfl⟩, q⟩
theorem ip_sub : PIp X .Sub (ipI fun i j => i - j) := by
  intro pins s σ H x y v u Q I r1 r2 h
  obtain ⟨i, j, e1, e2, q⟩ := h
  subst e1; subst e2
  obtain ⟨t, rfl⟩ := r1
  obtain ⟨t', rfl⟩ := r2
  exact isub_int ⟨.int _, H, I.tok _, ⟨_, rfl⟩, q⟩
end

/-! ### while -/
section
variable {X : Cx} {pos : Pos}
/-- the invariant W with its measure -/
def tWhile (c : TT) (tb : TS) : TS := fun D σ H => ∃ W : Nat → St → Hp → Prop, (∃ m, W m σ H) ∧ ∀ m σ H, W m σ H →
  c σ H fun b H1 => if b = true then ∃ N : St → Hp → Prop, (∀ σ' H', N σ' H' → ∃ m', m' < m ∧ W m' σ' H') ∧ tb { D with nx := N, ct := N, bk := D.nx } σ H1 else D.nx σ H1
theorem ps_while {c : Expr} {body : List Stmt} {tc : TT} {tb : TS} (hp : PassesOwn (model X.prog X.w) X.A X.env X.xe) (hc : PT X c tc) (hb : PSs X body tb) : PS X (.While c body [] pos) (tWhile tc tb) := by
  intro pins s σ H D I h
  obtain ⟨W, ⟨m0, w0⟩, turn⟩ := h
  refine wpAny_While (codeAny_whileLoop (fun n s' => ∃ σ' H', Inv X pins σ' H' s' ∧ W n σ' H') ?_ m0 ⟨σ, H, I, w0⟩)
  rintro n s1 ⟨σ1, H1, I1, w1⟩
  refine wpAny_passesOwn hp (thn (hc pins s1 σ1 H1 _ I1 (turn n σ1 H1 w1)) fun b s2 ⟨H2, I2, q2⟩ => ?_)
  cases b with
  | true =>
    obtain ⟨N, hN, q2⟩ := q2
    rw [if_pos rfl]
    refine wpAny_passesOwn hp (thn (hb pins s2 σ1 H2 _ I2 q2) fun f s3 q3 => ?_)
    cases f with
    | next =>
      obtain ⟨σ3, H3, I3, n3⟩ := q3
      obtain ⟨m', hm, w3⟩ := hN σ3 H3 n3
      exact ⟨m', hm, σ3, H3, I3, w3⟩
    | cont =>
      obtain ⟨σ3, H3, I3, n3⟩ := q3
      obtain ⟨m', hm, w3⟩ := hN σ3 H3 n3
      exact ⟨m', hm, σ3, H3, I3, w3⟩
    | brk => exact q3
    | ret v => exact q3
  | false =>
    rw [if_neg Bool.false_ne_true]
    exact wpAny_execs_nil ⟨σ1, H2, I2, q2⟩
end

/-! ### what a loop or a comprehension walks -/
/-- at turn i: it yields x (the heap may grow), or it stops -/
structure It where
  go : Nat → Hp → Prop
  yld : Nat → Hp → V → Hp → Prop
  stop : Nat → Hp → Prop
/-- the iterator's own objects may turn: they are not the frame's, not pinned, younger than the entry (or a comprehension's own) -/
def FpOk (X : Cx) (pins : List (Addr × Obj)) (H : Hp) (b : Addr) : Prop :=
  H b = none ∧ b ≠ X.env.locals ∧ b ∉ X.fs ∧ (b ∈ X.ex ∨ X.s₀.heap.objs.size ≤ b) ∧ (∀ x c, X.env.cells.lookup x = some c → c ≠ b) ∧ ∀ p ∈ X.pn ++ pins, p.1 ≠ b
theorem Inv.fpOk {X : Cx} {pins : List (Addr × Obj)} {σ : St} {H H' : Hp} {s : Shared} {b : Addr} (I : Inv X pins σ H s) (hb : s.heap.objs.size ≤ b) (hn : H' b = none) : FpOk X pins H' b := by
  refine ⟨hn, Nat.ne_of_gt (Nat.lt_of_lt_of_le I.lt hb), I.nofs hb, .inr (Nat.le_trans I.sz hb), fun x c e z => ?_, fun p hp z => ?_⟩
  · obtain ⟨v, q⟩ := I.cell x c e
    exact absurd (Nat.lt_of_lt_of_le q.lt (by rw [z]; exact hb)) (Nat.lt_irrefl _)
  · exact absurd (Nat.lt_of_lt_of_le (Heap.lt_size (I.pin p hp).1) (by rw [z]; exact hb)) (Nat.lt_irrefl _)
structure Turn (P : Program) (w : World) (K : PySem.W.Frag) (tg : Expr) (J : It) (fp : List Addr) (it : Addr) (tn : Nat → Heap → Prop) : Prop where
  mem : it ∈ fp
  obj : ∀ i h, tn i h → ∀ b ∈ fp, ∃ o, h.get? b = some o ∧ ∀ v, o.data ≠ .cell v
  keep : ∀ i h h', tn i h → (∀ b ∈ fp, ∀ o, h.get? b = some o → h'.get? b = some o) → tn i h'
  item : ∀ (X : Cx), X.prog = P → X.w = w → X.K = K → X.calm = true → ∀ (i : Nat) (pins : List (Addr × Obj)) (s : Shared) (σ : St) (H : Hp) (E : Value → Shared → Prop), Inv X pins σ H s → (∀ b ∈ fp, FpOk X pins H b) → tn i s.heap → J.go i H →
    wpAny (model P w) X.A (pyNext (.ref it)) (fun r s1 => ∃ u, r = some u ∧
      wpAny (model P w) X.A (letOwnedTupleGo tg (.ref it) u) (fun _ s2 => ∃ x H', Inv X pins σ H' s2 ∧ RelV x u ∧ J.yld i H x H' ∧ tn (i + 1) s2.heap ∧ ∀ b ∈ fp, H' b = none) E s1) E s
  done : ∀ (X : Cx), X.prog = P → X.w = w → X.K = K → X.calm = true → ∀ (i : Nat) (pins : List (Addr × Obj)) (s : Shared) (σ : St) (H : Hp) (E : Value → Shared → Prop), Inv X pins σ H s → (∀ b ∈ fp, FpOk X pins H b) → tn i s.heap → J.stop i H →
    wpAny (model P w) X.A (pyNext (.ref it)) (fun r s1 => r = none ∧ Inv X pins σ H s1) E s
  self : ∀ (A : Around) (i : Nat) (s : Shared) (Q : Value → Shared → Prop) (E : Value → Shared → Prop), tn i s.heap → Q (.ref it) s → wpAny (model P w) A (pyIter (.ref it)) Q E s
abbrev TI := St → Hp → (It → Hp → Prop) → Prop
/-- an iterator has come -/
def PIE (X : Cx) (pins : List (Addr × Obj)) (σ : St) (tg : Expr) (R : It → Hp → Prop) (itv : Value) (s2 : Shared) : Prop :=
  ∃ (it : Addr) (fp : List Addr) (tn : Nat → Heap → Prop) (J : It) (H' : Hp), itv = .ref it ∧ Inv X pins σ H' s2 ∧ Turn X.prog X.w X.K tg J fp it tn ∧ tn 0 s2.heap ∧ (∀ b ∈ fp, FpOk X pins H' b) ∧ R J H'
def PI (X : Cx) (tg iter : Expr) (wi : TI) : Prop :=
  ∀ (pins : List (Addr × Obj)) (s : Shared) (σ : St) (H : Hp) (R : It → Hp → Prop), Inv X pins σ H s → wi σ H R →
    wpAny (model X.prog X.w) X.A (eval iter X.env) (fun v s1 => wpAny (model X.prog X.w) X.A (pyIter v) (PIE X pins σ tg R) X.xe s1) X.xe s

/-- the step ahead of the store is nothing for an iterator that keeps no tuple -/
theorem go_of {M : Model} {A : Around} {E : Value → Shared → Prop} {s : Shared} {tg : Expr} {it : Addr} {u : Value} {o : Obj} {n : String} {vs : Array Value} {Q : Unit → Shared → Prop} (ho : s.heap.get? it = some o) (hc : o.cls = .type n) (hd : o.data = .fields vs)
    (hn : ["enumerate", "zip", "dict_itemiterator", "dict_reverseitemiterator", "odict_iterator", "itertools.zip_longest", "itertools.pairwise"].contains n = false) (hQ : Q () s) : wpAny M A (letOwnedTupleGo tg (.ref it) u) Q E s := by
  unfold letOwnedTupleGo
  cases tg <;> first
    | exact wpAny_pure hQ
    | (cases u <;> first
        | exact wpAny_pure hQ
        | (refine wpAny_bind (wpAny_load ho ?_)
           rw [hc, hd]
           show wpAny M A (if (["enumerate", "zip", "dict_itemiterator", "dict_reverseitemiterator", "odict_iterator", "itertools.zip_longest", "itertools.pairwise"].contains n && vs[0]? == some (rawInt _)) = true then _ else _) Q E s
           rw [if_neg (by intro h; rw [hn, Bool.false_and] at h; cases h)]
           exact wpAny_pure hQ))

/-- the list at a, as it stands at each turn (a loop may append to it) -/
def Itl (K : PySem.W.Frag) (a : Addr) : It :=
  ⟨fun i H => ∃ xs x, SqL K H a xs ∧ xs[i]? = some x, fun i H x H' => H' = H ∧ ∀ xs, SqL K H a xs → xs[i]? = some x, fun i H => ∃ xs, SqL K H a xs ∧ xs.length ≤ i⟩
def Itt (K : PySem.W.Frag) (a : Addr) : It :=
  ⟨fun i H => ∃ xs x, SqT K H a xs ∧ xs[i]? = some x, fun i H x H' => H' = H ∧ ∀ xs, SqT K H a xs → xs[i]? = some x, fun i H => ∃ xs, SqT K H a xs ∧ xs.length ≤ i⟩
/-- lo, lo + 1, .. (n of them) -/
def Itr (lo : Int) (n : Nat) : It := ⟨fun i _ => i < n, fun i H x H' => H' = H ∧ x = .int (lo + i), fun i _ => n ≤ i⟩
theorem turn_list {P : Program} {w : World} {K : PySem.W.Frag} {tg : Expr} (a it : Addr) : Turn P w K tg (Itl K a) [it] it (fun i h => h.IsListIter it a i) where
  mem := by simp
  obj := fun i h st b hb => by
    have e : b = it := by simpa using hb
    subst e
    obtain ⟨o, e, c, d⟩ := st
    exact ⟨o, e, fun v z => by rw [d] at z; cases z⟩
  keep := fun i h h' st k => st.at fun o e => k it (by simp) o e
  item := by
    intro X hP hw hK hc i pins s σ H E I hf st hg
    subst hP hw hK
    obtain ⟨xs, x, hq, hx⟩ := hg
    obtain ⟨its, rv, p, hz⟩ := I.list hq
    obtain ⟨u, hu, ru⟩ := rv.get hx
    obtain ⟨f0, f1, f2, f3, f4, f5⟩ := hf it (by simp)
    refine wpAny_pyNext_list_item st p.isList (x := u) (by simpa using hu) fun h' st' sb => ?_
    have I1 : Inv X pins σ H { s with heap := h' } := I.turned (t' := s.toks) (fun b o hb e => (sb.2 b hb).trans e) f0 f1 f3 f4 f5
    obtain ⟨o, e, c, d⟩ := id st'
    exact ⟨u, rfl, go_of (s := { s with heap := h' }) e c d (by decide) ⟨x, H, I1, ru, ⟨rfl, fun ys hy => by rw [I.list_inj hy hq]; exact hx⟩, st', fun b hb => (hf b hb).1⟩⟩
  done := by
    intro X hP hw hK hc i pins s σ H E I hf st hg
    subst hP hw hK
    obtain ⟨xs, hq, hx⟩ := hg
    obtain ⟨its, rv, p, hz⟩ := I.list hq
    obtain ⟨f0, f1, f2, f3, f4, f5⟩ := hf it (by simp)
    have hl := rv.length
    exact wpAny_pyNext_list_end (I.ok.hd hc) st p.isList (by simp; omega) fun h' eb => ⟨rfl, I.turned (t' := s.toks) (fun b o hb e => eb b o hb e) f0 f1 f3 f4 f5⟩
  self := fun _ _ _ _ _ st h => wpAny_pyIter_listiter st h
theorem turn_tuple {P : Program} {w : World} {K : PySem.W.Frag} {tg : Expr} (a it : Addr) : Turn P w K tg (Itt K a) [it] it (fun i h => h.IsTupleIter it a i) where
  mem := by simp
  obj := fun i h st b hb => by
    have e : b = it := by simpa using hb
    subst e
    obtain ⟨o, e, c, d⟩ := st
    exact ⟨o, e, fun v z => by rw [d] at z; cases z⟩
  keep := fun i h h' st k => st.at fun o e => k it (by simp) o e
  item := by
    intro X hP hw hK hc i pins s σ H E I hf st hg
    subst hP hw hK
    obtain ⟨xs, x, hq, hx⟩ := hg
    obtain ⟨its, rv, p, hz⟩ := I.tuple hq
    obtain ⟨u, hu, ru⟩ := rv.get hx
    obtain ⟨f0, f1, f2, f3, f4, f5⟩ := hf it (by simp)
    refine wpAny_pyNext_tuple_item st (show s.heap.IsTuple a its.toArray from p) (x := u) (by simpa using hu) fun h' st' sb => ?_
    have I1 : Inv X pins σ H { s with heap := h' } := I.turned (t' := s.toks) (fun b o hb e => (sb.2 b hb).trans e) f0 f1 f3 f4 f5
    obtain ⟨o, e, c, d⟩ := id st'
    exact ⟨u, rfl, go_of (s := { s with heap := h' }) e c d (by decide) ⟨x, H, I1, ru, ⟨rfl, fun ys hy => by rw [I.tuple_inj hy hq]; exact hx⟩, st', fun b hb => (hf b hb).1⟩⟩
  done := by
    intro X hP hw hK hc i pins s σ H E I hf st hg
    subst hP hw hK
    obtain ⟨xs, hq, hx⟩ := hg
    obtain ⟨its, rv, p, hz⟩ := I.tuple hq
    obtain ⟨f0, f1, f2, f3, f4, f5⟩ := hf it (by simp)
    have hl := rv.length
    exact wpAny_pyNext_tuple_end (I.ok.hd hc) st (show s.heap.IsTuple a its.toArray from p) (by simp; omega) fun h' eb => ⟨rfl, I.turned (t' := s.toks) (fun b o hb e => eb b o hb e) f0 f1 f3 f4 f5⟩
  self := fun _ _ _ _ _ st h => wpAny_pyIter_tupleiter st h
theorem turn_range {P : Program} {w : World} {K : PySem.W.Frag} {tg : Expr} (it : Addr) (lo : Int) (n : Nat) : Turn P w K tg (Itr lo n) [it] it (fun i h => IsRangeIter h it (lo + (i : Nat) * 1) ((n : Int) - (i : Nat)) 1) where
  mem := by simp
  obj := fun i h st b hb => by
    have e : b = it := by simpa using hb
    subst e
    exact ⟨_, st, fun v z => by
      have z' : Data.fields _ = Data.cell v := z
      cases z'⟩
  keep := fun i h h' st k => k it (by simp) _ st
  item := by
    intro X hP hw hK hc i pins s σ H E I hf st hg
    subst hP hw hK
    obtain ⟨f0, f1, f2, f3, f4, f5⟩ := hf it (by simp)
    have W := Walks.range (prog := X.prog) (w := X.w) (I.ok.hd hc) it lo 1 n
    refine W.item i s _ _ hg st fun v h' tk hv st' kk => ?_
    obtain ⟨t, rfl⟩ := hv
    have I1 : Inv X pins σ H { s with heap := h', toks := tk } := I.turned (fun b o hb e => kk b o (by simpa using hb) e) f0 f1 f3 f4 f5
    refine ⟨_, rfl, go_of (s := { s with heap := h', toks := tk }) (n := "range_iterator") st' rfl rfl (by decide) ⟨.int (lo + i), H, I1, ⟨t, ?_⟩, ⟨rfl, rfl⟩, st', fun b hb => (hf b hb).1⟩⟩
    rw [Int.mul_one]
  done := by
    intro X hP hw hK hc i pins s σ H E I hf st hg
    subst hP hw hK
    obtain ⟨f0, f1, f2, f3, f4, f5⟩ := hf it (by simp)
    exact wpAny_pyNext_range_end (I.ok.hd hc) st (by have : n ≤ i := hg; omega) fun h' eb => ⟨rfl, I.turned (t' := s.toks) (fun b o hb e => eb b o hb e) f0 f1 f3 f4 f5⟩
  self := fun _ _ _ _ _ st h => wpAny_pyIter_rangeiter st h
end L2

namespace L2
open PySem PySem.Spec PyProof.Rows
section
variable {X : Cx} {tg : Expr}
def iList (K : PySem.W.Frag) (tl : TE) : TI := fun σ H R => tl σ H fun x H1 => ∃ a, x = .ref a ∧ (∃ xs, SqL K H1 a xs) ∧ R (Itl K a) H1
def iTup (K : PySem.W.Frag) (tl : TE) : TI := fun σ H R => tl σ H fun x H1 => ∃ a, x = .ref a ∧ (∃ xs, SqT K H1 a xs) ∧ R (Itt K a) H1
theorem pi_list {l : Expr} {tl : TE} (hl : PE X l tl) : PI X tg l (iList X.K tl) := by
  intro pins s σ H R I h
  refine thn (hl pins s σ H _ I h) fun v s1 ⟨x, H1, I1, r1, q1⟩ => ?_
  obtain ⟨a, e, ⟨xs, hq⟩, q⟩ := q1
  subst e
  cases r1
  obtain ⟨its, rv, p, hz⟩ := I1.list hq
  refine wpAny_pyIter_list p.isList ?_
  refine ⟨s1.heap.objs.size, [s1.heap.objs.size], _, _, H1, rfl, I1.kept (t' := s1.toks) fun b o e => Heap.get?_push_of_some _ e, turn_list a _, ⟨_, Heap.get?_push_size _ rfl, rfl, rfl⟩, fun b hb => ?_, q⟩
  have e : b = s1.heap.objs.size := by simpa using hb
  subst e
  exact I1.fpOk (Nat.le_refl _) (I1.hok.fresh (Nat.le_refl _))
theorem pi_tup {l : Expr} {tl : TE} (hl : PE X l tl) : PI X tg l (iTup X.K tl) := by
  intro pins s σ H R I h
  refine thn (hl pins s σ H _ I h) fun v s1 ⟨x, H1, I1, r1, q1⟩ => ?_
  obtain ⟨a, e, ⟨xs, hq⟩, q⟩ := q1
  subst e
  cases r1
  obtain ⟨its, rv, p, hz⟩ := I1.tuple hq
  refine wpAny_pyIter_tuple (show s1.heap.IsTuple a its.toArray from p) ?_
  refine ⟨s1.heap.objs.size, [s1.heap.objs.size], _, _, H1, rfl, I1.kept (t' := s1.toks) fun b o e => Heap.get?_push_of_some _ e, turn_tuple a _, ⟨_, Heap.get?_push_size _ rfl, rfl, rfl⟩, fun b hb => ?_, q⟩
  have e : b = s1.heap.objs.size := by simpa using hb
  subst e
  exact I1.fpOk (Nat.le_refl _) (I1.hok.fresh (Nat.le_refl _))
/-- a range object just made, walked -/
theorem range_it {pins : List (Addr × Obj)} {σ : St} {H : Hp} {s : Shared} {R : It → Hp → Prop} {E : Value → Shared → Prop} {lo hi : Int} {t u v : Tok} {tk : Nat} (I : Inv X pins σ H s) (h1 : -(2 ^ 62) ≤ lo) (h2 : lo < 2 ^ 62) (h3 : -(2 ^ 62) ≤ hi) (h4 : hi < 2 ^ 62)
    (q : R (Itr lo (hi - lo).toNat) H) : wpAny (model X.prog X.w) X.A (pyIter (.ref s.heap.objs.size)) (PIE X pins σ tg R) E { s with heap := s.heap.push { cls := .type "range", data := .fields #[.int lo t, .int hi u, .int 1 v] }, toks := tk } := by
  refine wpAny_pyIter_range (IsRange.new ..) (small_one h1 h2 h3 h4) ?_
  have I1 : Inv X pins σ H { s with heap := s.heap.push { cls := .type "range", data := .fields #[.int lo t, .int hi u, .int 1 v] }, toks := tk } := I.kept fun b o e => Heap.get?_push_of_some _ e
  refine ⟨(s.heap.push { cls := .type "range", data := .fields #[.int lo t, .int hi u, .int 1 v] }).objs.size, [(s.heap.push { cls := .type "range", data := .fields #[.int lo t, .int hi u, .int 1 v] }).objs.size], _, _, H, rfl,
    I1.kept (t' := tk) fun b o e => Heap.get?_push_of_some _ e, turn_range _ lo (hi - lo).toNat, ?_, fun b hb => ?_, q⟩
  · have e1 : lo + ((0 : Nat) : Int) * 1 = lo := by simp
    have e2 : (((hi - lo).toNat : Nat) : Int) - ((0 : Nat) : Int) = Builtin.Range.rangeSize lo hi 1 := by rw [rangeSize_one]; split <;> omega
    show IsRangeIter _ _ (lo + ((0 : Nat) : Int) * 1) ((((hi - lo).toNat : Nat) : Int) - ((0 : Nat) : Int)) 1
    rw [e1, e2]
    exact Heap.get?_push_size _ rfl
  · have e : b = (s.heap.push { cls := .type "range", data := .fields #[.int lo t, .int hi u, .int 1 v] }).objs.size := by simpa using hb
    subst e
    exact I1.fpOk (Nat.le_refl _) (I1.hok.fresh (Nat.le_refl _))
def iRng1 (ta : TA) : TI := fun σ H R => ta σ H fun vs H1 => ∃ j : Int, vs = [.int j] ∧ -(2 ^ 62) ≤ j ∧ j < 2 ^ 62 ∧ R (Itr 0 j.toNat) H1
def iRng2 (ta : TA) : TI := fun σ H R => ta σ H fun vs H1 => ∃ i j : Int, vs = [.int i, .int j] ∧ (-(2 ^ 62) ≤ i ∧ i < 2 ^ 62 ∧ -(2 ^ 62) ≤ j ∧ j < 2 ^ 62) ∧ R (Itr i (j - i).toNat) H1
theorem pi_range1 {a : Expr} {ta : TA} {p pos : Pos} (hg : Gl X "range") (hm : X.mg "range" = none) (ha : PA X [a] ta) (hs : starEach [a] X.env = [(false, eval a X.env)] := by rfl) : PI X tg (.Call (.Name "range" p) [a] [] pos) (iRng1 ta) := by
  intro pins s σ H R I h
  refine Call_ (ld_blt I hg hm boot_range (PyProof.Rows.callWith_type1 (thn (ha pos pins s σ H _ I h) fun us s1 ⟨vs, H1, I1, r1, q1⟩ => ?_) hs rfl))
  obtain ⟨j, e, q1, q2, q⟩ := q1
  subst e
  cases r1 with
  | cons r rr =>
    cases rr
    obtain ⟨t, rfl⟩ := r
    exact call_range_1 (range_it I1 (by omega) (by omega) q1 q2 (by simpa using q))
theorem pi_range2 {a b : Expr} {ta : TA} {p pos : Pos} (hg : Gl X "range") (hm : X.mg "range" = none) (ha : PA X [a, b] ta) (hs : starEach [a, b] X.env = [(false, eval a X.env), (false, eval b X.env)] := by rfl) (hs2 : starEach [b] X.env = [(false, eval b X.env)] := by rfl) :
    PI X tg (.Call (.Name "range" p) [a, b] [] pos) (iRng2 ta) := by
  intro pins s σ H R I h
  refine Call_ (ld_blt I hg hm boot_range (PyProof.Rows.callWith_type1 (thn (ha pos pins s σ H _ I h) fun us s1 ⟨vs, H1, I1, r1, q1⟩ => ?_) (by rw [hs, hs2]) (by rw [hs2]; rfl)))
  obtain ⟨i, j, e, ⟨q1, q2, q3, q4⟩, q⟩ := q1
  subst e
  cases r1 with
  | cons r rr =>
    cases rr with
    | cons r' rr =>
      cases rr
      obtain ⟨t, rfl⟩ := r
      obtain ⟨t', rfl⟩ := r'
      exact call_range_2 (range_it I1 q1 q2 q3 q4 q)

/-! ### for -/
/-- W: the invariant by the turn and a measure; N: what the body is to reach -/
def tFor (wi : TI) (g : TG) (tb : TS) : TS := fun D σ H => wi σ H fun J H1 => ∃ W : Nat → Nat → St → Hp → Prop, (∃ m, W 0 m σ H1) ∧ ∀ i m σ H, W i m σ H →
  (J.stop i H ∧ D.nx σ H) ∨ (J.go i H ∧ ∃ N : St → Hp → Prop, (∀ σ' H', N σ' H' → ∃ m', m' < m ∧ W (i + 1) m' σ' H') ∧ ∀ x H', J.yld i H x H' → g x σ H' fun σ2 H2 => tb { D with nx := N, ct := N, bk := D.nx } σ2 H2)
/-- the records at fp as they stand -/
def pinsAt (fp : List Addr) (h : Heap) : List (Addr × Obj) := fp.filterMap fun b => (h.get? b).map fun o => (b, o)
theorem mem_pinsAt {fp : List Addr} {h : Heap} {b : Addr} {o : Obj} (hb : b ∈ fp) (e : h.get? b = some o) : (b, o) ∈ pinsAt fp h := List.mem_filterMap.mpr ⟨b, hb, by rw [e]; rfl⟩
theorem of_pinsAt {fp : List Addr} {h : Heap} {p : Addr × Obj} (hp : p ∈ pinsAt fp h) : p.1 ∈ fp ∧ h.get? p.1 = some p.2 := by
  obtain ⟨b, hb, e⟩ := List.mem_filterMap.mp hp
  cases q : h.get? b with
  | none => rw [q] at e; cases e
  | some o =>
    rw [q] at e
    have e' : (b, o) = p := Option.some.inj e
    subst e'
    exact ⟨hb, q⟩
theorem Inv.pinned {pins : List (Addr × Obj)} {σ : St} {H : Hp} {s : Shared} {fp : List Addr} (I : Inv X pins σ H s) (hf : ∀ b ∈ fp, FpOk X pins H b) (ho : ∀ b ∈ fp, ∃ o, s.heap.get? b = some o ∧ ∀ v, o.data ≠ .cell v) : Inv X (pins ++ pinsAt fp s.heap) σ H s :=
  I.pins_of fun p hp => (List.mem_append.mp hp).elim (fun z => I.pin p (List.mem_append_right _ z)) fun z => by
    obtain ⟨hb, e⟩ := of_pinsAt z
    obtain ⟨f0, f1, f2, _⟩ := hf p.1 hb
    obtain ⟨o, e', d⟩ := ho p.1 hb
    rw [e] at e'; cases e'
    exact ⟨e, f0, f1, f2, d⟩
theorem Inv.unpinned {pins pl : List (Addr × Obj)} {σ : St} {H : Hp} {s : Shared} (I : Inv X (pins ++ pl) σ H s) : Inv X pins σ H s := I.pins_of fun p hp => I.pin p (List.mem_append_right _ (List.mem_append_left _ hp))
theorem ps_for {iter : Expr} {body : List Stmt} {wi : TI} {g : TG} {tb : TS} {pos : Pos} (hp : PassesOwn (model X.prog X.w) X.A X.env X.xe) (hc : X.calm = true) (hi : PI X tg iter wi) (hg : PG X tg g) (hb : PSs X body tb)
    (hs : ∀ x, foldedSetIterable iter X.env x = pure x := by intro _; rfl) : PS X (.For tg iter body [] pos) (tFor wi g tb) := by
  intro pins s σ H D I h
  refine wpAny_For (thn (hi pins s σ H _ I h) fun v s1 h1 => thn h1 fun itv s2 h2 => ?_) hs
  obtain ⟨it, fp, tn, J, H2, e, I2, T, st2, f2, W, ⟨m0, w0⟩, turn⟩ := h2
  subst e
  -- what stays true of the iterator's objects through the loop
  have stat : ∀ {H' : Hp}, (∀ b ∈ fp, H' b = none) → ∀ b ∈ fp, FpOk X pins H' b := fun hn b hb => ⟨hn b hb, (f2 b hb).2⟩
  refine codeAny_forLoop_any (fun n s' => ∃ i σ' H', Inv X pins σ' H' s' ∧ tn i s'.heap ∧ (∀ b ∈ fp, H' b = none) ∧ W i n σ' H') ?_ m0 ⟨0, σ, H2, I2, st2, fun b hb => (f2 b hb).1, w0⟩
  rintro n s3 ⟨i, σ3, H3, I3, st3, fr3, w3⟩
  rcases turn i n σ3 H3 w3 with ⟨stop, qn⟩ | ⟨go, N, hN, step⟩
  · refine wpAny_passesOwn hp (thn (T.done X rfl rfl rfl hc i pins s3 σ3 H3 X.xe I3 (stat fr3) st3 stop) fun r s4 ⟨hr, I4⟩ => ?_)
    subst hr
    exact wpAny_execs_nil ⟨σ3, H3, I4, qn⟩
  · refine wpAny_passesOwn hp (thn (T.item X rfl rfl rfl hc i pins s3 σ3 H3 X.xe I3 (stat fr3) st3 go) fun r s4 ⟨u, hr, h4⟩ => ?_)
    subst hr
    refine wpAny_passesOwn hp (thn h4 fun _ s5 ⟨x, H5, I5, r5, y5, st5, fr5⟩ => ?_)
    have I5' := I5.pinned (stat fr5) (T.obj _ _ st5)
    refine wpAny_passesOwn hp (thn (hg _ s5 σ3 H5 x u _ I5' r5 (step x H5 y5)) fun _ s6 ⟨σ6, H6, I6, q6⟩ => ?_)
    refine wpAny_passesOwn hp (thn (hb _ s6 σ6 H6 _ I6 q6) fun f s7 q7 => ?_)
    have again : ∀ {σ7 : St} {H7 : Hp}, Inv X (pins ++ pinsAt fp s5.heap) σ7 H7 s7 → N σ7 H7 → ∃ m, m < n ∧ ∃ i σ' H', Inv X pins σ' H' s7 ∧ tn i s7.heap ∧ (∀ b ∈ fp, H' b = none) ∧ W i m σ' H' := fun {σ7 H7} I7 n7 => by
      obtain ⟨m', hm, w7⟩ := hN σ7 H7 n7
      refine ⟨m', hm, i + 1, σ7, H7, I7.unpinned, T.keep _ _ _ st5 fun b hb o e => (I7.pin (b, o) (List.mem_append_right _ (List.mem_append_right _ (mem_pinsAt hb e)))).1, fun b hb => ?_, w7⟩
      obtain ⟨o, e, d⟩ := T.obj _ _ st5 b hb
      exact (I7.pin (b, o) (List.mem_append_right _ (List.mem_append_right _ (mem_pinsAt hb e)))).2.1
    cases f with
    | next => obtain ⟨σ7, H7, I7, n7⟩ := q7; exact again I7 n7
    | cont => obtain ⟨σ7, H7, I7, n7⟩ := q7; exact again I7 n7
    | brk => obtain ⟨σ7, H7, I7, q7⟩ := q7; exact ⟨σ7, H7, I7.unpinned, q7⟩
    | ret v => obtain ⟨x7, σ7, H7, I7, r7, q7⟩ := q7; exact ⟨x7, σ7, H7, I7.unpinned, r7, q7⟩
end

/-! ### the forms one uses -/
/-- over a list that the body leaves as it is -/
theorem for_list {K : PySem.W.Frag} {a : Addr} {xs : List V} {g : TG} {tb : TS} {D : Ends} {σ : St} {H : Hp} (Pv : Nat → St → Hp → Prop) (h0 : Pv 0 σ H) (hl : ∀ i σ H, i ≤ xs.length → Pv i σ H → SqL K H a xs)
    (hs : ∀ i x σ H, xs[i]? = some x → Pv i σ H → g x σ H fun σ2 H2 => tb { D with nx := Pv (i + 1), ct := Pv (i + 1), bk := D.nx } σ2 H2) (hd : ∀ σ H, Pv xs.length σ H → D.nx σ H) :
    ∃ W : Nat → Nat → St → Hp → Prop, (∃ m, W 0 m σ H) ∧ ∀ i m σ H, W i m σ H →
      ((Itl K a).stop i H ∧ D.nx σ H) ∨ ((Itl K a).go i H ∧ ∃ N : St → Hp → Prop, (∀ σ' H', N σ' H' → ∃ m', m' < m ∧ W (i + 1) m' σ' H') ∧ ∀ x H', (Itl K a).yld i H x H' → g x σ H' fun σ2 H2 => tb { D with nx := N, ct := N, bk := D.nx } σ2 H2) := by
  refine ⟨fun i m σ H => m = xs.length - i ∧ i ≤ xs.length ∧ Pv i σ H, ⟨xs.length, by simp, Nat.zero_le _, h0⟩, ?_⟩
  rintro i m σ H ⟨rfl, hi, p⟩
  have q := hl i σ H hi p
  by_cases hlt : i < xs.length
  · refine .inr ⟨⟨xs, xs[i], q, by simp [hlt]⟩, Pv (i + 1), fun σ' H' p' => ⟨xs.length - (i + 1), by omega, rfl, hlt, p'⟩, fun x H' y => ?_⟩
    obtain ⟨e, y⟩ := y
    subst e
    exact hs i x σ _ (y xs q) p
  · have e : i = xs.length := by omega
    subst e
    exact .inl ⟨⟨xs, q, Nat.le_refl _⟩, hd σ H p⟩
theorem for_tup {K : PySem.W.Frag} {a : Addr} {xs : List V} {g : TG} {tb : TS} {D : Ends} {σ : St} {H : Hp} (Pv : Nat → St → Hp → Prop) (h0 : Pv 0 σ H) (hl : ∀ i σ H, i ≤ xs.length → Pv i σ H → SqT K H a xs)
    (hs : ∀ i x σ H, xs[i]? = some x → Pv i σ H → g x σ H fun σ2 H2 => tb { D with nx := Pv (i + 1), ct := Pv (i + 1), bk := D.nx } σ2 H2) (hd : ∀ σ H, Pv xs.length σ H → D.nx σ H) :
    ∃ W : Nat → Nat → St → Hp → Prop, (∃ m, W 0 m σ H) ∧ ∀ i m σ H, W i m σ H →
      ((Itt K a).stop i H ∧ D.nx σ H) ∨ ((Itt K a).go i H ∧ ∃ N : St → Hp → Prop, (∀ σ' H', N σ' H' → ∃ m', m' < m ∧ W (i + 1) m' σ' H') ∧ ∀ x H', (Itt K a).yld i H x H' → g x σ H' fun σ2 H2 => tb { D with nx := N, ct := N, bk := D.nx } σ2 H2) := by
  refine ⟨fun i m σ H => m = xs.length - i ∧ i ≤ xs.length ∧ Pv i σ H, ⟨xs.length, by simp, Nat.zero_le _, h0⟩, ?_⟩
  rintro i m σ H ⟨rfl, hi, p⟩
  have q := hl i σ H hi p
  by_cases hlt : i < xs.length
  · refine .inr ⟨⟨xs, xs[i], q, by simp [hlt]⟩, Pv (i + 1), fun σ' H' p' => ⟨xs.length - (i + 1), by omega, rfl, hlt, p'⟩, fun x H' y => ?_⟩
    obtain ⟨e, y⟩ := y
    subst e
    exact hs i x σ _ (y xs q) p
  · have e : i = xs.length := by omega
    subst e
    exact .inl ⟨⟨xs, q, Nat.le_refl _⟩, hd σ H p⟩
theorem for_range {lo : Int} {n : Nat} {g : TG} {tb : TS} {D : Ends} {σ : St} {H : Hp} (Pv : Nat → St → Hp → Prop) (h0 : Pv 0 σ H)
    (hs : ∀ i σ H, i < n → Pv i σ H → g (.int (lo + i)) σ H fun σ2 H2 => tb { D with nx := Pv (i + 1), ct := Pv (i + 1), bk := D.nx } σ2 H2) (hd : ∀ σ H, Pv n σ H → D.nx σ H) :
    ∃ W : Nat → Nat → St → Hp → Prop, (∃ m, W 0 m σ H) ∧ ∀ i m σ H, W i m σ H →
      ((Itr lo n).stop i H ∧ D.nx σ H) ∨ ((Itr lo n).go i H ∧ ∃ N : St → Hp → Prop, (∀ σ' H', N σ' H' → ∃ m', m' < m ∧ W (i + 1) m' σ' H') ∧ ∀ x H', (Itr lo n).yld i H x H' → g x σ H' fun σ2 H2 => tb { D with nx := N, ct := N, bk := D.nx } σ2 H2) := by
  refine ⟨fun i m σ H => m = n - i ∧ i ≤ n ∧ Pv i σ H, ⟨n, by simp, Nat.zero_le _, h0⟩, ?_⟩
  rintro i m σ H ⟨rfl, hi, p⟩
  by_cases hlt : i < n
  · refine .inr ⟨hlt, Pv (i + 1), fun σ' H' p' => ⟨n - (i + 1), by omega, rfl, hlt, p'⟩, fun x H' y => ?_⟩
    obtain ⟨e, y⟩ := y
    subst e y
    exact hs i σ _ hlt p
  · have e : i = n := by omega
    subst e
    exact .inl ⟨Nat.le_refl _, hd σ H p⟩
/-- while, by a word and a measure of the state -/
theorem while_by {c : TT} {tb : TS} {D : Ends} {σ : St} {H : Hp} (Pv : St → Hp → Prop) (μ : St → Hp → Nat) (h0 : Pv σ H)
    (hs : ∀ σ H, Pv σ H → c σ H fun b H1 => if b = true then tb { D with nx := fun σ' H' => Pv σ' H' ∧ μ σ' H' < μ σ H, ct := fun σ' H' => Pv σ' H' ∧ μ σ' H' < μ σ H, bk := D.nx } σ H1 else D.nx σ H1)
    (mono : ∀ σ H Q Q', (∀ b H1, Q b H1 → Q' b H1) → c σ H Q → c σ H Q') : tWhile c tb D σ H := by
  refine ⟨fun m σ H => m = μ σ H ∧ Pv σ H, ⟨_, rfl, h0⟩, ?_⟩
  rintro m σ H ⟨rfl, p⟩
  refine mono σ H _ _ (fun b H1 q => ?_) (hs σ H p)
  cases b with
  | true => exact ⟨_, fun σ' H' ⟨p', l⟩ => ⟨_, l, rfl, p'⟩, q⟩
  | false => exact q
end L2

namespace L2
open PySem PySem.Spec PyProof.Rows

abbrev R2 := V → V → Hp → VK → Prop
/-- a two-place operation on values: f is binaryOp op, inplaceOp op or compareOp op -/
def OpR (X : Cx) (f : Value → Value → Sem Value) (r : R2) : Prop :=
  ∀ (pins : List (Addr × Obj)) (s : Shared) (σ : St) (H : Hp) (x y : V) (v u : Value) (Q : VK), Inv X pins σ H s → RelV x v → RelV y u → r x y H Q →
    wpAny (model X.prog X.w) X.A (f v u) (EP X pins σ Q) X.xe s
/-- a one-place operation -/
def UnR (X : Cx) (f : Value → Sem Value) (r : V → Hp → VK → Prop) : Prop :=
  ∀ (pins : List (Addr × Obj)) (s : Shared) (σ : St) (H : Hp) (x : V) (v : Value) (Q : VK), Inv X pins σ H s → RelV x v → r x H Q →
    wpAny (model X.prog X.w) X.A (f v) (EP X pins σ Q) X.xe s
/-- a call of a value that is known (a builtin, a type) with values -/
def CallR (X : Cx) (f : Value) (r : List V → Hp → VK → Prop) : Prop :=
  ∀ (pins : List (Addr × Obj)) (s : Shared) (σ : St) (H : Hp) (xs : List V) (us : List Value) (Q : VK), Inv X pins σ H s → Vals xs us → r xs H Q →
    wpAny (model X.prog X.w) X.A (call f us) (EP X pins σ Q) X.xe s
/-- a value's truth -/
def TruR (X : Cx) (r : V → Hp → (Bool → Hp → Prop) → Prop) : Prop :=
  ∀ (pins : List (Addr × Obj)) (s : Shared) (σ : St) (H : Hp) (x : V) (v : Value) (Q : Bool → Hp → Prop), Inv X pins σ H s → RelV x v → r x H Q →
    wpAny (model X.prog X.w) X.A (truthy v) (TP X pins σ Q) X.xe s

def tOp (r : R2) (ta tb : TE) : TE := fun σ H Q => ta σ H fun x H1 => tb σ H1 fun y H2 => r x y H2 Q
def tUn (r : V → Hp → VK → Prop) (ta : TE) : TE := fun σ H Q => ta σ H fun x H1 => r x H1 Q
/-- ints in, under C, and a value out -/
def rI (C : Int → Int → Prop) (g : Int → Int → V) : R2 := fun x y H Q => ∃ i j, x = .int i ∧ y = .int j ∧ C i j ∧ Q (g i j) H
def rI0 (g : Int → Int → V) : R2 := fun x y H Q => ∃ i j, x = .int i ∧ y = .int j ∧ Q (g i j) H
def rU (g : Int → V) : V → Hp → VK → Prop := fun x H Q => ∃ i, x = .int i ∧ Q (g i) H

section
variable {X : Cx} {a b c : Expr} {ta tb tc : TE} {pos : Pos}

theorem binT (ha : PE X a ta) (hb : PE X b tb) {pins : List (Addr × Obj)} {s : Shared} {σ : St} {H : Hp} {R : V → V → Hp → Prop} (I : Inv X pins σ H s)
    (h : ta σ H fun x H1 => tb σ H1 fun y H2 => R x y H2) {Q : Value → Shared → Prop} {f : Value → Value → Sem Value}
    (hf : ∀ v u s2 x y H2, Inv X pins σ H2 s2 → RelV x v → RelV y u → R x y H2 → wpAny (model X.prog X.w) X.A (f v u) Q X.xe s2) :
    wpAny (model X.prog X.w) X.A (eval a X.env) (fun v s₁ => wpAny (model X.prog X.w) X.A (eval b X.env) (fun u s₂ => wpAny (model X.prog X.w) X.A (f v u) Q X.xe s₂) X.xe s₁) X.xe s := by
  refine thn (ha pins s σ H _ I h) fun v s1 ⟨x, H1, I1, r1, q1⟩ => ?_
  refine thn (hb pins s1 σ H1 _ I1 q1) fun u s2 ⟨y, H2, I2, r2, q2⟩ => ?_
  exact hf v u s2 x y H2 I2 r1 r2 q2

theorem pe_op {op : Operator} {r : R2} (ho : OpR X (binaryOp op) r) (ha : PE X a ta) (hb : PE X b tb) : PE X (.BinOp a op b pos) (tOp r ta tb) := by
  intro pins s σ H Q I h
  exact wpAny_BinOp (binT ha hb I h fun v u s2 x y H2 I2 rx ry q => ho pins s2 σ H2 x y v u Q I2 rx ry q)
theorem pe_un {op : UnaryOp} {r : V → Hp → VK → Prop} (ho : UnR X (unaryOp op) r) (ha : PE X a ta) : PE X (.UnaryOp op a pos) (tUn r ta) := by
  intro pins s σ H Q I h
  exact UnaryOp_ (thn (ha pins s σ H _ I h) fun v s1 ⟨x, H1, I1, r1, q1⟩ => ho pins s1 σ H1 x v Q I1 r1 q1)
/-- a op= e at a name: the name's slot i -/
theorem augR {op : Operator} {r : R2} (ho : OpR X (inplaceOp op) r) {pins : List (Addr × Obj)} {s : Shared} {σ : St} {H : Hp} {x y : V} {v u : Value} {Q : VK} (I : Inv X pins σ H s)
    (rx : RelV x v) (ry : RelV y u) (q : r x y H Q) : wpAny (model X.prog X.w) X.A (inplaceOp op v u) (EP X pins σ Q) X.xe s := ho pins s σ H x y v u Q I rx ry q

/-! ### ints -/
theorem opI {f : Value → Value → Sem Value} {C : Int → Int → Prop} {g : Int → Int → Int}
    (rule : ∀ (i j : Int) (t u : Tok) (s : Shared) (Q : Value → Shared → Prop) (E : Value → Shared → Prop), C i j → Q (.int (g i j) s.toks) { s with toks := s.toks + 1 } → wpAny (model X.prog X.w) X.A (f (.int i t) (.int j u)) Q E s) :
    OpR X f (rI C fun i j => .int (g i j)) := by
  intro pins s σ H x y v u Q I rx ry h
  obtain ⟨i, j, rfl, rfl, hc, q⟩ := h
  obtain ⟨t, rfl⟩ := rx
  obtain ⟨t', rfl⟩ := ry
  exact rule i j t t' s _ _ hc ⟨.int (g i j), H, I.tok _, ⟨_, rfl⟩, q⟩
theorem opI0 {f : Value → Value → Sem Value} {g : Int → Int → Int}
    (rule : ∀ (i j : Int) (t u : Tok) (s : Shared) (Q : Value → Shared → Prop) (E : Value → Shared → Prop), Q (.int (g i j) s.toks) { s with toks := s.toks + 1 } → wpAny (model X.prog X.w) X.A (f (.int i t) (.int j u)) Q E s) :
    OpR X f (rI0 fun i j => .int (g i j)) := by
  intro pins s σ H x y v u Q I rx ry h
  obtain ⟨i, j, rfl, rfl, q⟩ := h
  obtain ⟨t, rfl⟩ := rx
  obtain ⟨t', rfl⟩ := ry
  exact rule i j t t' s _ _ ⟨.int (g i j), H, I.tok _, ⟨_, rfl⟩, q⟩
theorem opB0 {f : Value → Value → Sem Value} {g : Int → Int → Bool}
    (rule : ∀ (i j : Int) (t u : Tok) (s : Shared) (Q : Value → Shared → Prop) (E : Value → Shared → Prop), Q (.bool (g i j)) s → wpAny (model X.prog X.w) X.A (f (.int i t) (.int j u)) Q E s) :
    OpR X f (rI0 fun i j => .bl (g i j)) := by
  intro pins s σ H x y v u Q I rx ry h
  obtain ⟨i, j, rfl, rfl, q⟩ := h
  obtain ⟨t, rfl⟩ := rx
  obtain ⟨t', rfl⟩ := ry
  exact rule i j t t' s _ _ ⟨.bl (g i j), H, I, rfl, q⟩

def CDiv (i j : Int) : Prop := 0 < j ∧ j < 1073741824
def CDivN (i j : Int) : Prop := j ≠ 0 ∧ j.natAbs < 1073741824
def CPow (i j : Int) : Prop := 0 ≤ j ∧ j ≤ 1000000 ∧ i.natAbs < 2 ^ 64
def CMul (i j : Int) : Prop := (-(2 ^ 64) < i ∧ i < 2 ^ 64) ∨ (-(2 ^ 64) < j ∧ j < 2 ^ 64)
theorem CMul.ok {i j : Int} (h : CMul i j) : IntMulOk i j := by
  rcases h with ⟨h1, h2⟩ | ⟨h1, h2⟩
  · exact .of_left (intBits_le_64 h1 h2)
  · exact .of_right (intBits_le_64 h1 h2)
theorem two_pow_nn (k : Nat) : (0 : Int) ≤ 2 ^ k := by
  rw [two_pow_cast]
  exact Int.natCast_nonneg _

theorem op_add : OpR X (binaryOp .Add) (rI0 fun i j => .int (i + j)) := opI0 fun _ _ _ _ _ _ _ q => add_int q
theorem op_sub : OpR X (binaryOp .Sub) (rI0 fun i j => .int (i - j)) := opI0 fun _ _ _ _ _ _ _ q => sub_int q
theorem op_mul : OpR X (binaryOp .Mult) (rI CMul fun i j => .int (i * j)) := opI fun _ _ _ _ _ _ _ hc q => mul_int q hc.ok
/-- // by a positive divisor -/
theorem op_fdiv : OpR X (binaryOp .FloorDiv) (rI CDiv fun i j => .int (i / j)) := opI fun i j _ _ _ _ _ hc q => by
  have h1 : (0 : Int) < j := hc.1
  have h2 : j < 1073741824 := hc.2
  exact floordiv_int (by omega) (by rw [Int.fdiv_eq_ediv_of_nonneg i (by omega)]; exact q) (.inl (PyProof.noPylong_small (by omega)))
theorem op_fdivN : OpR X (binaryOp .FloorDiv) (rI CDivN fun i j => .int (i.fdiv j)) := opI fun _ _ _ _ _ _ _ hc q => floordiv_int hc.1 q (.inl (PyProof.noPylong_small hc.2))
/-- % by a positive divisor of any size -/
theorem op_mod : OpR X (binaryOp .Mod) (rI (fun _ j => 0 < j) fun i j => .int (i % j)) := opI fun i j _ _ _ _ _ hc q => by
  have h1 : (0 : Int) < j := hc
  exact mod_int' (by omega) (by rw [Int.fmod_eq_emod_of_nonneg i (by omega)]; exact q)
theorem op_modN : OpR X (binaryOp .Mod) (rI (fun _ j => j ≠ 0) fun i j => .int (i.fmod j)) := opI fun _ _ _ _ _ _ _ hc q => mod_int' hc q
theorem op_pow : OpR X (binaryOp .Pow) (rI CPow fun i j => .int (i ^ j.toNat)) := opI fun _ _ _ _ _ _ _ hc q => pow_int_small hc.1 hc.2.1 hc.2.2 q
theorem op_shl : OpR X (binaryOp .LShift) (rI CPow fun i j => .int (i * 2 ^ j.toNat)) := opI fun _ _ _ _ _ _ _ hc q => lshift_int_small hc.1 hc.2.1 hc.2.2 q
theorem op_shr : OpR X (binaryOp .RShift) (rI (fun _ j => 0 ≤ j) fun i j => .int (i / 2 ^ j.toNat)) := opI fun i j _ _ _ _ _ hc q =>
  rshift_int hc (by rw [Int.fdiv_eq_ediv_of_nonneg i (two_pow_nn _)]; exact q)
theorem op_and : OpR X (binaryOp .BitAnd) (rI0 fun i j => .int (Builtin.bitAnd i j)) := opI0 fun _ _ _ _ _ _ _ q => and_int q
theorem op_or : OpR X (binaryOp .BitOr) (rI0 fun i j => .int (Builtin.bitOr i j)) := opI0 fun _ _ _ _ _ _ _ q => or_int q
theorem op_xor : OpR X (binaryOp .BitXor) (rI0 fun i j => .int (Builtin.bitXor i j)) := opI0 fun _ _ _ _ _ _ _ q => xor_int q

theorem iop_add : OpR X (inplaceOp .Add) (rI0 fun i j => .int (i + j)) := opI0 fun _ _ _ _ _ _ _ q => iadd_int q
theorem iop_sub : OpR X (inplaceOp .Sub) (rI0 fun i j => .int (i - j)) := opI0 fun _ _ _ _ _ _ _ q => isub_int q
theorem iop_mul : OpR X (inplaceOp .Mult) (rI CMul fun i j => .int (i * j)) := opI fun _ _ _ _ _ _ _ hc q => imul_int q hc.ok
theorem iop_fdiv : OpR X (inplaceOp .FloorDiv) (rI CDiv fun i j => .int (i / j)) := opI fun i j _ _ _ _ _ hc q => by
  have h1 : (0 : Int) < j := hc.1
  have h2 : j < 1073741824 := hc.2
  exact ifloordiv_int (by omega) (by rw [Int.fdiv_eq_ediv_of_nonneg i (by omega)]; exact q) (.inl (PyProof.noPylong_small (by omega)))
theorem iop_mod : OpR X (inplaceOp .Mod) (rI (fun _ j => 0 < j) fun i j => .int (i % j)) := opI fun i j _ _ _ _ _ hc q => by
  have h1 : (0 : Int) < j := hc
  exact imod_int (by omega) (by rw [Int.fmod_eq_emod_of_nonneg i (by omega)]; exact q)
theorem iop_shl : OpR X (inplaceOp .LShift) (rI CPow fun i j => .int (i * 2 ^ j.toNat)) := opI fun _ _ _ _ _ _ _ hc q => ilshift_int_small hc.1 hc.2.1 hc.2.2 q
theorem iop_shr : OpR X (inplaceOp .RShift) (rI (fun _ j => 0 ≤ j) fun i j => .int (i / 2 ^ j.toNat)) := opI fun i j _ _ _ _ _ hc q =>
  irshift_int hc (by rw [Int.fdiv_eq_ediv_of_nonneg i (two_pow_nn _)]; exact q)
theorem iop_and : OpR X (inplaceOp .BitAnd) (rI0 fun i j => .int (Builtin.bitAnd i j)) := opI0 fun _ _ _ _ _ _ _ q => iand_int q
theorem iop_or : OpR X (inplaceOp .BitOr) (rI0 fun i j => .int (Builtin.bitOr i j)) := opI0 fun _ _ _ _ _ _ _ q => ior_int q
theorem iop_xor : OpR X (inplaceOp .BitXor) (rI0 fun i j => .int (Builtin.bitXor i j)) := opI0 fun _ _ _ _ _ _ _ q => ixor_int q

theorem unI {f : Value → Sem Value} {g : Int → Int}
    (rule : ∀ (i : Int) (t : Tok) (s : Shared) (Q : Value → Shared → Prop) (E : Value → Shared → Prop), Q (.int (g i) s.toks) { s with toks := s.toks + 1 } → wpAny (model X.prog X.w) X.A (f (.int i t)) Q E s) :
    UnR X f (rU fun i => .int (g i)) := by
  intro pins s σ H x v Q I rx h
  obtain ⟨i, rfl, q⟩ := h
  obtain ⟨t, rfl⟩ := rx
  exact rule i t s _ _ ⟨.int (g i), H, I.tok _, ⟨_, rfl⟩, q⟩
theorem un_neg : UnR X (unaryOp .USub) (rU fun i => .int (-i)) := unI fun _ _ _ _ _ q => neg_int q
theorem un_inv : UnR X (unaryOp .Invert) (rU fun i => .int (Builtin.bitNot i)) := unI fun _ _ _ _ _ q => invert_int q

/-! ### bools among ints: n += (a < b) -/
theorem op_add_ib : OpR X (binaryOp .Add) (fun x y H Q => ∃ i k, x = .int i ∧ y = .bl k ∧ Q (.int (i + b2i k)) H) := by
  intro pins s σ H x y v u Q I rx ry h
  obtain ⟨i, k, rfl, rfl, q⟩ := h
  obtain ⟨t, rfl⟩ := rx
  cases ry
  exact add_int_bool ⟨.int (i + b2i k), H, I.tok _, ⟨_, rfl⟩, q⟩
end

/-! ### comparisons -/
/-- the scalars that == tells apart as data does -/
def scal : V → V → Bool
  | .non, .non => true | .non, .int _ => true | .int _, .non => true | .non, .bl _ => true | .bl _, .non => true | .non, .str _ => true | .str _, .non => true
  | .int _, .int _ => true | .bl _, .bl _ => true | .str _, .str _ => true | .byt _, .byt _ => true
  | .int _, .str _ => true | .str _, .int _ => true | .bl _, .str _ => true | .str _, .bl _ => true
  | _, _ => false
def rEq : R2 := fun x y H Q => scal x y = true ∧ Q (.bl (decide (x = y))) H
def rNe : R2 := fun x y H Q => scal x y = true ∧ Q (.bl (!decide (x = y))) H

theorem dec_int {i j : Int} : decide (V.int i = V.int j) = (i == j) := by
  rw [Bool.eq_iff_iff]
  simp
theorem dec_bl {i j : Bool} : decide (V.bl i = V.bl j) = (i == j) := by
  rw [Bool.eq_iff_iff]
  simp
theorem dec_str {i j : Str} : decide (V.str i = V.str j) = (i == j) := by
  rw [Bool.eq_iff_iff]
  simp
theorem dec_byt {i j : Array UInt8} : decide (V.byt i = V.byt j) = (i.toList == j.toList) := by
  rw [Bool.eq_iff_iff]
  cases i
  cases j
  simp

section
variable {X : Cx} {a b c : Expr} {ta tb tc : TE} {pos : Pos}
theorem fin_bl {pins : List (Addr × Obj)} {σ : St} {H : Hp} {s : Shared} {Q : VK} {k k' : Bool} (I : Inv X pins σ H s) (q : Q (.bl k) H) (e : k = k') : EP X pins σ Q (.bool k') s := by
  subst e
  exact ⟨.bl k, H, I, rfl, q⟩
theorem op_eq : OpR X (compareOp .Eq) rEq := by
  intro pins s σ H x y v u Q I rx ry h
  obtain ⟨hs, q⟩ := h
  cases x with
  | non =>
    cases rx
    cases y with
    | non => cases ry; exact PySem.EqNone.eq_none_none (fin_bl I q (by simp))
    | bl j => cases ry; exact PySem.EqNone.eq_none_bool (fin_bl I q (by simp))
    | int j => obtain ⟨t', rfl⟩ := ry; exact PySem.EqNone.eq_none_int (fin_bl I q (by simp))
    | str j => obtain ⟨t', rfl⟩ := ry; exact PySem.EqNone.eq_none_str (fin_bl I q (by simp))
    | _ => exact absurd (show false = true from hs) Bool.false_ne_true
  | bl i =>
    cases rx
    cases y with
    | non => cases ry; exact PySem.EqNone.eq_bool_none (fin_bl I q (by simp))
    | bl j => cases ry; exact eq_bool (fin_bl I q dec_bl)
    | str j => obtain ⟨t', rfl⟩ := ry; exact PySem.EqMixed.eq_bool_str (fin_bl I q (by simp))
    | _ => exact absurd (show false = true from hs) Bool.false_ne_true
  | int i =>
    obtain ⟨t, rfl⟩ := rx
    cases y with
    | non => cases ry; exact PySem.EqNone.eq_int_none (fin_bl I q (by simp))
    | int j => obtain ⟨t', rfl⟩ := ry; exact eq_int (fin_bl I q dec_int)
    | str j => obtain ⟨t', rfl⟩ := ry; exact PySem.EqMixed.eq_int_str (fin_bl I q (by simp))
    | _ => exact absurd (show false = true from hs) Bool.false_ne_true
  | str i =>
    obtain ⟨t, rfl⟩ := rx
    cases y with
    | non => cases ry; exact PySem.EqNone.eq_str_none (fin_bl I q (by simp))
    | bl j => cases ry; exact PySem.EqMixed.eq_str_bool (fin_bl I q (by simp))
    | int j => obtain ⟨t', rfl⟩ := ry; exact PySem.EqMixed.eq_str_int (fin_bl I q (by simp))
    | str j => obtain ⟨t', rfl⟩ := ry; exact eq_str (fin_bl I q dec_str)
    | _ => exact absurd (show false = true from hs) Bool.false_ne_true
  | byt i =>
    obtain ⟨t, rfl⟩ := rx
    cases y with
    | byt j => obtain ⟨t', rfl⟩ := ry; exact PySem.W.eq_bytes (fin_bl I q dec_byt)
    | _ => exact absurd (show false = true from hs) Bool.false_ne_true
  | _ => cases y <;> exact absurd (show false = true from hs) Bool.false_ne_true
theorem op_ne : OpR X (compareOp .NotEq) rNe := by
  intro pins s σ H x y v u Q I rx ry h
  obtain ⟨hs, q⟩ := h
  cases x with
  | non =>
    cases rx
    cases y with
    | non => cases ry; exact PySem.EqNone.ne_none_none (fin_bl I q (by simp))
    | bl j => cases ry; exact PySem.EqNone.ne_none_bool (fin_bl I q (by simp))
    | int j => obtain ⟨t', rfl⟩ := ry; exact PySem.EqNone.ne_none_int (fin_bl I q (by simp))
    | str j => obtain ⟨t', rfl⟩ := ry; exact PySem.EqNone.ne_none_str (fin_bl I q (by simp))
    | _ => exact absurd (show false = true from hs) Bool.false_ne_true
  | bl i =>
    cases rx
    cases y with
    | non => cases ry; exact PySem.EqNone.ne_bool_none (fin_bl I q (by simp))
    | bl j => cases ry; exact ne_bool (fin_bl I q (congrArg not dec_bl))
    | str j => obtain ⟨t', rfl⟩ := ry; exact PySem.EqMixed.ne_bool_str (fin_bl I q (by simp))
    | _ => exact absurd (show false = true from hs) Bool.false_ne_true
  | int i =>
    obtain ⟨t, rfl⟩ := rx
    cases y with
    | non => cases ry; exact PySem.EqNone.ne_int_none (fin_bl I q (by simp))
    | int j => obtain ⟨t', rfl⟩ := ry; exact ne_int (fin_bl I q (congrArg not dec_int))
    | str j => obtain ⟨t', rfl⟩ := ry; exact PySem.EqMixed.ne_int_str (fin_bl I q (by simp))
    | _ => exact absurd (show false = true from hs) Bool.false_ne_true
  | str i =>
    obtain ⟨t, rfl⟩ := rx
    cases y with
    | non => cases ry; exact PySem.EqNone.ne_str_none (fin_bl I q (by simp))
    | bl j => cases ry; exact PySem.EqMixed.ne_str_bool (fin_bl I q (by simp))
    | int j => obtain ⟨t', rfl⟩ := ry; exact PySem.EqMixed.ne_str_int (fin_bl I q (by simp))
    | str j => obtain ⟨t', rfl⟩ := ry; exact ne_str (fin_bl I q (congrArg not dec_str))
    | _ => exact absurd (show false = true from hs) Bool.false_ne_true
  | byt i =>
    obtain ⟨t, rfl⟩ := rx
    cases y with
    | byt j => obtain ⟨t', rfl⟩ := ry; exact PySem.W.ne_bytes (fin_bl I q (congrArg not dec_byt))
    | _ => exact absurd (show false = true from hs) Bool.false_ne_true
  | _ => cases y <;> exact absurd (show false = true from hs) Bool.false_ne_true

theorem op_lt : OpR X (compareOp .Lt) (rI0 fun i j => .bl (decide (i < j))) := opB0 fun _ _ _ _ _ _ _ q => lt_int q
theorem op_le : OpR X (compareOp .LtE) (rI0 fun i j => .bl (decide (i ≤ j))) := opB0 fun _ _ _ _ _ _ _ q => le_int q
theorem op_gt : OpR X (compareOp .Gt) (rI0 fun i j => .bl (decide (j < i))) := opB0 fun _ _ _ _ _ _ _ q => gt_int q
theorem op_ge : OpR X (compareOp .GtE) (rI0 fun i j => .bl (decide (j ≤ i))) := opB0 fun _ _ _ _ _ _ _ q => ge_int q
theorem op_lt_str : OpR X (compareOp .Lt) (fun x y H Q => ∃ i j, x = .str i ∧ y = .str j ∧ Q (.bl (decide (i.cps.toList < j.cps.toList))) H) := by
  intro pins s σ H x y v u Q I rx ry h
  obtain ⟨i, j, rfl, rfl, q⟩ := h
  obtain ⟨t, rfl⟩ := rx
  obtain ⟨t', rfl⟩ := ry
  exact lt_str (fin_bl I q rfl)
/-- the one string within the other -/
theorem op_in_str : OpR X (compareOp .In) (fun x y H Q => ∃ i j, x = .str i ∧ y = .str j ∧ Q (.bl (!(Builtin.Str.occurrences j i 0 j.length 1).isEmpty)) H) := by
  intro pins s σ H x y v u Q I rx ry h
  obtain ⟨i, j, rfl, rfl, q⟩ := h
  obtain ⟨t, rfl⟩ := rx
  obtain ⟨t', rfl⟩ := ry
  exact in_str (fin_bl I q rfl)

/-- is None, is not None: the right side a value none -/
theorem op_isN : OpR X (compareOp .Is) (fun x y H Q => y = .non ∧ Q (.bl (decide (x = .non))) H) := by
  intro pins s σ H x y v u Q I rx ry h
  obtain ⟨rfl, q⟩ := h
  cases ry
  refine is_none_gen (fin_bl I q ?_)
  cases x <;> first
    | (cases rx; rfl)
    | (obtain ⟨t, rfl⟩ := rx; rfl)
theorem op_notN : OpR X (compareOp .IsNot) (fun x y H Q => y = .non ∧ Q (.bl (!decide (x = .non))) H) := by
  intro pins s σ H x y v u Q I rx ry h
  obtain ⟨rfl, q⟩ := h
  cases ry
  refine isnot_none_gen (fin_bl I q ?_)
  cases x <;> first
    | (cases rx; rfl)
    | (obtain ⟨t, rfl⟩ := rx; rfl)

theorem op_notin_str : OpR X (compareOp .NotIn) (fun x y H Q => ∃ i j, x = .str i ∧ y = .str j ∧ Q (.bl (!(!(Builtin.Str.occurrences j i 0 j.length 1).isEmpty))) H) := by
  intro pins s σ H x y v u Q I rx ry h
  obtain ⟨i, j, rfl, rfl, q⟩ := h
  obtain ⟨t, rfl⟩ := rx
  obtain ⟨t', rfl⟩ := ry
  exact notIn_str (fin_bl I q rfl)
/-- is, is not of two objects that are tracked lists or instances -/
def isObj : HO → Bool
  | .lst _ => true
  | .ins _ _ _ => true
  | _ => false
theorem obj_there {pins : List (Addr × Obj)} {s : Shared} {σ : St} {H : Hp} {a : Addr} {o : HO} (I : Inv X pins σ H s) (h : H a = some o) (p : isObj o = true) : ∃ ob, s.heap.get? a = some ob ∧ ob.cls ≠ .type "tuple" := by
  cases o with
  | lst xs =>
    obtain ⟨_, its, n, _, e⟩ : xs.length ≤ sizeLine ∧ ∃ (its : List Value) (n : Nat), Vals xs its ∧ s.heap.get? a = some { cls := .type "list", data := .seq its.toArray n } := I.hok a _ h
    exact ⟨_, e, (by show Value.type "list" ≠ .type "tuple"; decide +kernel)⟩
  | ins C dx fs =>
    have x := I.hok a _ h
    obtain ⟨_, _, _, e, _⟩ := x
    exact ⟨_, e, (by show Value.ref C ≠ .type "tuple"; exact fun z => by cases z)⟩
  | _ => exact absurd (show false = true from p) Bool.false_ne_true
theorem op_is_ref : OpR X (compareOp .Is) (fun x y H Q => ∃ a b oa ob, x = .ref a ∧ y = .ref b ∧ H a = some oa ∧ isObj oa = true ∧ H b = some ob ∧ isObj ob = true ∧ Q (.bl (decide (a = b))) H) := by
  intro pins s σ H x y v u Q I rx ry h
  obtain ⟨a, b, oa, ob, rfl, rfl, ha, pa, hb, pb, q⟩ := h
  cases rx
  cases ry
  obtain ⟨o1, e1, n1⟩ := obj_there I ha pa
  obtain ⟨o2, e2, _⟩ := obj_there I hb pb
  by_cases z : a = b
  · subst z
    exact wpAny_is_ref_self (fin_bl I q (by simp))
  · exact wpAny_is_ref_other z e1 e2 n1 (fin_bl I q (by simp [z]))
theorem op_isnot_ref : OpR X (compareOp .IsNot) (fun x y H Q => ∃ a b oa ob, x = .ref a ∧ y = .ref b ∧ H a = some oa ∧ isObj oa = true ∧ H b = some ob ∧ isObj ob = true ∧ Q (.bl (!decide (a = b))) H) := by
  intro pins s σ H x y v u Q I rx ry h
  obtain ⟨a, b, oa, ob, rfl, rfl, ha, pa, hb, pb, q⟩ := h
  cases rx
  cases ry
  obtain ⟨o1, e1, n1⟩ := obj_there I ha pa
  obtain ⟨o2, e2, _⟩ := obj_there I hb pb
  by_cases z : a = b
  · subst z
    exact wpAny_isNot_ref_self (fin_bl I q (by simp))
  · exact wpAny_isNot_ref_other z e1 e2 n1 (fin_bl I q (by simp [z]))

/-- two rules for one operation: by cases -/
theorem OpR.or {f : Value → Value → Sem Value} {r r' : R2} (h : OpR X f r) (h' : OpR X f r') : OpR X f (fun x y H Q => r x y H Q ∨ r' x y H Q) := by
  intro pins s σ H x y v u Q I rx ry q
  rcases q with q | q
  · exact h pins s σ H x y v u Q I rx ry q
  · exact h' pins s σ H x y v u Q I rx ry q

theorem nomark (b : Expr) {op : CmpOp} (h : op ≠ .In := by decide) (h2 : op ≠ .NotIn := by decide) : behindInMarks op b = false := by
  have e1 : (op == CmpOp.In) = false := by cases op <;> first | rfl | exact absurd rfl h
  have e2 : (op == CmpOp.NotIn) = false := by cases op <;> first | rfl | exact absurd rfl h2
  cases b <;> simp [behindInMarks, e1, e2]
/-- a comparison as a value; hm: nomark b, or (for in, not in) by with_unfolding_all rfl -/
theorem pe_cmpR {op : CmpOp} {r : R2} (ho : OpR X (compareOp op) r) (ha : PE X a ta) (hb : PE X b tb) (hm : behindInMarks op b = false) : PE X (.Compare a [op] [b] pos) (tOp r ta tb) := by
  intro pins s σ H Q I h
  exact wpAny_Compare1 (binT ha hb I h fun v u s2 x y H2 I2 rx ry q => ho pins s2 σ H2 x y v u Q I2 rx ry q) hm
/-- a reading of a value as a test -/
def tTest (t : TE) : TT := fun σ H Q => t σ H fun x H' => ∃ k, x = .bl k ∧ Q k H'
theorem pt_cmpR {op : CmpOp} {r : R2} (ho : OpR X (compareOp op) r) (ha : PE X a ta) (hb : PE X b tb) (hm : behindInMarks op b = false) : PT X (.Compare a [op] [b] pos) (tTest (tOp r ta tb)) := by
  intro pins s σ H Q I h
  refine wpAny_isTrue_Compare1 (thn (ha pins s σ H _ I h) fun v s1 ⟨x, H1, I1, r1, q1⟩ => thn (hb pins s1 σ H1 _ I1 q1) fun u s2 ⟨y, H2, I2, r2, q2⟩ =>
    thn (ho pins s2 σ H2 x y v u _ I2 r1 r2 q2) fun c s3 ⟨z, H3, I3, r3, k, e, q3⟩ => ?_) hm
  subst e
  cases r3
  exact wpAny_truthy_bool ⟨H3, I3, q3⟩
/-- a op1 b op2 c -/
def tChain (r r' : R2) (ta tb tc : TE) : TE := fun σ H Q => ta σ H fun x H1 => tb σ H1 fun y H2 => r x y H2 fun z H3 => ∃ k, z = .bl k ∧
  (if k = true then tc σ H3 fun w' H4 => r' y w' H4 Q else Q (.bl false) H3)
theorem pe_chain {op op' : CmpOp} {r r' : R2} (ho : OpR X (compareOp op) r) (ho' : OpR X (compareOp op') r') (ha : PE X a ta) (hb : PE X b tb) (hc : PE X c tc)
    (hm : lastMarks [op, op'] [b, c] = false := by with_unfolding_all rfl) : PE X (.Compare a [op, op'] [b, c] pos) (tChain r r' ta tb tc) := by
  intro pins s σ H Q I h
  refine Compare_chain (thn (ha pins s σ H _ I h) fun v s1 ⟨x, H1, I1, r1, q1⟩ => chain_link (thn (hb pins s1 σ H1 _ I1 q1) fun u s2 ⟨y, H2, I2, r2, q2⟩ =>
    thn (ho pins s2 σ H2 x y v u _ I2 r1 r2 q2) fun d s3 ⟨z, H3, I3, r3, k, e, q3⟩ => ?_)) hm
  subst e
  cases r3
  refine wpAny_truthy_bool ?_
  cases k with
  | false => exact ite_ff ⟨.bl false, H3, I3, rfl, q3⟩
  | true => exact ite_tt (chain_last (thn (hc pins s3 σ H3 _ I3 q3) fun w' s4 ⟨z', H4, I4, r4, q4⟩ => ho' pins s4 σ H4 y z' u w' Q I4 r2 r4 q4))
theorem pt_chain {op op' : CmpOp} {r r' : R2} (ho : OpR X (compareOp op) r) (ho' : OpR X (compareOp op') r') (ha : PE X a ta) (hb : PE X b tb) (hc : PE X c tc)
    (hm : lastMarks [op, op'] [b, c] = false := by with_unfolding_all rfl) : PT X (.Compare a [op, op'] [b, c] pos) (tTest (tChain r r' ta tb tc)) := by
  intro pins s σ H Q I h
  refine isTrue_chain (thn (ha pins s σ H _ I h) fun v s1 ⟨x, H1, I1, r1, q1⟩ => test_link (thn (hb pins s1 σ H1 _ I1 q1) fun u s2 ⟨y, H2, I2, r2, q2⟩ =>
    thn (ho pins s2 σ H2 x y v u _ I2 r1 r2 q2) fun d s3 ⟨z, H3, I3, r3, k, e, q3⟩ => ?_)) hm
  subst e
  cases r3
  refine wpAny_truthy_bool ?_
  cases k with
  | false =>
    obtain ⟨k', e', q'⟩ := q3
    cases e'
    exact ite_ff ⟨H3, I3, q'⟩
  | true =>
    refine ite_tt (test_last (thn (hc pins s3 σ H3 _ I3 q3) fun w' s4 ⟨z', H4, I4, r4, q4⟩ => thn (ho' pins s4 σ H4 y z' u w' _ I4 r2 r4 q4) fun d' s5 ⟨z2, H5, I5, r5, k2, e2, q5⟩ => ?_))
    subst e2
    cases r5
    exact wpAny_truthy_bool ⟨H5, I5, q5⟩

/-! ### truth -/
/-- a value's truth by the abstract heap -/
def TruV (K : PySem.W.Frag) (x : V) (H : Hp) (k : Bool) : Prop :=
  match x with
  | .non => k = false
  | .bl b => k = b
  | .int i => k = (i != 0)
  | .str y => y.length ≤ sizeLine ∧ k = ((y.length : Int) != 0)
  | .byt y => y.size ≤ sizeLine ∧ k = ((y.size : Int) != 0)
  | .ref p => (∃ xs, SqL K H p xs ∧ k = !xs.isEmpty) ∨ (∃ xs, SqT K H p xs ∧ k = !xs.isEmpty) ∨ ∃ kvs, H p = some (.dK kvs) ∧ k = !kvs.isEmpty
  | _ => False
theorem isEmpty_kv {κ : Type} {kvs : List (κ × V)} {vs : List (κ × Value)} (r : KV kvs vs) : (!vs.isEmpty) = !kvs.isEmpty := by
  cases r <;> rfl
theorem isEmpty_of {xs : List V} {its : List Value} (r : Vals xs its) : (!its.toArray.isEmpty) = !xs.isEmpty := by
  cases r <;> simp
theorem line63 : (sizeLine : Nat) < 2 ^ 63 := by rw [sizeLine_eq]; decide
theorem tru_ok : TruR X (fun x H Q => ∃ k, TruV X.K x H k ∧ Q k H) := by
  intro pins s σ H x v Q I rx h
  obtain ⟨k, e, q⟩ := h
  have hl := line63
  have hs : sizeLine = 16777216 := sizeLine_eq
  cases x with
  | non =>
    cases rx
    have e' : k = false := e
    subst e'
    exact truthy_none ⟨H, I, q⟩
  | bl b =>
    cases rx
    have e' : k = b := e
    subst e'
    exact wpAny_truthy_bool ⟨H, I, q⟩
  | int i =>
    obtain ⟨t, rfl⟩ := rx
    have e' : k = (i != 0) := e
    subst e'
    exact PySem.P.truthy_int ⟨H, I, q⟩
  | str y =>
    obtain ⟨t, rfl⟩ := rx
    obtain ⟨hy, e'⟩ : y.length ≤ sizeLine ∧ k = ((y.length : Int) != 0) := e
    subst e'
    exact PySem.P.truthy_str (by omega) ⟨H, I.tok _, q⟩
  | byt y =>
    obtain ⟨t, rfl⟩ := rx
    obtain ⟨hy, e'⟩ : y.size ≤ sizeLine ∧ k = ((y.size : Int) != 0) := e
    subst e'
    exact PySem.W.truthy_bytes (by omega) ⟨H, I.tok _, q⟩
  | ref p =>
    cases rx
    have e' : (∃ xs, SqL X.K H p xs ∧ k = !xs.isEmpty) ∨ (∃ xs, SqT X.K H p xs ∧ k = !xs.isEmpty) ∨ ∃ kvs, H p = some (.dK kvs) ∧ k = !kvs.isEmpty := e
    rcases e' with ⟨xs, hx, e'⟩ | ⟨xs, hx, e'⟩ | ⟨kvs, hx, e'⟩
    · subst e'
      obtain ⟨its, r, pl, hz⟩ := I.list hx
      have hlen := r.length
      exact wpAny_truthy_list pl.isList (by simp only [List.size_toArray]; omega) ⟨H, I.tok _, by rw [isEmpty_of r]; exact q⟩
    · subst e'
      obtain ⟨its, r, pl, hz⟩ := I.tuple hx
      have hlen := r.length
      exact truthy_tuple pl (by simp only [List.size_toArray]; omega) ⟨H, I.tok _, by rw [isEmpty_of r]; exact q⟩
    · subst e'
      obtain ⟨hz, hS, vs, r, m⟩ : kvs.length ≤ sizeLine ∧ (p == sysModules) = false ∧ ∃ vs, KV kvs vs ∧ s.heap.DictOf (mixKind X.prog X.w) p vs := I.hok p _ hx
      have hlen : kvs.length = vs.length := Paired.length r
      exact wpAny_truthy_dict hS m (by omega) ⟨H, I.tok _, by rw [isEmpty_kv r]; exact q⟩
  | _ => exact (show False from e).elim
/-- any expression whose test is its value's truth (a name, a call, a subscript, a field ..: he by fun _ => rfl) -/
theorem pt_truth (ha : PE X a ta) (he : ∀ whole, isTrue a X.env whole = (do let v ← whole; standAt a.pos; holding [v] (truthy v))) :
    PT X a (fun σ H Q => ta σ H fun x H' => ∃ k, TruV X.K x H' k ∧ Q k H') := by
  intro pins s σ H Q I h
  exact isTrue_plain (thn (ha pins s σ H _ I h) fun v s1 ⟨x, H1, I1, r1, q1⟩ => tru_ok pins s1 σ H1 x v Q I1 r1 q1) (he _)

/-! ### strs and bytes -/
theorem pe_byt {x : List UInt8} {k : Nat} : PE X (.Constant (.bytes x) k pos) (fun _ H Q => Q (.byt x.toArray) H) := fun _ _ _ H _ I h => PySem.W.Constant_bytes ⟨.byt x.toArray, H, I.tok _, ⟨_, rfl⟩, h⟩
theorem op_add_str : OpR X (binaryOp .Add) (fun x y H Q => ∃ i j, x = .str i ∧ y = .str j ∧ i.length + j.length ≤ sizeLine ∧ Q (.str (i ++ j)) H) := by
  intro pins s σ H x y v u Q I rx ry h
  obtain ⟨i, j, rfl, rfl, hz, q⟩ := h
  obtain ⟨t, rfl⟩ := rx
  obtain ⟨t', rfl⟩ := ry
  exact add_str (fun t' tk => ⟨.str (i ++ j), H, I.tok _, ⟨_, rfl⟩, q⟩) hz
theorem iop_add_str : OpR X (inplaceOp .Add) (fun x y H Q => ∃ i j, x = .str i ∧ y = .str j ∧ i.length + j.length ≤ sizeLine ∧ Q (.str (i ++ j)) H) := by
  intro pins s σ H x y v u Q I rx ry h
  obtain ⟨i, j, rfl, rfl, hz, q⟩ := h
  obtain ⟨t, rfl⟩ := rx
  obtain ⟨t', rfl⟩ := ry
  exact iadd_str (fun t' tk => ⟨.str (i ++ j), H, I.tok _, ⟨_, rfl⟩, q⟩) hz
theorem op_add_byt : OpR X (binaryOp .Add) (fun x y H Q => ∃ i j, x = .byt i ∧ y = .byt j ∧ i.size + j.size ≤ 16777216 ∧ Q (.byt (i ++ j)) H) := by
  intro pins s σ H x y v u Q I rx ry h
  obtain ⟨i, j, rfl, rfl, hz, q⟩ := h
  obtain ⟨t, rfl⟩ := rx
  obtain ⟨t', rfl⟩ := ry
  exact PySem.W.KBy.add_bytes hz (fun t' tk => ⟨.byt (i ++ j), H, I.tok _, ⟨_, rfl⟩, q⟩)

def PlainIxT (b : Expr) : Prop := ∀ o i, subscripted b false o i = operate [o, i] (getItem o i)
/-- s[i], 0 ≤ i < len -/
theorem pe_item_str (ha : PE X a ta) (hb : PE X b tb) (hs : PlainIxT b) :
    PE X (.Subscript a b pos) (tOp (fun x y H Q => ∃ z i c, x = .str z ∧ y = .int i ∧ 0 ≤ i ∧ i < 2 ^ 63 ∧ i < z.length ∧ z.cps[i.toNat]? = some c ∧ Q (.str ⟨#[c]⟩) H) ta tb) := by
  intro pins s σ H Q I h
  refine Subscript_ (binT ha hb I h fun v u s2 x y H2 I2 rx ry q => ?_)
  obtain ⟨z, i, c, rfl, rfl, h0, h63, h1, hc, q⟩ := q
  obtain ⟨t, rfl⟩ := rx
  obtain ⟨t', rfl⟩ := ry
  have e : seqIndex? i z.length = some i.toNat := PySem.StrLaws.seqIndex_nonneg h0 h1
  exact tail_any (typeIs_str s2 z t) slot_str_getitem.lookup (getItem_str (c := c) (by
    have e1 : decide (i < -(2 ^ 63 : Int)) = false := decide_eq_false (by omega)
    have e2 : decide (i ≥ 2 ^ 63) = false := decide_eq_false (by omega)
    rw [e1, e2] <;> rfl) (by rw [e]; exact hc) ⟨.str ⟨#[c]⟩, H2, I2.tok _, ⟨_, rfl⟩, q⟩) (hs _ _)
/-- b[i], 0 ≤ i < len -/
theorem pe_item_byt (ha : PE X a ta) (hb : PE X b tb) (hs : PlainIxT b) :
    PE X (.Subscript a b pos) (tOp (fun x y H Q => ∃ (z : List UInt8) (i : Int), x = .byt z.toArray ∧ y = .int i ∧ z.length ≤ sizeLine ∧ 0 ≤ i ∧ i < z.length ∧ Q (.int ((z.getD i.toNat 0).toNat : Nat)) H) ta tb) := by
  intro pins s σ H Q I h
  refine Subscript_ (binT ha hb I h fun v u s2 x y H2 I2 rx ry q => ?_)
  obtain ⟨z, i, rfl, rfl, hz, h0, h1, q⟩ := q
  obtain ⟨t, rfl⟩ := rx
  obtain ⟨t', rfl⟩ := ry
  have hl : sizeLine = 16777216 := sizeLine_eq
  exact tail_any (PySem.W.typeIs_bytes s2 z.toArray t) PySem.W.FB.slot_bytes_getitem.lookup (PySem.W.getItem_bytes (by omega) h0 h1 ⟨.int ((z.getD i.toNat 0).toNat : Nat), H2, I2.tok _, ⟨_, rfl⟩, q⟩) (hs _ _)

/-! ### scalar builtins, by CallR -/
theorem vals1 {x : V} {us : List Value} (r : Vals [x] us) : ∃ u, us = [u] ∧ RelV x u := by
  cases r with
  | cons r1 r2 => cases r2; exact ⟨_, rfl, r1⟩
theorem vals2 {x y : V} {us : List Value} (r : Vals [x, y] us) : ∃ u w', us = [u, w'] ∧ RelV x u ∧ RelV y w' := by
  cases r with
  | cons r1 r2 =>
    cases r2 with
    | cons r3 r4 => cases r4; exact ⟨_, _, rfl, r1, r3⟩
theorem call_abs : CallR X (.builtin "abs") (fun xs H Q => ∃ i, xs = [.int i] ∧ Q (.int (if i < 0 then -i else i)) H) := by
  intro pins s σ H xs us Q I r h
  obtain ⟨i, rfl, q⟩ := h
  obtain ⟨u, rfl, t, rfl⟩ := vals1 r
  exact call_abs_int fun u tk => ⟨.int (if i < 0 then -i else i), H, I.tok _, ⟨_, rfl⟩, q⟩
theorem call_max2 (hc : X.calm = true) : CallR X (.builtin "max") (fun xs H Q => ∃ i j, xs = [.int i, .int j] ∧ Q (.int (if j > i then j else i)) H) := by
  intro pins s σ H xs us Q I r h
  obtain ⟨i, j, rfl, q⟩ := h
  obtain ⟨u, w', rfl, ⟨t, rfl⟩, ⟨t', rfl⟩⟩ := vals2 r
  refine max_two_ints (I.ok.hd hc) fun h' tk k => ⟨_, H, I.kept k, ?_, q⟩
  by_cases hj : j > i
  · rw [if_pos hj, if_pos hj]; exact ⟨_, rfl⟩
  · rw [if_neg hj, if_neg hj]; exact ⟨_, rfl⟩
theorem call_min2 (hc : X.calm = true) : CallR X (.builtin "min") (fun xs H Q => ∃ i j, xs = [.int i, .int j] ∧ Q (.int (if j < i then j else i)) H) := by
  intro pins s σ H xs us Q I r h
  obtain ⟨i, j, rfl, q⟩ := h
  obtain ⟨u, w', rfl, ⟨t, rfl⟩, ⟨t', rfl⟩⟩ := vals2 r
  refine min_two_ints (I.ok.hd hc) fun h' tk k => ⟨_, H, I.kept k, ?_, q⟩
  by_cases hj : j < i
  · rw [if_pos hj, if_pos hj]; exact ⟨_, rfl⟩
  · rw [if_neg hj, if_neg hj]; exact ⟨_, rfl⟩
theorem call_int1 : CallR X (.type "int") (fun xs H Q => (∃ i, xs = [.int i] ∧ Q (.int i) H) ∨ ∃ k, xs = [.bl k] ∧ Q (.int (if k then 1 else 0)) H) := by
  intro pins s σ H xs us Q I r h
  rcases h with ⟨i, rfl, q⟩ | ⟨k, rfl, q⟩
  · obtain ⟨u, rfl, t, rfl⟩ := vals1 r
    exact call_int_int ⟨.int i, H, I, ⟨_, rfl⟩, q⟩
  · obtain ⟨u, rfl, r1⟩ := vals1 r
    cases r1
    exact call_int_bool ⟨.int (if k then 1 else 0), H, I.tok _, ⟨_, rfl⟩, q⟩
theorem call_bool1 : CallR X (.type "bool") (fun xs H Q => (∃ i, xs = [.int i] ∧ Q (.bl (i != 0)) H) ∨ ∃ k, xs = [.bl k] ∧ Q (.bl k) H) := by
  intro pins s σ H xs us Q I r h
  rcases h with ⟨i, rfl, q⟩ | ⟨k, rfl, q⟩
  · obtain ⟨u, rfl, t, rfl⟩ := vals1 r
    exact call_bool_int ⟨.bl (i != 0), H, I, rfl, q⟩
  · obtain ⟨u, rfl, r1⟩ := vals1 r
    cases r1
    exact call_bool_bool ⟨.bl k, H, I, rfl, q⟩
theorem call_str_int : CallR X (.type "str") (fun xs H Q => ∃ i, xs = [.int i] ∧ i.natAbs.log2 < 1920 ∧ Q (.str (toString i)) H) := by
  intro pins s σ H xs us Q I r h
  obtain ⟨i, rfl, hz, q⟩ := h
  obtain ⟨u, rfl, t, rfl⟩ := vals1 r
  exact PySem.P.str_of_int hz ⟨.str _, H, I.tok _, ⟨_, rfl⟩, q⟩
theorem call_ord : CallR X (.builtin "ord") (fun xs H Q => ∃ x, xs = [.str x] ∧ x.length = 1 ∧ Q (.int (x.cps.getD 0 0 : Nat)) H) := by
  intro pins s σ H xs us Q I r h
  obtain ⟨x, rfl, hz, q⟩ := h
  obtain ⟨u, rfl, t, rfl⟩ := vals1 r
  exact ord_of_one hz ⟨.int _, H, I.tok _, ⟨_, rfl⟩, q⟩
theorem call_chr : CallR X (.builtin "chr") (fun xs H Q => ∃ i, xs = [.int i] ∧ 0 ≤ i ∧ i ≤ 1114111 ∧ Q (.str ⟨#[i.toNat]⟩) H) := by
  intro pins s σ H xs us Q I r h
  obtain ⟨i, rfl, h0, h1, q⟩ := h
  obtain ⟨u, rfl, t, rfl⟩ := vals1 r
  exact chr_of_range h0 h1 ⟨.str _, H, I.tok _, ⟨_, rfl⟩, q⟩
/-- len of a str, a bytes, a list, a tuple -/
def LenV (K : PySem.W.Frag) (x : V) (H : Hp) (n : Nat) : Prop :=
  match x with
  | .str y => y.length ≤ sizeLine ∧ n = y.length
  | .byt y => y.size ≤ sizeLine ∧ n = y.size
  | .ref p => (∃ xs, SqL K H p xs ∧ n = xs.length) ∨ ∃ xs, SqT K H p xs ∧ n = xs.length
  | _ => False
theorem call_len : CallR X (.builtin "len") (fun xs H Q => ∃ x n, xs = [x] ∧ LenV X.K x H n ∧ Q (.int n) H) := by
  intro pins s σ H xs us Q I r h
  obtain ⟨x, n, rfl, e, q⟩ := h
  obtain ⟨u, rfl, rx⟩ := vals1 r
  have hl := line63
  have hs : sizeLine = 16777216 := sizeLine_eq
  cases x with
  | str y =>
    obtain ⟨t, rfl⟩ := rx
    obtain ⟨hy, e'⟩ : y.length ≤ sizeLine ∧ n = y.length := e
    subst e'
    exact len_str (by omega) ⟨.int _, H, I.tok _, ⟨_, rfl⟩, q⟩
  | byt y =>
    obtain ⟨t, rfl⟩ := rx
    obtain ⟨hy, e'⟩ : y.size ≤ sizeLine ∧ n = y.size := e
    subst e'
    exact PySem.W.len_bytes (by omega) ⟨.int _, H, I.tok _, ⟨_, rfl⟩, q⟩
  | ref p =>
    cases rx
    have e' : (∃ xs, SqL X.K H p xs ∧ n = xs.length) ∨ ∃ xs, SqT X.K H p xs ∧ n = xs.length := e
    rcases e' with ⟨xs, hx, e'⟩ | ⟨xs, hx, e'⟩
    · subst e'
      obtain ⟨its, r', pl, hz⟩ := I.list hx
      have hlen := r'.length
      exact Calls.call_len_list pl.isList (by simp only [List.size_toArray]; omega) ⟨.int xs.length, H, I.tok _, ⟨_, by simp only [List.size_toArray]; rw [hlen]⟩, q⟩
    · subst e'
      obtain ⟨its, r', pl, hz⟩ := I.tuple hx
      have hlen := r'.length
      exact len_tuple pl (by simp only [List.size_toArray]; omega) ⟨.int xs.length, H, I.tok _, ⟨_, by simp only [List.size_toArray]; rw [hlen]⟩, q⟩
  | _ => exact (show False from e).elim
/-- divmod: a new tuple -/
theorem call_divmod : CallR X (.builtin "divmod") (fun xs H Q => ∃ i j, xs = [.int i, .int j] ∧ CDiv i j ∧ ∀ p, H p = none → Q (.ref p) (upd H p (.tup [.int (i / j), .int (i % j)]))) := by
  intro pins s σ H xs us Q I r h
  obtain ⟨i, j, rfl, ⟨h1, h2⟩, q⟩ := h
  obtain ⟨u, w', rfl, ⟨t, rfl⟩, ⟨t', rfl⟩⟩ := vals2 r
  refine divmod_int (by omega) ?_ (.inl (PyProof.noPylong_small (by omega)))
  rw [Int.fdiv_eq_ediv_of_nonneg i (by omega), Int.fmod_eq_emod_of_nonneg i (by omega)]
  have hn : H s.heap.objs.size = none := I.hok.fresh (Nat.le_refl _)
  refine ⟨.ref s.heap.objs.size, _, ?_, rfl, q _ hn⟩
  refine I.laid (fun b o e => Heap.get?_push_of_some _ e) (Nat.le_refl _) ⟨by simp only [List.length_cons, List.length_nil]; rw [sizeLine_eq]; decide, [.int (i / j) s.toks, .int (i % j) (s.toks + 1)], .cons ⟨_, rfl⟩ (.cons ⟨_, rfl⟩ .nil), ?_⟩
  exact ⟨_, Heap.get?_push_size s.heap rfl, rfl, 0, rfl⟩
end
end L2

namespace L2
open PySem PySem.Spec PyProof.Rows

/-! ### an instance, its attributes a map -/
structure ObjM (h : Heap) (x dx C : Addr) (mA : Str → Option Value) : Prop where
  obj : h.get? x = some (PySem.W.instObj C dx)
  ns : h.Ns1 dx mA
  ne : dx ≠ x

theorem lookIn_ns {h : Heap} {dx : Addr} {mA : Str → Option Value} (n : h.Ns1 dx mA) : ∃ od, h.get? dx = some od ∧ ∀ name, PySem.W.lookIn name od = some (mA name) := by
  obtain ⟨o, es, ep, ho, hd, hk, _, hm⟩ := n
  refine ⟨o, ho, fun name => ?_⟩
  have e := hm name
  unfold nsFind findBy at e
  rw [← Array.find?_toList] at e
  unfold PySem.W.lookIn
  rw [hd]
  dsimp only
  split
  · rename_i y q
    rw [q] at e
    exact congrArg some e
  · rename_i q
    rw [q] at e
    have a : es.toList.any (·.refKey) = false := by
      rw [List.any_eq_false]
      intro y hy
      obtain ⟨z, t, hkey⟩ := hk y (Array.mem_toList_iff.mp hy)
      simp [DictEntry.refKey, hkey]
    have a' : ¬ es.toList.any (·.refKey) = true := by rw [a]; exact Bool.false_ne_true
    rw [if_neg a']
    exact congrArg some e

theorem ObjM.look {h : Heap} {x dx C : Addr} {mA : Str → Option Value} (I : ObjM h x dx C mA) : ∃ od, PySem.W.InstAt h x (PySem.W.instObj C dx) C (some od) ∧ ∀ name, PySem.W.lookIn name od = some (mA name) :=
  let ⟨od, ho, hl⟩ := lookIn_ns I.ns
  ⟨od, ⟨I.obj, rfl, rfl, ho⟩, hl⟩

section
variable {prog : Program} {w : World} {A : Around} {E : Value → Shared → Prop} {s : Shared} {K : PySem.W.Frag} {x dx C f : Addr} {mA : Str → Option Value} {name : Str} {v : Value}

theorem get_map {expr : Bool} {Q : Value → Shared → Prop} (X : K.In s.heap) (I : ObjM s.heap x dx C mA) (hg : PySem.W.plainGet K C name = true) (hh : PySem.W.hasDictIn K C = true)
    (ha : PySem.W.findIn K (.ref C) name = some none) (hv : mA name = some v) (hv' : PySem.W.handedIn v = true) (h : Q v { s with toks := s.toks + 1 }) :
    wpAny (model prog w) A (getAttr (.ref x) name expr) Q E s := by
  obtain ⟨od, J, hl⟩ := I.look
  exact PySem.W.get_value X J (PySem.W.plainGet_of hg).1 (PySem.W.findObj_own hh ha rfl (by rw [hl, hv])) hv' h

theorem get_const {expr : Bool} {a : Value} {Q : Value → Shared → Prop} (X : K.In s.heap) (I : ObjM s.heap x dx C mA) (hg : PySem.W.plainGet K C name = true) (hh : PySem.W.hasDictIn K C = true)
    (ha : PySem.W.findIn K (.ref C) name = some (some a)) (hn : PySem.W.specialIn K a "__get__" = some none) (hc : PySem.W.copiedNames.contains name = false) (hv : mA name = none) (hv' : PySem.W.handedIn a = true)
    (h : Q a { s with toks := s.toks + 1 }) : wpAny (model prog w) A (getAttr (.ref x) name expr) Q E s := by
  obtain ⟨od, J, hl⟩ := I.look
  exact PySem.W.get_value X J (PySem.W.plainGet_of hg).1 (PySem.W.findObj_cls hh ha hn hv' hc (by rw [hl, hv])) hv' h

theorem get_meth {pl : Sem Bool} {Q : Value × List Value → Shared → Prop} (X : K.In s.heap) (I : ObjM s.heap x dx C mA) (hg : PySem.W.plainGet K C name = true)
    (hf : PySem.W.findIn K (.ref C) name = some (some (.ref f))) (ht : PySem.W.isFn K (.ref f) = true) (hv : mA name = none) (h : Q (.ref f, [.ref x]) s) :
    wpAny (model prog w) A (getMethod (.ref x) name pl) Q E s := by
  obtain ⟨od, J, hl⟩ := I.look
  exact PySem.W.method_fn X J (PySem.W.plainGet_of hg).1 (PySem.W.plainGet_of hg).2 hf (beq_iff_eq.mp ht) (by show (PySem.W.lookIn name od).map (·.isSome) = some false; rw [hl, hv]; rfl) h

theorem set_map {ns : List Str} {Q : Unit → Shared → Prop} (X : K.In s.heap) (I : ObjM s.heap x dx C mA)
    (hs : PySem.W.findIn K (.ref C) "__setattr__" = some (some (.builtin "object.__setattr__"))) (hp : PySem.W.plainOver K C = true) (ht : PySem.W.takerIn K C name = some none) (hh : PySem.W.hasDictIn K C = true)
    (hw : PySem.Within mA ns) (hsz : ns.length ≤ sizeLine)
    (h : ∀ h', ObjM h' x dx C (fun y => if y = name then some v else mA y) → Heap.SameBut dx s.heap h' → Q () { s with heap := h', toks := s.toks + 2 }) :
    wpAny (model prog w) A (setAttr (.ref x) name v) Q E s := by
  obtain ⟨od, J, hl⟩ := I.look
  refine PySem.W.set_plain X J hs (PySem.W.osa_open (s := { s with toks := s.toks + 1 }) (r := none) X J hp ht fun b => ?_)
  obtain ⟨cd, hc, hd'⟩ := PySem.W.any_some hh
  have hx : s.heap.get? x = some ⟨.ref C, some dx, .plain, #[]⟩ := I.obj
  refine wpAny_bind (wpAny_pure (wpAny_bind (wpAny_bind (wpAny_loadPart hx (wpAny_bind (PySem.W.Looks.here (s := { s with toks := s.toks + 1 }) (PySem.W.looks_clsIn X hc) ?_))))))
  rw [hd']
  refine wpAny_pure (a := some dx) (wpAny_bind (wpAny_pure (wpAny_bind ?_)))
  refine wpAny_nsSet1 (s := { s with toks := s.toks + 1 }) I.ns fun h' hn2 hs2 => ?_
  obtain ⟨oD, esD, epD, hoD, hdD, hcD⟩ := hn2.count (PySem.Within.cons name v hw)
  refine wpAny_bind (wpAny_lookBehind hoD (by rw [hdD]; exact pastItsLine_dict (Nat.le_trans hcD (by rw [List.length_cons]; omega))) ?_)
  exact wpAny_pure (h _ ⟨(hs2.2 _ (Ne.symm I.ne)).trans I.obj, hn2, I.ne⟩ hs2)

/-- C(..): the dict at the heap's end, the instance behind it; then its __init__ -/
theorem make_map {R : Result → Shared → Prop} {vs : List Value} {kw : List (Str × Value)} (X : K.In s.heap) (hm : PySem.W.makesIn K C = true)
    (hi : PySem.W.findIn K (.ref C) "__init__" = some (some (.ref f))) (hf : PySem.W.typeIn K (.ref f) = some (.type "function"))
    (h : codeAny (model prog w) (A.under (.builtin "type.__call__" ⟨.ref C :: vs, kw⟩)) (.call (.ref f) ⟨.ref (s.heap.objs.size + 1) :: vs, kw⟩) (PySem.W.InitBack (s.heap.objs.size + 1) R)
      { s with heap := (s.heap.push PySem.W.emptyDict).push (PySem.W.instObj C s.heap.objs.size) }) :
    codeAny (model prog w) A (.call (.ref C) ⟨vs, kw⟩) R s := by
  obtain ⟨hh, g, d, t, os⟩ := s
  exact PySem.W.make_core (PySem.W.makes_of X hm) (PySem.W.looks_findIn X hi) (fun self => PySem.W.bind_fn X self hf) (.inl rfl) h
/-- C() where there is no __init__ but object's -/
theorem make_map0 {R : Result → Shared → Prop} (X : K.In s.heap) (hm : PySem.W.makesIn K C = true)
    (hi : PySem.W.findIn K (.ref C) "__init__" = some (some (.builtin "object.__init__")))
    (hb : ∀ self, PySem.W.Looks (model prog w) s.heap (bindSpecial (.builtin "object.__init__") self) (.builtin "object.__init__", [self]))
    (h : codeAny (model prog w) (A.under (.builtin "type.__call__" ⟨[.ref C], []⟩)) (.call (.builtin "object.__init__") ⟨[.ref (s.heap.objs.size + 1)], []⟩) (PySem.W.InitBack (s.heap.objs.size + 1) R)
      { s with heap := (s.heap.push PySem.W.emptyDict).push (PySem.W.instObj C s.heap.objs.size) }) :
    codeAny (model prog w) A (.call (.ref C) ⟨[], []⟩) R s := by
  obtain ⟨hh, g, d, t, os⟩ := s
  exact PySem.W.make_core (PySem.W.makes_of X hm) (PySem.W.looks_findIn X hi) hb (.inr ⟨rfl, rfl⟩) h
end

/-! ### the attributes as a list of pairs -/
def putF (f : Str) (v : V) : List (Str × V) → List (Str × V)
  | [] => [(f, v)]
  | (g, x) :: r => if g = f then (g, v) :: r else (g, x) :: putF f v r
theorem lookup_putF (f g : Str) (v : V) : ∀ fs : List (Str × V), (putF f v fs).lookup g = if g = f then some v else fs.lookup g
  | [] => by
    show List.lookup g [(f, v)] = _
    by_cases h : g = f
    · have hb : (g == f) = true := beq_iff_eq.mpr h
      simp only [List.lookup, hb, if_pos h]
    · have hb : (g == f) = false := beq_eq_false_iff_ne.mpr h
      simp only [List.lookup, hb, if_neg h]
  | (k, x) :: r => by
    have ih := lookup_putF f g v r
    rw [show putF f v ((k, x) :: r) = (if k = f then (k, v) :: r else (k, x) :: putF f v r) from rfl]
    by_cases hk : k = f
    · rw [if_pos hk]
      by_cases h : g = k
      · have hb : (g == k) = true := beq_iff_eq.mpr h
        simp only [List.lookup, hb, if_pos (h.trans hk)]
      · have hb : (g == k) = false := beq_eq_false_iff_ne.mpr h
        simp only [List.lookup, hb, if_neg (fun e : g = f => h (e.trans hk.symm))]
    · rw [if_neg hk]
      by_cases h : g = k
      · have hb : (g == k) = true := beq_iff_eq.mpr h
        simp only [List.lookup, hb, if_neg (fun e : g = f => hk (h.symm.trans e))]
      · have hb : (g == k) = false := beq_eq_false_iff_ne.mpr h
        simp only [List.lookup, hb]
        exact ih
theorem keys_putF (f : Str) (v : V) : ∀ fs : List (Str × V), f ∈ (putF f v fs).map (·.1) ∧ ∀ g, g ∈ fs.map (·.1) → g ∈ (putF f v fs).map (·.1)
  | [] => ⟨by simp [putF], fun g h => by simp at h⟩
  | (k, x) :: r => by
    obtain ⟨i1, i2⟩ := keys_putF f v r
    rw [show putF f v ((k, x) :: r) = (if k = f then (k, v) :: r else (k, x) :: putF f v r) from rfl]
    by_cases hk : k = f
    · rw [if_pos hk]
      subst hk
      exact ⟨by simp, fun g h => by simpa using h⟩
    · rw [if_neg hk]
      refine ⟨?_, fun g h => ?_⟩
      · rw [List.map_cons]
        exact List.mem_cons_of_mem _ i1
      · rw [List.map_cons] at h ⊢
        rcases List.mem_cons.mp h with e | e
        · exact List.mem_cons.mpr (.inl e)
        · exact List.mem_cons_of_mem _ (i2 g e)
theorem length_putF (f : Str) (v : V) : ∀ fs : List (Str × V), (putF f v fs).length ≤ fs.length + 1
  | [] => by simp [putF]
  | (k, x) :: r => by
    have ih := length_putF f v r
    rw [show putF f v ((k, x) :: r) = (if k = f then (k, v) :: r else (k, x) :: putF f v r) from rfl]
    by_cases hk : k = f
    · rw [if_pos hk, List.length_cons, List.length_cons]; omega
    · rw [if_neg hk, List.length_cons, List.length_cons]; omega

theorem RelO.some_of {v : V} {o : Option Value} (r : RelO (some v) o) : ∃ u, o = some u ∧ RelV v u := by
  cases o with
  | none => exact (show False from r).elim
  | some u => exact ⟨u, rfl, r⟩
theorem RelO.none_of {o : Option Value} (r : RelO none o) : o = none := by
  cases o with
  | none => rfl
  | some u => exact (show False from r).elim
theorem handed_of {v : V} {u : Value} (r : RelV v u) : PySem.W.handedIn u = true := by
  cases v with
  | non => cases (show u = Value.none from r); rfl
  | bl b => cases (show u = Value.bool b from r); rfl
  | int i => obtain ⟨t, e⟩ := (show ∃ t, u = Value.int i t from r); cases e; rfl
  | str x => obtain ⟨t, e⟩ := (show ∃ t, u = Value.str x t from r); cases e; rfl
  | byt b => obtain ⟨t, e⟩ := (show ∃ t, u = Value.bytes b t from r); cases e; rfl
  | flt b => obtain ⟨t, e⟩ := (show ∃ t, u = Value.float b t from r); cases e; rfl
  | ref a => cases (show u = Value.ref a from r); rfl
  | ty n => cases (show u = Value.type n from r); rfl

section
variable {P : Program} {w : World} {H H' : Hp} {h h' : Heap} {a C dx : Addr} {fs fs' : List (Str × V)}
theorem ins_get (hok : HOk P w H h) (e : H a = some (.ins C dx fs)) : ∃ mA, ObjM h a dx C mA ∧ (∀ f, RelO (fs.lookup f) (mA f)) ∧ PySem.Within mA (fs.map (·.1)) ∧ fs.length ≤ 1000 ∧ H dx = some (.own a) := by
  obtain ⟨d, z, ne, ob, mA, n, r, q⟩ := (show ObjOk P w H h a (.ins C dx fs) from hok a _ e)
  exact ⟨mA, ⟨ob, n, ne⟩, r, q, z, d⟩
end

/-! ### what of the text a class must have -/
structure Cls (K : PySem.W.Frag) (C : Addr) : Prop where
  pg : PySem.W.plainGet K C Str.empty = true
  hd : PySem.W.hasDictIn K C = true
  po : PySem.W.plainOver K C = true
  sa : PySem.W.findIn K (.ref C) "__setattr__" = some (some (.builtin "object.__setattr__"))
theorem Cls.get {K : PySem.W.Frag} {C : Addr} (c : Cls K C) (f : Str) : PySem.W.plainGet K C f = true := c.pg
/-- no class of it has the name -/
def NoAttr (K : PySem.W.Frag) (C : Addr) (f : Str) : Prop := PySem.W.findIn K (.ref C) f = some none
theorem NoAttr.taker {K : PySem.W.Frag} {C : Addr} {f : Str} (n : NoAttr K C f) : PySem.W.takerIn K C f = some none := by
  unfold PySem.W.takerIn
  rw [show PySem.W.findIn K (.ref C) f = some none from n]
  rfl
/-- a constant of the class -/
structure Con (K : PySem.W.Frag) (C : Addr) (f : Str) (v : V) (u : Value) : Prop where
  at_ : PySem.W.findIn K (.ref C) f = some (some u)
  rel : RelV v u
  get : PySem.W.specialIn K u "__get__" = some none
  cp : PySem.W.copiedNames.contains f = false
/-- a method: a plain def of the class or of one above it -/
structure Meth (K : PySem.W.Frag) (C : Addr) (m : Str) (f : Addr) : Prop where
  at_ : PySem.W.findIn K (.ref C) m = some (some (.ref f))
  fn : PySem.W.isFn K (.ref f) = true
  kp : PySem.W.keepIn K (.ref f) = true

section
variable {X : Cx} {pins : List (Addr × Obj)} {σ : St} {H : Hp} {s : Shared} {a C dx : Addr} {fs : List (Str × V)} {f : Str} {v : V} {A : Around} {E : Value → Shared → Prop}

theorem getattr_ok {b : Bool} {Q : Value → Shared → Prop} (I : Inv X pins σ H s) (e : H a = some (.ins C dx fs)) (c : Cls X.K C) (n : NoAttr X.K C f) (l : fs.lookup f = some v)
    (h : ∀ u s', Inv X pins σ H s' → RelV v u → Q u s') : wpAny (model X.prog X.w) A (getAttr (.ref a) f b) Q E s := by
  obtain ⟨mA, O, r, _, _, _⟩ := ins_get I.hok e
  obtain ⟨u, hu, ru⟩ := RelO.some_of (v := v) (o := mA f) (by rw [← l]; exact r f)
  exact get_map I.kIn O (c.get f) c.hd n hu (handed_of ru) (h u _ (I.tok _) ru)

theorem getcon_ok {b : Bool} {u : Value} {Q : Value → Shared → Prop} (I : Inv X pins σ H s) (e : H a = some (.ins C dx fs)) (c : Cls X.K C) (k : Con X.K C f v u) (l : fs.lookup f = none)
    (h : ∀ s', Inv X pins σ H s' → Q u s') : wpAny (model X.prog X.w) A (getAttr (.ref a) f b) Q E s := by
  obtain ⟨mA, O, r, _, _, _⟩ := ins_get I.hok e
  have hn : mA f = none := RelO.none_of (by rw [← l]; exact r f)
  exact get_const I.kIn O (c.get f) c.hd k.at_ k.get k.cp hn (handed_of k.rel) (h _ (I.tok _))

theorem getmeth_ok {m : Str} {g : Addr} {pl : Sem Bool} {Q : Value × List Value → Shared → Prop} (I : Inv X pins σ H s) (e : H a = some (.ins C dx fs)) (c : Cls X.K C) (k : Meth X.K C m g) (l : fs.lookup m = none)
    (h : Q (.ref g, [.ref a]) s) : wpAny (model X.prog X.w) A (getMethod (.ref a) m pl) Q E s := by
  obtain ⟨mA, O, r, _, _, _⟩ := ins_get I.hok e
  have hn : mA m = none := RelO.none_of (by rw [← l]; exact r m)
  exact get_meth I.kIn O (c.get m) k.at_ k.fn hn h

theorem setattr_ok {y : V} {u : Value} {Q : Unit → Shared → Prop} (I : Inv X pins σ H s) (e : H a = some (.ins C dx fs)) (c : Cls X.K C) (n : NoAttr X.K C f) (hl : fs.length < 1000) (ry : RelV y u)
    (h : ∀ s', Inv X pins σ (upd H a (.ins C dx (putF f y fs))) s' → Q () s') : wpAny (model X.prog X.w) A (setAttr (.ref a) f u) Q E s := by
  obtain ⟨mA, O, r, wi, _, ho⟩ := ins_get I.hok e
  have hz : (fs.map (·.1)).length ≤ sizeLine := by rw [List.length_map, sizeLine_eq]; omega
  refine set_map I.kIn O c.sa c.po n.taker c.hd wi hz fun h' O' sb => h _ ?_
  have hd : ∃ o, h'.get? dx = some o := let ⟨o, _, _, e', _⟩ := O'.ns; ⟨o, e'⟩
  refine I.write (x := a) (e := dx) (by rw [e]; exact True.intro) (.inr ho) (fun b q hb z => (sb.2 b hb).trans z) hd ?_
  refine ⟨by rw [upd_ne O.ne]; exact ho, ?_, O.ne, O'.obj, _, O'.ns, fun g => ?_, fun g hg => ?_⟩
  · have := length_putF f y fs; omega
  · show RelO ((putF f y fs).lookup g) (if g = f then some u else mA g)
    rw [lookup_putF]
    by_cases q : g = f
    · rw [if_pos q, if_pos q]; exact ry
    · rw [if_neg q, if_neg q]; exact r g
  · by_cases q : g = f
    · rw [q]; exact (keys_putF f y fs).1
    · refine (keys_putF f y fs).2 g (wi g fun z => hg ?_)
      show (if g = f then some u else mA g) = none
      rw [if_neg q]; exact z

/-- a new instance, tracked, without attributes -/
theorem Inv.made (I : Inv X pins σ H s) : Inv X pins σ (upd (upd H s.heap.objs.size (.own (s.heap.objs.size + 1))) (s.heap.objs.size + 1) (.ins C s.heap.objs.size []))
    { s with heap := (s.heap.push PySem.W.emptyDict).push (PySem.W.instObj C s.heap.objs.size) } := by
  have e1 : (s.heap.push PySem.W.emptyDict).get? s.heap.objs.size = some PySem.W.emptyDict := Heap.get?_push_size s.heap rfl
  have e2 : ((s.heap.push PySem.W.emptyDict).push (PySem.W.instObj C s.heap.objs.size)).get? (s.heap.objs.size + 1) = some (PySem.W.instObj C s.heap.objs.size) := by
    have := Heap.get?_push_size (s.heap.push PySem.W.emptyDict) (o := PySem.W.instObj C s.heap.objs.size) rfl
    rwa [Heap.size_push] at this
  have e3 : (s.heap.push PySem.W.emptyDict).Ns s.heap.objs.size (fun _ => none) := ⟨PySem.W.emptyDict, #[], _, e1, rfl, (fun e he => absurd he (by simp)), fun _ => rfl⟩
  have I1 := I.laid (a := s.heap.objs.size) (o := .own (s.heap.objs.size + 1)) (h' := s.heap.push PySem.W.emptyDict) (t' := s.toks) (fun b u q => Heap.get?_push_of_some _ q) (Nat.le_refl _) ⟨_, e1⟩
  refine I1.laid (a := s.heap.objs.size + 1) (o := .ins C s.heap.objs.size []) (t' := s.toks) (fun b u q => Heap.get?_push_of_some _ q) (Nat.le_of_eq (Heap.size_push _ _)) ?_
  have ne : s.heap.objs.size ≠ s.heap.objs.size + 1 := Nat.ne_of_lt (Nat.lt_succ_self _)
  refine ⟨by rw [upd_ne ne, upd_same], Nat.zero_le _, ne, e2, fun _ => none, (Heap.Ns1.of_empty e3).at fun o q => Heap.get?_push_of_some _ q, fun _ => True.intro, fun y hy => absurd rfl hy⟩

/-- e.f where nothing but the object is asked: through attributeBase (super) and the last hold -/
theorem attr_of {prog : Program} {w : World} {env : Env} {e : Expr} {f : Str} {pos : Pos} {s : Shared} {Q : Value → Shared → Prop} (hb : attributeBase e f env (eval e env) = eval e env)
    (h : wpAny (model prog w) A (eval e env) (fun o s₁ => wpAny (model prog w) A (getAttr o f true) Q E s₁) E s) : wpAny (model prog w) A (eval (.Attribute e f pos) env) Q E s :=
  Attribute_any_ h (by rw [arm_eval_Attribute, hb])
end

/-! ### readings and rules -/
/-- e.f, an attribute of the instance -/
def tFld (K : PySem.W.Frag) (ta : TE) (f : Str) : TE := fun σ H Q => ta σ H fun x H1 => ∃ a C dx fs v, x = .ref a ∧ H1 a = some (.ins C dx fs) ∧ Cls K C ∧ NoAttr K C f ∧ fs.lookup f = some v ∧ Q v H1
/-- e.f, a constant of the class -/
def tCon (K : PySem.W.Frag) (ta : TE) (f : Str) : TE := fun σ H Q => ta σ H fun x H1 => ∃ a C dx fs v u, x = .ref a ∧ H1 a = some (.ins C dx fs) ∧ Cls K C ∧ Con K C f v u ∧ fs.lookup f = none ∧ Q v H1
/-- e.f = value -/
def sFld (K : PySem.W.Frag) (ta tv : TE) (f : Str) : TS := fun D σ H => tv σ H fun y H1 => ta σ H1 fun x H2 => ∃ a C dx fs, x = .ref a ∧ H2 a = some (.ins C dx fs) ∧ Cls K C ∧ NoAttr K C f ∧ fs.length < 1000 ∧
  D.nx σ (upd H2 a (.ins C dx (putF f y fs)))
/-- an augmented operator on two values -/
def InOp (X : Cx) (op : Operator) (rd : V → V → Hp → VK → Prop) : Prop :=
  ∀ (pins : List (Addr × Obj)) (s : Shared) (σ : St) (H : Hp) (x y : V) (u v : Value) (Q : VK), Inv X pins σ H s → RelV x u → RelV y v → rd x y H Q → wpAny (model X.prog X.w) X.A (inplaceOp op u v) (EP X pins σ Q) X.xe s
/-- e.f op= value -/
def sFldAug (K : PySem.W.Frag) (ta tv : TE) (rd : V → V → Hp → VK → Prop) (f : Str) : TS := fun D σ H => ta σ H fun x H1 => ∃ a C dx fs v, x = .ref a ∧ H1 a = some (.ins C dx fs) ∧ Cls K C ∧ NoAttr K C f ∧ fs.lookup f = some v ∧
  tv σ H1 fun y H2 => rd v y H2 fun z H3 => ∃ dx' fs', H3 a = some (.ins C dx' fs') ∧ fs'.length < 1000 ∧ D.nx σ (upd H3 a (.ins C dx' (putF f z fs')))

section
variable {X : Cx} {o e value : Expr} {f : Str} {pos pos' tpos : Pos} {ta tv : TE}
theorem pe_fld (he : PE X e ta) (hb : attributeBase e f X.env (eval e X.env) = eval e X.env) : PE X (.Attribute e f pos) (tFld X.K ta f) := by
  intro pins s σ H Q I h
  refine attr_of hb (thn (he pins s σ H _ I h) fun u s1 ⟨x, H1, I1, rx, a, C, dx, fs, v, ex, ea, c, n, l, q⟩ => ?_)
  subst ex
  obtain rfl : u = Value.ref a := rx
  exact getattr_ok I1 ea c n l fun u' s2 I2 ru => ⟨v, H1, I2, ru, q⟩
theorem pe_con (he : PE X e ta) (hb : attributeBase e f X.env (eval e X.env) = eval e X.env) : PE X (.Attribute e f pos) (tCon X.K ta f) := by
  intro pins s σ H Q I h
  refine attr_of hb (thn (he pins s σ H _ I h) fun u s1 ⟨x, H1, I1, rx, a, C, dx, fs, v, u0, ex, ea, c, k, l, q⟩ => ?_)
  subst ex
  obtain rfl : u = Value.ref a := rx
  exact getcon_ok I1 ea c k l fun s2 I2 => ⟨v, H1, I2, k.rel, q⟩
theorem ps_fld (ha : PE X o ta) (hv : PE X value tv) (hs : swapsWith value (some (.Attribute o f pos')) pos.line X.env = pure false) : PS X (.Assign [.Attribute o f pos'] value pos) (sFld X.K ta tv f) := by
  intro pins s σ H D I h
  refine plainObj_wpAny_Assign_Attribute (thn (hv pins s σ H _ I h) fun u s1 ⟨y, H1, I1, ry, q⟩ => thn (ha pins s1 σ H1 _ I1 q) fun ov s2 ⟨x, H2, I2, rx, a, C, dx, fs, ex, ea, c, n, l, q2⟩ => ?_) hs
  subst ex
  obtain rfl : ov = Value.ref a := rx
  exact setattr_ok I2 ea c n l ry fun s3 I3 => ⟨σ, _, I3, q2⟩
theorem ps_fldaug {op : Operator} {rd : V → V → Hp → VK → Prop} (ha : PE X o ta) (hv : PE X value tv) (hop : InOp X op rd) : PS X (.AugAssign (.Attribute o f tpos) op value pos) (sFldAug X.K ta tv rd f) := by
  intro pins s σ H D I h
  refine wpAny_AugAssign_AttributeAny (thn (ha pins s σ H _ I h) fun ov s1 ⟨x, H1, I1, rx, a, C, dx, fs, v, ex, ea, c, n, l, q⟩ => ?_)
  subst ex
  obtain rfl : ov = Value.ref a := rx
  refine getattr_ok I1 ea c n l fun u s2 I2 ru => thn (hv pins s2 σ H1 _ I2 q) fun w3 s3 ⟨y, H2, I3, ry, q3⟩ => thn (hop pins s3 σ H2 v y u w3 _ I3 ru ry q3) fun w4 s4 ⟨z, H3, I4, rz, dx', fs', ea', l', q4⟩ => ?_
  exact setattr_ok I4 ea' c n l' rz fun s5 I5 => ⟨σ, _, I5, q4⟩
def rAdd : V → V → Hp → VK → Prop := fun x y H Q => ∃ i j, x = .int i ∧ y = .int j ∧ Q (.int (i + j)) H
def rSub : V → V → Hp → VK → Prop := fun x y H Q => ∃ i j, x = .int i ∧ y = .int j ∧ Q (.int (i - j)) H
theorem in_add : InOp X .Add rAdd := by
  rintro pins s σ H x y u v Q I rx ry ⟨i, j, rfl, rfl, q⟩
  obtain ⟨t, rfl⟩ := (show ∃ t, u = Value.int i t from rx)
  obtain ⟨t', rfl⟩ := (show ∃ t', v = Value.int j t' from ry)
  exact PyProof.Rows.iadd_int ⟨.int (i + j), H, I.tok _, ⟨_, rfl⟩, q⟩
theorem in_sub : InOp X .Sub rSub := by
  rintro pins s σ H x y u v Q I rx ry ⟨i, j, rfl, rfl, q⟩
  obtain ⟨t, rfl⟩ := (show ∃ t, u = Value.int i t from rx)
  obtain ⟨t', rfl⟩ := (show ∃ t', v = Value.int j t' from ry)
  exact PyProof.Rows.isub_int ⟨.int (i - j), H, I.tok _, ⟨_, rfl⟩, q⟩

/-- what is between an instance and its method: the tree of a method call -/
theorem methcall_of {pl : Sem Bool} {m : Str} {apos : Pos} {args : List Expr} {pins : List (Addr × Obj)} {s : Shared} {σ : St} {H : Hp} {Q : Value → Shared → Prop} {te : TE} (he : PE X e te) (I : Inv X pins σ H s)
    (h : te σ H fun x H1 => ∃ a C dx fs g, x = .ref a ∧ H1 a = some (.ins C dx fs) ∧ Cls X.K C ∧ Meth X.K C m g ∧ fs.lookup m = none ∧
      ∀ s1, Inv X pins σ H1 s1 → wpAny (model X.prog X.w) X.A (callWith pos (.ref g) [.ref a] (backTo pos (starEach args X.env)) (backToKw pos (keywordEach [] X.env))) Q X.xe s1)
    (ht : eval (.Call (.Attribute e m apos) args [] pos) X.env = (do
      let ov ← eval e X.env
      standAt apos.atName
      let (f, first) ← holding [ov] (getMethod ov m pl)
      callWith pos f first (backTo pos (starEach args X.env)) (backToKw pos (keywordEach [] X.env)))) :
    wpAny (model X.prog X.w) X.A (eval (.Call (.Attribute e m apos) args [] pos) X.env) Q X.xe s := by
  refine PySem.W.methodCall_KW (pl := pl) (thn (he pins s σ H _ I h) fun u s1 ⟨x, H1, I1, rx, a, C, dx, fs, g, ex, ea, c, k, l, q⟩ => ?_) ht
  subst ex
  obtain rfl : u = Value.ref a := rx
  exact getmeth_ok I1 ea c k l (q s1 I1)
end

/-! ### isinstance -/
section
variable {X : Cx} {pins : List (Addr × Obj)} {σ : St} {H : Hp} {s : Shared} {A : Around} {E : Value → Shared → Prop} {Q : Value → Shared → Prop} {c : Value} {b : Bool}
/-- the type of a value, as the fragment's deciders take it; for an instance its class -/
inductive TyOf (K : PySem.W.Frag) (H : Hp) : V → Value → Prop where
  | non : TyOf K H .non (.type "NoneType")
  | bl (x : Bool) : TyOf K H (.bl x) (.type "bool")
  | int (i : Int) : TyOf K H (.int i) (.type "int")
  | str (x : Str) : TyOf K H (.str x) (.type "str")
  | flt (x : UInt64) : TyOf K H (.flt x) (.type "float")
  | lst {a : Addr} {xs : List V} (e : H a = some (.lst xs)) : TyOf K H (.ref a) (.type "list")
  | frz {a : Addr} {o : Obj} {xs : List V} (e : H a = some (.frz o (.lst xs))) : TyOf K H (.ref a) (.type "list")
  | tup {a : Addr} {xs : List V} (e : H a = some (.tup xs)) : TyOf K H (.ref a) (.type "tuple")
  | dK {a : Addr} {kvs : List (Key × V)} (e : H a = some (.dK kvs)) : TyOf K H (.ref a) (.type "dict")
  | dT {a : Addr} {kvs : List (List Key × V)} (e : H a = some (.dT kvs)) : TyOf K H (.ref a) (.type "dict")
  | ins {a C dx : Addr} {fs : List (Str × V)} (e : H a = some (.ins C dx fs)) (cl : Cls K C) (ha : PySem.W.findIn K (.ref C) "__class__" = some (some (.builtin "object.__class__")))
      (hn : PySem.W.specialIn K (.builtin "object.__class__") "__get__" = some (some (.builtin "getset_descriptor.__get__"))) (htk : PySem.W.takesIn K (.builtin "object.__class__") = some true)
      (hm : PySem.W.mroIn K C (.type "object") = some true) : TyOf K H (.ref a) (.ref C)
/-- isinstance(x, c) for one class c, a built-in or an own one: kitOne's answer -/
theorem isinst_ok {x : V} {u t : Value} (I : Inv X pins σ H s) (rx : RelV x u) (ty : TyOf X.K H x t) (e : PySem.W.kitOne X.K t c = some b) (h : ∀ tk, Q (.bool b) { s with toks := tk }) :
    wpAny (model X.prog X.w) A (call (.builtin "isinstance") [u, c]) Q E s := by
  cases ty with
  | non => cases (show u = Value.none from rx); exact PySem.W.kia_one PySem.W.kitx_none I.kIn True.intro e (fun z => nomatch z) h
  | bl y => cases (show u = Value.bool y from rx); exact PySem.W.kia_one PySem.W.kitx_bool I.kIn True.intro e (fun z => nomatch z) h
  | int i => obtain ⟨t, q⟩ := (show ∃ t, u = Value.int i t from rx); cases q; exact PySem.W.kia_one PySem.W.kitx_int I.kIn True.intro e (fun z => nomatch z) h
  | str y => obtain ⟨t, q⟩ := (show ∃ t, u = Value.str y t from rx); cases q; exact PySem.W.kia_one PySem.W.kitx_str I.kIn True.intro e (fun z => nomatch z) h
  | flt y => obtain ⟨t, q⟩ := (show ∃ t, u = Value.float y t from rx); cases q; exact PySem.W.kia_one PySem.W.kitx_float I.kIn True.intro e (fun z => nomatch z) h
  | @lst a xs ea =>
    cases (show u = Value.ref a from rx)
    obtain ⟨_, _, n, _, h1⟩ := (show ObjOk X.prog X.w H s.heap a (.lst xs) from I.hok a _ ea)
    exact PySem.W.kia_one PySem.W.kitx_list I.kIn ⟨_, h1, rfl⟩ e (fun z => nomatch z) h
  | @frz a ob xs ea =>
    cases (show u = Value.ref a from rx)
    obtain ⟨_, _, _, n, _, h1⟩ := (show ObjOk X.prog X.w H s.heap a (.frz ob (.lst xs)) from I.hok a _ ea)
    exact PySem.W.kia_one PySem.W.kitx_list I.kIn ⟨_, h1, rfl⟩ e (fun z => nomatch z) h
  | @tup a xs ea =>
    cases (show u = Value.ref a from rx)
    obtain ⟨_, _, _, p⟩ := (show ObjOk X.prog X.w H s.heap a (.tup xs) from I.hok a _ ea)
    obtain ⟨o, h1, h2, _⟩ := p
    exact PySem.W.kia_one PySem.W.kitx_tuple I.kIn ⟨o, h1, h2⟩ e (fun z => nomatch z) h
  | @dK a kvs ea =>
    cases (show u = Value.ref a from rx)
    obtain ⟨_, _, vs, _, p⟩ := (show ObjOk X.prog X.w H s.heap a (.dK kvs) from I.hok a _ ea)
    obtain ⟨o, es, ep, h1, h2, _⟩ := p
    exact PySem.W.kia_one PySem.W.kitx_dict I.kIn ⟨o, h1, h2.1⟩ e (fun z => nomatch z) h
  | @dT a kvs ea =>
    cases (show u = Value.ref a from rx)
    obtain ⟨_, _, xs, _, o, es, ep, h1, h2, _⟩ := (show ObjOk X.prog X.w H s.heap a (.dT kvs) from I.hok a _ ea)
    exact PySem.W.kia_one PySem.W.kitx_dict I.kIn ⟨o, h1, h2.1⟩ e (fun z => nomatch z) h
  | @ins a C dx fs ea cl ha hn htk hm =>
    cases (show u = Value.ref a from rx)
    obtain ⟨mA, O, _⟩ := ins_get I.hok ea
    obtain ⟨od, J, _⟩ := O.look
    exact PySem.W.kia_one (PySem.W.kitx_own (cl.get _) cl.hd ha hn htk hm) I.kIn J e (fun z => nomatch z) h
end
end L2

namespace L2
open PySem PySem.Spec PyProof.Rows

/-! ### room -/
structure Room (k : Nat) (A : Around) : Prop where
  hd : A.handled = none
  dp : A.depth + 3 * k + 5 < recursionLimit
  un : A.units + 16 * k + 200 < cLine
theorem Room.mono {j k : Nat} {A : Around} (r : Room k A) (h : j ≤ k) : Room j A := ⟨r.hd, by have := r.dp; omega, by have := r.un; omega⟩
theorem Room.deeper {k : Nat} {A : Around} (r : Room (k + 1) A) (env : Env) : Room k (A.deeper env) :=
  ⟨r.hd, by have := r.dp; show A.depth + 1 + 3 * k + 5 < _; omega, by have := r.un; show A.units + 3 + 16 * k + 200 < _; omega⟩
theorem Room.in1 {k : Nat} {A : Around} (r : Room (k + 1) A) : Room k A.in1 :=
  ⟨r.hd, by have := r.dp; show A.depth + 3 * k + 5 < _; omega, by have := r.un; show A.units + 1 + 16 * k + 200 < _; omega⟩
theorem make_depth {A : Around} {C : Addr} {us : List Value} {kw : List (Str × Value)} : (A.under (.builtin "type.__call__" ⟨.ref C :: us, kw⟩)).depth = A.depth + 1 := by
  first | rfl | simp [Around.under, Code.weight, Code.isCreation, Code.isGuard, Code.isCaller, Code.frames, Code.isFrame, guardIds]
theorem make_units {A : Around} {C : Addr} {us : List Value} {kw : List (Str × Value)} : (A.under (.builtin "type.__call__" ⟨.ref C :: us, kw⟩)).units = A.units + 1 := by
  first | rfl | simp [Around.under, Code.cUnits, Code.frames, Code.isFrame]
theorem Room.make {k : Nat} {A : Around} (r : Room (k + 1) A) (C : Addr) (us : List Value) (kw : List (Str × Value)) : Room k (A.under (.builtin "type.__call__" ⟨.ref C :: us, kw⟩)) :=
  ⟨r.hd, by have := r.dp; rw [make_depth]; omega, by have := r.un; rw [make_units]; omega⟩
theorem Room.depth {k : Nat} {A : Around} (r : Room k A) : A.depth < recursionLimit := by have := r.dp; omega
theorem Room.units {k : Nat} {A : Around} (r : Room k A) : A.units + 64 < cLine := by have := r.un; omega
theorem Room.units0 {k : Nat} {A : Around} (r : Room k A) : A.units < cLine := by have := r.un; omega

/-! ### argument lists and displays -/
def tNil : TA := fun _ H Q => Q [] H
def tCons (ta : TE) (tr : TA) : TA := fun σ H Q => ta σ H fun x H1 => tr σ H1 fun xs H2 => Q (x :: xs) H2
section
variable {X : Cx} {e : Expr} {es : List Expr} {te : TE} {t : TA} {pos : Pos}
theorem pa_nil : PA X [] tNil := fun _ _ _ _ H Q I h => Calls.spliced_nil ⟨[], H, I, .nil, h⟩
theorem pa_cons (ha : PE X e te) (hr : PA X es t) (hs : starEach (e :: es) X.env = (false, eval e X.env) :: starEach es X.env := by rfl) : PA X (e :: es) (tCons te t) := by
  intro pos pins s σ H Q I h
  rw [hs]
  show wpAny _ _ (spliced ((false, eval e X.env) :: backTo pos (starEach es X.env))) _ _ s
  refine Calls.spliced_cons (thn (ha pins s σ H _ I h) fun u s1 ⟨x, H1, I1, r1, q1⟩ => ?_)
  exact thn (hr pos pins s1 σ H1 _ I1 q1) fun us s2 ⟨xs, H2, I2, r2, q2⟩ => ⟨x :: xs, H2, I2, .cons r1 r2, q2⟩

/-- a tuple, a list of written items -/
def tTup (t : TA) : TE := fun σ H Q => t σ H fun xs H1 => xs.length ≤ sizeLine ∧ ∀ p, H1 p = none → Q (.ref p) (upd H1 p (.tup xs))
def tLst (t : TA) : TE := fun σ H Q => t σ H fun xs H1 => xs.length ≤ sizeLine ∧ ∀ p, H1 p = none → Q (.ref p) (upd H1 p (.lst xs))
theorem pe_tup {x1} (h : PA X es t) : PE X (.Tuple es x1 pos) (tTup t) := by
  intro pins s σ H Q I hq
  refine wpAny_Tuple_spliced (thn (h pos pins s σ H _ I hq) fun us s1 ⟨xs, H1, I1, r, z, q⟩ => ⟨by rw [← r.length]; exact z, ?_⟩)
  have hf : H1 s1.heap.objs.size = none := I1.hok.fresh (Nat.le_refl _)
  refine ⟨.ref s1.heap.objs.size, upd H1 s1.heap.objs.size (.tup xs), I1.laid (t' := s1.toks) (fun b u e => Heap.get?_push_of_some _ e) (Nat.le_refl _) ?_, rfl, q _ hf⟩
  exact ⟨z, us, r, ⟨_, Heap.get?_push_size _ rfl, rfl, _, rfl⟩⟩
theorem pe_lst (h : PA X es t) : PE X (.List es pos) (tLst t) := by
  intro pins s σ H Q I hq
  refine wpAny_List_spliced (thn (h pos pins s σ H _ I hq) fun us s1 ⟨xs, H1, I1, r, z, q⟩ => ⟨by rw [← r.length]; exact z, ?_⟩)
  have hf : H1 s1.heap.objs.size = none := I1.hok.fresh (Nat.le_refl _)
  refine ⟨.ref s1.heap.objs.size, upd H1 s1.heap.objs.size (.lst xs), I1.laid (t' := s1.toks) (fun b u e => Heap.get?_push_of_some _ e) (Nat.le_refl _) ?_, rfl, q _ hf⟩
  exact ⟨z, us, 0, r, Heap.get?_push_size _ rfl⟩
end

/-! ### what a def promises -/
/-- a def's promise: the bound arguments in the parameters' order, the heap, the wanted end, the wanted exception -/
abbrev Sp := List V → Hp → VK → XK → Prop
/-- how an exception lies behind a call (file 08 gives it): the callers' frames, abstract heap and state ahead of the call, the wish, the exception, the state -/
abbrev CXT := List Env → Hp → Shared → XK → Value → Shared → Prop

/-- the state at a call -/
structure Env0 (P : Program) (w : World) (K : PySem.W.Frag) (mg : Str → Option Value) (base : Heap) (A : Around) (outer : List Env) (s : Shared) (H : Hp) : Prop where
  frames : A.frames = some outer
  mod : Mod K mg base
  bs : ∀ b o, base.get? b = some o → s.heap.get? b = some o ∧ H b = none
  bsz : base.objs.size ≤ s.heap.objs.size
  funs : s.heap.FunFrames base outer
  frf : ∀ b ∈ frs outer, H b = none
  hok : HOk P w H s.heap
  bare : AllBare s.gens
/-- a call's end -/
def CE (outer : List Env) (P : Program) (w : World) (H : Hp) (s : Shared) (Q : VK) (u : Value) (s' : Shared) : Prop :=
  ∃ v H', s'.os = s.os ∧ AllBare s'.gens ∧ Un (frs outer) [] H H' s.heap s'.heap ∧ HOk P w H' s'.heap ∧ RelV v u ∧ Q v H'
def CR (CX : CXT) (outer : List Env) (P : Program) (w : World) (H : Hp) (s : Shared) (Q : VK) (E : XK) (r : Result) (s' : Shared) : Prop :=
  match r with
  | .ok (.ret u) => CE outer P w H s Q u s'
  | .ok _ => False
  | .error e => CX outer H s E e s'
structure FnOk (P : Program) (w : World) (K : PySem.W.Frag) (mg : Str → Option Value) (base : Heap) (CX : CXT) (k : Nat) (f : Addr) (fd : FuncData) (ps : List Str) (sp : Sp) : Prop where
  len : ∀ vs H Q E, sp vs H Q E → vs.length = ps.length
  run : ∀ (A : Around) (outer : List Env) (s : Shared) (H : Hp) (args : Args) (us : List Value) (vs : List V) (Q : VK) (E : XK), Room k A → Env0 P w K mg base A outer s H → BindsTo s fd args (ps.zip us) → Vals vs us → sp vs H Q E →
    codeAny (model P w) A (.call (.ref f) args) (CR CX outer P w H s Q E) s
theorem FnOk.mono {P : Program} {w : World} {K : PySem.W.Frag} {mg : Str → Option Value} {base : Heap} {CX : CXT} {j k : Nat} {f : Addr} {fd : FuncData} {ps : List Str} {sp : Sp} (F : FnOk P w K mg base CX j f fd ps sp) (h : j ≤ k) :
    FnOk P w K mg base CX k f fd ps sp := ⟨F.len, fun A outer s H args us vs Q E hr => F.run A outer s H args us vs Q E (hr.mono h)⟩
/-- a weaker promise -/
theorem FnOk.imp {P : Program} {w : World} {K : PySem.W.Frag} {mg : Str → Option Value} {base : Heap} {CX : CXT} {k : Nat} {f : Addr} {fd : FuncData} {ps : List Str} {sp sp' : Sp} (F : FnOk P w K mg base CX k f fd ps sp)
    (h : ∀ vs H Q E, sp' vs H Q E → sp vs H Q E) : FnOk P w K mg base CX k f fd ps sp' :=
  ⟨fun vs H Q E q => F.len vs H Q E (h _ _ _ _ q), fun A outer s H args us vs Q E hr he hb hv hs => F.run A outer s H args us vs Q E hr he hb hv (h _ _ _ _ hs)⟩

theorem Env0.make {P : Program} {w : World} {K : PySem.W.Frag} {mg : Str → Option Value} {base : Heap} {A : Around} {outer : List Env} {s : Shared} {H : Hp} (e : Env0 P w K mg base A outer s H) (C : Addr) (us : List Value) (kw : List (Str × Value)) :
    Env0 P w K mg base (A.under (.builtin "type.__call__" ⟨.ref C :: us, kw⟩)) outer s H := ⟨by first | exact e.frames | (simpa [Around.under, Code.envs, Code.isFrame, pushEnvs] using e.frames), e.mod, e.bs, e.bsz, e.funs, e.frf, e.hok, e.bare⟩
theorem Env0.in1 {P : Program} {w : World} {K : PySem.W.Frag} {mg : Str → Option Value} {base : Heap} {A : Around} {outer : List Env} {s : Shared} {H : Hp} (e : Env0 P w K mg base A outer s H) :
    Env0 P w K mg base A.in1 outer s H := ⟨e.frames, e.mod, e.bs, e.bsz, e.funs, e.frf, e.hok, e.bare⟩

section
variable {X : Cx} {pins : List (Addr × Obj)} {σ : St} {H : Hp} {s s' : Shared}
/-- from a body: what a callee wants -/
theorem Inv.env0 (I : Inv X pins σ H s) : Env0 X.prog X.w X.K X.mg X.base X.A X.stack s H :=
  ⟨I.ok.frames, I.ok.mod, I.bs, Nat.le_trans I.ok.bsz I.sz, I.stack, I.stkFree, I.hok, I.bare⟩
/-- behind a call -/
theorem Inv.after {Q : VK} {u : Value} (I : Inv X pins σ H s) (h : CE X.stack X.prog X.w H s Q u s') : EP X pins σ Q u s' := by
  obtain ⟨v, H', os, bare, un, hok, r, q⟩ := h
  obtain ⟨hh, g, d, t, os'⟩ := s'
  obtain rfl : os' = s.os := os
  exact ⟨v, H', I.call (h' := hh) (g' := g) (d' := d) (t' := t) (ch := []) un hok bare (fun b z => absurd z (by simp)), r, q⟩
end

/-! ### calls -/
/-- f(..): the written arguments, then the defaults dvs; E: what is wanted of an exception -/
def tCall (sp : Sp) (dvs : List V) (E : XK) (t : TA) : TE := fun σ H Q => t σ H fun vs H1 => sp (vs ++ dvs) H1 Q E
/-- o.m(..) of an instance of the class at C -/
def tMeth (C : Addr) (m : Str) (sp : Sp) (dvs : List V) (E : XK) (ta : TE) (t : TA) : TE := fun σ H Q => ta σ H fun x H1 => ∃ a dx fs, x = .ref a ∧ H1 a = some (.ins C dx fs) ∧ fs.lookup m = none ∧
  t σ H1 fun vs H2 => sp (x :: (vs ++ dvs)) H2 Q E
/-- C(..): a new instance and its dict, then __init__ -/
def tMake (C : Addr) (sp : Sp) (dvs : List V) (E : XK) (t : TA) : TE := fun σ H Q => t σ H fun vs H1 => ∀ x dx, H1 x = none → H1 dx = none → dx ≠ x →
  sp (.ref x :: (vs ++ dvs)) (upd (upd H1 dx (.own x)) x (.ins C dx [])) (fun v H2 => v = .non ∧ Q (.ref x) H2) E

/-- how the parameters are bound: us the positional arguments, kw the keywords' values by name, ds the defaults that fill up -/
def Binds (K : PySem.W.Frag) (fd : FuncData) (ps : List Str) (ds : List Value) : Prop :=
  ∀ (s : Shared) (us : List Value), K.In s.heap → (us ++ ds).length = ps.length → BindsTo s fd ⟨us, []⟩ (ps.zip (us ++ ds))
/-- every parameter is given -/
theorem Binds.all {K : PySem.W.Frag} {fd : FuncData} {ps : List Str} (h : ∀ us : List Value, us.length = ps.length → bindArgs fd ⟨us, []⟩ = pure (ps.zip us)) : Binds K fd ps [] := fun s us _ hl => by
  rw [List.append_nil] at hl ⊢
  exact .of_eq (h us hl)

/-- an exception of a callee reaches what this body wants of exceptions -/
def Passes (CX : CXT) (X : Cx) (E : XK) : Prop := ∀ (pins : List (Addr × Obj)) (σ : St) (H : Hp) (s : Shared) (e : Value) (s' : Shared), Inv X pins σ H s → CX X.stack H s E e s' → X.xe e s'

section
variable {X : Cx} {CX : CXT} {k : Nat} {f C : Addr} {fd : FuncData} {ps : List Str} {sp : Sp} {dvs : List V} {ds : List Value} {E : XK} {x m : Str} {p pos apos : Pos} {e o : Expr} {es : List Expr} {ta : TE} {t : TA}

/-- the callee runs -/
theorem run_fn {pins : List (Addr × Obj)} {σ : St} {H : Hp} {s : Shared} {Q : VK} {us : List Value} {vs : List V} (F : FnOk X.prog X.w X.K X.mg X.base CX k f fd ps sp) (hr : Room k X.A) (hb : Binds X.K fd ps ds) (hd : Vals dvs ds) (hx : Passes CX X E)
    (I : Inv X pins σ H s) (r : Vals vs us) (h : sp (vs ++ dvs) H Q E) : wpAny (model X.prog X.w) X.A (call (.ref f) us) (EP X pins σ Q) X.xe s := by
  have r2 : Vals (vs ++ dvs) (us ++ ds) := r.append hd
  have hl : (us ++ ds).length = ps.length := by rw [← r2.length]; exact F.len _ _ _ _ h
  refine wpAny_call (codeAny_mono (F.run X.A X.stack s H ⟨us, []⟩ (us ++ ds) (vs ++ dvs) Q E hr I.env0 (hb s us I.kIn hl) r2 h) fun r s' hq => ?_)
  cases r with
  | error e => exact hx pins σ H s e s' I hq
  | ok fl =>
    cases fl with
    | ret u => exact I.after hq
    | next => exact False.elim hq
    | brk => exact False.elim hq
    | cont => exact False.elim hq

theorem pe_call (F : FnOk X.prog X.w X.K X.mg X.base CX k f fd ps sp) (hr : Room k X.A) (hg : Gl X x) (hm : X.mg x = some (.ref f)) (hk : PySem.W.keepIn X.K (.ref f) = true) (hb : Binds X.K fd ps ds) (hd : Vals dvs ds) (hx : Passes CX X E)
    (ha : PA X (e :: es) t) (hdb : (x == ("__debug__" : Str)) = false := by decide) (he : starEach (e :: es) X.env = (false, eval e X.env) :: starEach es X.env := by rfl) (hpl : (backTo pos (starEach es X.env)).any (·.1) = false := by rfl) :
    PE X (.Call (.Name x p) (e :: es) [] pos) (tCall sp dvs E t) := by
  intro pins s σ H Q I h
  refine wpAny_Call_Name_kw (ld_glob I hg hm ?_ hdb)
  refine PySem.W.callWith_K (h₀ := X.base) I.ok.mod.kin hk (thn (ha pos pins s σ H _ I h) fun us s1 ⟨vs, H1, I1, r, q⟩ => ⟨I1.kIn, ?_⟩) he hpl
  exact run_fn F hr hb hd hx I1 r q
theorem pe_call0 (F : FnOk X.prog X.w X.K X.mg X.base CX k f fd ps sp) (hr : Room k X.A) (hg : Gl X x) (hm : X.mg x = some (.ref f)) (hk : PySem.W.keepIn X.K (.ref f) = true) (hb : Binds X.K fd ps ds) (hd : Vals dvs ds) (hx : Passes CX X E)
    (hdb : (x == ("__debug__" : Str)) = false := by decide) : PE X (.Call (.Name x p) [] [] pos) (tCall sp dvs E tNil) := by
  intro pins s σ H Q I h
  refine wpAny_Call_Name_kw (ld_glob I hg hm ?_ hdb)
  exact PySem.W.callWith_K0 I.kIn hk (run_fn (us := []) F hr hb hd hx I .nil h)

/-- o.m(e, ..) -/
theorem pe_meth {pl : Sem Bool} (he : PE X o ta) (c : Cls X.K C) (hm : Meth X.K C m f) (F : FnOk X.prog X.w X.K X.mg X.base CX k f fd ps sp) (hr : Room k X.A) (hb : Binds X.K fd ps ds) (hd : Vals dvs ds) (hx : Passes CX X E) (ha : PA X (e :: es) t)
    (hst : starEach (e :: es) X.env = (false, eval e X.env) :: starEach es X.env := by rfl) (hpl : (backTo pos (starEach es X.env)).any (·.1) = false := by rfl)
    (ht : eval (.Call (.Attribute o m apos) (e :: es) [] pos) X.env = (do
      let ov ← eval o X.env
      standAt apos.atName
      let (f, first) ← holding [ov] (getMethod ov m pl)
      callWith pos f first (backTo pos (starEach (e :: es) X.env)) (backToKw pos (keywordEach [] X.env))) := by rfl) :
    PE X (.Call (.Attribute o m apos) (e :: es) [] pos) (tMeth C m sp dvs E ta t) := by
  intro pins s σ H Q I h
  refine PySem.W.methodCall_KW (pl := pl) (thn (he pins s σ H _ I h) fun u s1 ⟨x, H1, I1, rx, a, dx, fs, ex, ea, l, q⟩ => ?_) ht
  subst ex
  obtain rfl : u = Value.ref a := rx
  refine getmeth_ok I1 ea c hm l ?_
  refine PySem.W.callWith_K (first := [.ref a]) (h₀ := X.base) I.ok.mod.kin hm.kp (thn (ha pos pins s1 σ H1 _ I1 q) fun us s2 ⟨vs, H2, I2, r, q2⟩ => ⟨I2.kIn, ?_⟩) hst hpl
  exact run_fn (us := .ref a :: us) (vs := .ref a :: vs) F hr hb hd hx I2 (.cons rfl r) q2
/-- o.m() -/
theorem pe_meth0 {pl : Sem Bool} (he : PE X o ta) (c : Cls X.K C) (hm : Meth X.K C m f) (F : FnOk X.prog X.w X.K X.mg X.base CX k f fd ps sp) (hr : Room k X.A) (hb : Binds X.K fd ps ds) (hd : Vals dvs ds) (hx : Passes CX X E)
    (ht : eval (.Call (.Attribute o m apos) [] [] pos) X.env = (do
      let ov ← eval o X.env
      standAt apos.atName
      let (f, first) ← holding [ov] (getMethod ov m pl)
      callWith pos f first (backTo pos (starEach [] X.env)) (backToKw pos (keywordEach [] X.env))) := by rfl) :
    PE X (.Call (.Attribute o m apos) [] [] pos) (tMeth C m sp dvs E ta tNil) := by
  intro pins s σ H Q I h
  refine PySem.W.methodCall_KW (pl := pl) (thn (he pins s σ H _ I h) fun u s1 ⟨x, H1, I1, rx, a, dx, fs, ex, ea, l, q⟩ => ?_) ht
  subst ex
  obtain rfl : u = Value.ref a := rx
  refine getmeth_ok I1 ea c hm l ?_
  exact PySem.W.callWith_K0 (first := [.ref a]) I1.kIn hm.kp (run_fn (us := [.ref a]) (vs := [.ref a]) F hr hb hd hx I1 (.cons rfl .nil) q)

/-- what a class must have to be made -/
structure Mk (K : PySem.W.Frag) (C f : Addr) : Prop where
  makes : PySem.W.makesIn K C = true
  init : PySem.W.findIn K (.ref C) "__init__" = some (some (.ref f))
  fn : PySem.W.isFn K (.ref f) = true
  kp : PySem.W.keepIn K (.ref C) = true

theorem run_make {pins : List (Addr × Obj)} {σ : St} {H : Hp} {s : Shared} {Q : VK} {us : List Value} {vs : List V} (M : Mk X.K C f) (F : FnOk X.prog X.w X.K X.mg X.base CX k f fd ps sp) (hr : Room (k + 1) X.A) (hb : Binds X.K fd ps ds) (hd : Vals dvs ds)
    (hx : Passes CX X E) (I : Inv X pins σ H s) (r : Vals vs us)
    (h : ∀ x dx, H x = none → H dx = none → dx ≠ x → sp (.ref x :: (vs ++ dvs)) (upd (upd H dx (.own x)) x (.ins C dx [])) (fun v H2 => v = .non ∧ Q (.ref x) H2) E) :
    wpAny (model X.prog X.w) X.A (call (.ref C) us) (EP X pins σ Q) X.xe s := by
  have hq := h (s.heap.objs.size + 1) s.heap.objs.size (I.hok.fresh (Nat.le_succ _)) (I.hok.fresh (Nat.le_refl _)) (Nat.ne_of_lt (Nat.lt_succ_self _))
  have I2 := Inv.made (C := C) I
  have r2 : Vals (V.ref (s.heap.objs.size + 1) :: (vs ++ dvs)) (Value.ref (s.heap.objs.size + 1) :: (us ++ ds)) := .cons rfl (r.append hd)
  have hl : (Value.ref (s.heap.objs.size + 1) :: us ++ ds).length = ps.length := by
    have e := r2.length
    rw [F.len _ _ _ _ hq] at e
    exact e.symm
  refine wpAny_call (make_map (f := f) I.kIn M.makes M.init (beq_iff_eq.mp M.fn) (codeAny_mono (F.run _ X.stack _ _ ⟨Value.ref (s.heap.objs.size + 1) :: us, []⟩ (Value.ref (s.heap.objs.size + 1) :: (us ++ ds)) _ _ E (hr.make C us [])
    (I2.env0.make C us []) (hb _ (Value.ref (s.heap.objs.size + 1) :: us) I2.kIn hl) r2 hq) fun r s' hq' => ?_))
  cases r with
  | error e => exact hx pins σ _ _ e s' I2 hq'
  | ok fl =>
    cases fl with
    | ret u =>
      obtain ⟨v, H', I3, rv, ev, q3⟩ := I2.after hq'
      subst ev
      exact ⟨rv, ⟨V.ref (s.heap.objs.size + 1), H', I3, rfl, q3⟩⟩
    | next => exact False.elim hq'
    | brk => exact False.elim hq'
    | cont => exact False.elim hq'
theorem pe_make (M : Mk X.K C f) (F : FnOk X.prog X.w X.K X.mg X.base CX k f fd ps sp) (hr : Room (k + 1) X.A) (hg : Gl X x) (hm : X.mg x = some (.ref C)) (hb : Binds X.K fd ps ds) (hd : Vals dvs ds) (hx : Passes CX X E)
    (ha : PA X (e :: es) t) (hdb : (x == ("__debug__" : Str)) = false := by decide) (he : starEach (e :: es) X.env = (false, eval e X.env) :: starEach es X.env := by rfl) (hpl : (backTo pos (starEach es X.env)).any (·.1) = false := by rfl) :
    PE X (.Call (.Name x p) (e :: es) [] pos) (tMake C sp dvs E t) := by
  intro pins s σ H Q I h
  refine wpAny_Call_Name_kw (ld_glob I hg hm ?_ hdb)
  refine PySem.W.callWith_K (h₀ := X.base) I.ok.mod.kin M.kp (thn (ha pos pins s σ H _ I h) fun us s1 ⟨vs, H1, I1, r, q⟩ => ⟨I1.kIn, ?_⟩) he hpl
  exact run_make M F hr hb hd hx I1 r q
theorem pe_make0 (M : Mk X.K C f) (F : FnOk X.prog X.w X.K X.mg X.base CX k f fd ps sp) (hr : Room (k + 1) X.A) (hg : Gl X x) (hm : X.mg x = some (.ref C)) (hb : Binds X.K fd ps ds) (hd : Vals dvs ds) (hx : Passes CX X E)
    (hdb : (x == ("__debug__" : Str)) = false := by decide) : PE X (.Call (.Name x p) [] [] pos) (tMake C sp dvs E tNil) := by
  intro pins s σ H Q I h
  refine wpAny_Call_Name_kw (ld_glob I hg hm ?_ hdb)
  exact PySem.W.callWith_K0 I.kIn M.kp (run_make (us := []) M F hr hb hd hx I .nil h)
end

/-! ### keywords -/
/-- the values of the keywords, from the left -/
def PK (X : Cx) (kws : List Keyword) (t : TA) : Prop :=
  ∀ (pos : Pos) (pins : List (Addr × Obj)) (s : Shared) (σ : St) (H : Hp) (Q : List V → Hp → Prop), Inv X pins σ H s → t σ H Q → wpAny (model X.prog X.w) X.A (evalAll ((backToKw pos (keywordEach kws X.env)).map (·.2))) (AP X pins σ Q) X.xe s
section
variable {X : Cx} {CX : CXT} {k : Nat} {f C : Addr} {fd : FuncData} {ps ks : List Str} {sp : Sp} {E : XK} {x m : Str} {p pos apos kpos : Pos} {e o : Expr} {es : List Expr} {kws : List Keyword} {te ta : TE} {t tk : TA} {nm : Option Str}
theorem pk_nil : PK X [] tNil := fun _ _ _ _ H Q I h => wpAny_evalAll_nil ⟨[], H, I, .nil, h⟩
theorem pk_cons (ha : PE X e te) (hr : PK X kws t) : PK X (⟨nm, e, kpos⟩ :: kws) (tCons te t) := by
  intro pos pins s σ H Q I h
  show wpAny _ _ (evalAll ((do let v ← eval e X.env; standAt pos; pure v) :: (backToKw pos (keywordEach kws X.env)).map (·.2))) _ _ s
  refine wpAny_evalAll_cons (wpAny_bind (thn (ha pins s σ H _ I h) fun u s1 ⟨x, H1, I1, r1, q1⟩ => wpAny_bind (wpAny_standAt (wpAny_pure ?_))))
  exact thn (hr pos pins s1 σ H1 _ I1 q1) fun us s2 ⟨xs, H2, I2, r2, q2⟩ => ⟨x :: xs, H2, I2, .cons r1 r2, q2⟩

/-- how a call with keywords binds: g puts the positional values us and the keywords' values ws (names ks) in the parameters' order, defaults among them -/
structure KBinds (K : PySem.W.Frag) (fd : FuncData) (ps ks : List Str) (g : List Value → List Value → List Value) (gV : List V → List V → List V) : Prop where
  to : ∀ (s : Shared) (us ws : List Value), K.In s.heap → (g us ws).length = ps.length → BindsTo s fd ⟨us, ks.zip ws⟩ (ps.zip (g us ws))
  rel : ∀ {vs : List V} {us : List Value} {zs : List V} {ws : List Value}, Vals vs us → Vals zs ws → Vals (gV vs zs) (g us ws)
def tCallK (sp : Sp) (gV : List V → List V → List V) (E : XK) (t tk : TA) : TE := fun σ H Q => t σ H fun vs H1 => tk σ H1 fun zs H2 => sp (gV vs zs) H2 Q E
variable {g : List Value → List Value → List Value} {gV : List V → List V → List V}
theorem run_fnk {pins : List (Addr × Obj)} {σ : St} {H : Hp} {s : Shared} {Q : VK} {us ws : List Value} {vs zs : List V} (F : FnOk X.prog X.w X.K X.mg X.base CX k f fd ps sp) (hr : Room k X.A) (hb : KBinds X.K fd ps ks g gV) (hx : Passes CX X E)
    (I : Inv X pins σ H s) (r : Vals vs us) (rz : Vals zs ws) (h : sp (gV vs zs) H Q E) : wpAny (model X.prog X.w) X.A (call (.ref f) us (ks.zip ws)) (EP X pins σ Q) X.xe s := by
  have r2 := hb.rel r rz
  have hl : (g us ws).length = ps.length := by rw [← r2.length]; exact F.len _ _ _ _ h
  refine wpAny_call (codeAny_mono (F.run X.A X.stack s H ⟨us, ks.zip ws⟩ (g us ws) (gV vs zs) Q E hr I.env0 (hb.to s us ws I.kIn hl) r2 h) fun r s' hq => ?_)
  cases r with
  | error e => exact hx pins σ H s e s' I hq
  | ok fl =>
    cases fl with
    | ret u => exact I.after hq
    | next => exact False.elim hq
    | brk => exact False.elim hq
    | cont => exact False.elim hq
/-- f(e, .., k = v, ..) -/
theorem pe_callK (F : FnOk X.prog X.w X.K X.mg X.base CX k f fd ps sp) (hr : Room k X.A) (hg : Gl X x) (hm : X.mg x = some (.ref f)) (hk : PySem.W.keepIn X.K (.ref f) = true) (hb : KBinds X.K fd ps ks g gV) (hx : Passes CX X E)
    (ha : PA X (e :: es) t) (hkw : PK X kws tk) (hall : (backToKw pos (keywordEach kws X.env)).all (·.1.isSome) = true := by rfl) (hks : (backToKw pos (keywordEach kws X.env)).filterMap (·.1) = ks := by rfl)
    (hdb : (x == ("__debug__" : Str)) = false := by decide) (he : starEach (e :: es) X.env = (false, eval e X.env) :: starEach es X.env := by rfl)
    (hpl : ((backTo pos (starEach (e :: es) X.env)).any (·.1) || (backToKw pos (keywordEach kws X.env)).any (·.1.isNone)) = false := by rfl) :
    PE X (.Call (.Name x p) (e :: es) kws pos) (tCallK sp gV E t tk) := by
  intro pins s σ H Q I h
  refine wpAny_Call_Name_kw (ld_glob I hg hm ?_ hdb)
  refine PySem.W.callWith_KW (h₀ := X.base) I.ok.mod.kin hk hall (thn (ha pos pins s σ H _ I h) fun us s1 ⟨vs, H1, I1, r, q⟩ => ?_) hpl he
  refine thn (hkw pos pins s1 σ H1 _ I1 q) fun ws s2 ⟨zs, H2, I2, rz, q2⟩ => ⟨I2.kIn, ?_⟩
  rw [hks]
  exact run_fnk F hr hb hx I2 r rz q2
end

/-! ### a def's body keeps its promise -/
/-- names: the parameters first -/
structure FnScope (N P : List Str) (sc : Scope) : Prop where
  kind : sc.kind = .function
  co : sc.isCoroutine = false
  gen : sc.isGenerator = false
  nd : N.Nodup
  pre : N.take P.length = P
  par : ∀ x ∈ P, sc.names.lookup x = some .local ∨ sc.names.lookup x = some .cell
  nofree : ∀ y ∈ sc.names, y.2 ≠ .free

theorem bindL_out {kindOf : Str → Option NameKind} {x : Str} : ∀ {binds : List (Str × Value)} {m : Str → Option Value}, (∀ v, (x, v) ∉ binds) → bindL kindOf binds m x = m x
  | [], _, _ => rfl
  | (n, v) :: r, m, h => by
    unfold bindL
    rw [bindL_out fun w hw => h w (List.mem_cons_of_mem _ hw)]
    split
    · have : x ≠ n := by rintro rfl; exact h v List.mem_cons_self
      simp [this]
    · rfl
theorem bindC_out {kindOf : Str → Option NameKind} {x : Str} : ∀ {binds : List (Str × Value)} {m : Str → Option Value}, (∀ v, (x, v) ∉ binds) → bindC kindOf binds m x = m x
  | [], _, _ => rfl
  | (n, v) :: r, m, h => by
    unfold bindC
    rw [bindC_out fun w hw => h w (List.mem_cons_of_mem _ hw)]
    split
    · rfl
    · have : x ≠ n := by rintro rfl; exact h v List.mem_cons_self
      simp [this]
theorem bindL_get {kindOf : Str → Option NameKind} {x : Str} {v : Value} : ∀ {P : List Str} {vs : List Value} {i : Nat} {m : Str → Option Value}, P.Nodup → P[i]? = some x → vs[i]? = some v → kindOf x = some .local →
    bindL kindOf (P.zip vs) m x = some v
  | [], _, _, _, _, h, _, _ => by simp at h
  | _ :: _, [], _, _, _, _, h, _ => by simp at h
  | p :: P, w :: vs, 0, m, nd, h1, h2, hk => by
    simp at h1 h2; subst h1; subst h2
    show bindL kindOf ((p, w) :: P.zip vs) m p = _
    unfold bindL
    rw [bindL_out fun v hv => (List.nodup_cons.mp nd).1 (List.of_mem_zip hv).1, if_pos hk]
    simp
  | p :: P, w :: vs, i + 1, m, nd, h1, h2, hk => by
    show bindL kindOf ((p, w) :: P.zip vs) m x = _
    unfold bindL
    exact bindL_get (i := i) (List.nodup_cons.mp nd).2 (by simpa using h1) (by simpa using h2) hk
theorem bindC_get {kindOf : Str → Option NameKind} {x : Str} {v : Value} : ∀ {P : List Str} {vs : List Value} {i : Nat} {m : Str → Option Value}, P.Nodup → P[i]? = some x → vs[i]? = some v → kindOf x ≠ some .local →
    bindC kindOf (P.zip vs) m x = some v
  | [], _, _, _, _, h, _, _ => by simp at h
  | _ :: _, [], _, _, _, _, h, _ => by simp at h
  | p :: P, w :: vs, 0, m, nd, h1, h2, hk => by
    simp at h1 h2; subst h1; subst h2
    show bindC kindOf ((p, w) :: P.zip vs) m p = _
    unfold bindC
    rw [bindC_out fun v hv => (List.nodup_cons.mp nd).1 (List.of_mem_zip hv).1, if_neg hk]
    simp
  | p :: P, w :: vs, i + 1, m, nd, h1, h2, hk => by
    show bindC kindOf ((p, w) :: P.zip vs) m x = _
    unfold bindC
    exact bindC_get (i := i) (List.nodup_cons.mp nd).2 (by simpa using h1) (by simpa using h2) hk

/-- the names' values at the entry -/
def start (N : List Str) (vs : List V) : St := vs.map some ++ List.replicate (N.length - vs.length) none

/-- the context of a def's body, at its entry; an exception leaves the frame, then lies as CX says -/
def cxOf (CX : CXT) (P : Program) (w : World) (K : PySem.W.Frag) (mg : Str → Option Value) (base : Heap) (N : List Str) (qual : Str) (scope : Scope) (f : Addr) (cd : Value) (A : Around) (outer : List Env) (s : Shared) (H : Hp) (E : XK) : Cx where
  prog := P
  w := w
  K := K
  mg := mg
  base := base
  A := A.deeper (envOfC qual scope s.heap.objs.size f cd)
  N := N
  s₀ := s
  H₀ := H
  env := envOfC qual scope s.heap.objs.size f cd
  outer := outer
  stack := envOfC qual scope s.heap.objs.size f cd :: outer
  ex := []
  calm := true
  fn := fun _ => true
  pn := []
  xe := fun e s' => wpAny (model P w) (A.deeper (envOfC qual scope s.heap.objs.size f cd)) (leaving (envOfC qual scope s.heap.objs.size f cd) e) (fun _ s'' => CX outer H s E e s'') (fun e' s'' => CX outer H s E e' s'') s'

theorem cell_has {sc : Scope} {n : Nat} {x : Str} (h : sc.names.lookup x = some .cell) : ∃ c, (cellsFrom n sc.names []).lookup x = some c := by
  have q := PySem.W.cellsFrom_some sc.names n [] (.inl h)
  exact Option.isSome_iff_exists.mp q

theorem inv_start {CX : CXT} {P : Program} {w : World} {K : PySem.W.Frag} {mg : Str → Option Value} {base : Heap} {N ps : List Str} {qual : Str} {scope : Scope} {f : Addr} {cd : Value} {A : Around} {outer : List Env} {s s1 : Shared} {H : Hp} {E : XK} {us : List Value} {vs : List V}
    (S : FnScope N ps scope) (hd : A.handled = none) (e0 : Env0 P w K mg base A outer s H) (hl : vs.length = ps.length) (r : Vals vs us)
    (x : InCallC s s.heap.objs.size (bindL (envOfC qual scope s.heap.objs.size f cd).kindOf (ps.zip us) fun _ => none) (cellsFrom (s.heap.objs.size + 1) scope.names []) (bindC (envOfC qual scope s.heap.objs.size f cd).kindOf (ps.zip us) fun _ => none) s1) :
    Inv (cxOf CX P w K mg base N qual scope f cd A outer s H E) [] (start N vs) H s1 := by
  have hpl : ps.length ≤ N.length := by have := congrArg List.length S.pre; rw [List.length_take] at this; omega
  obtain ⟨h1, tk, rfl, hk⟩ := x.done
  have noA : ∀ b : Addr, b ∉ (cxOf CX P w K mg base N qual scope f cd A outer s H E).ex := fun b z => absurd (show b ∈ ([] : List Addr) from z) (by simp)
  refine ⟨⟨e0.mod, S.kind, rfl, rfl, Nat.le_refl _, fun y z c h1 h2 => ?_, fun y hy => ?_, fun y c _ h => ?_, fun _ => hd, Around.frames_deeper e0.frames, .inr ⟨rfl, rfl⟩, fun b z => absurd z (noA b), e0.bs, e0.bsz, fun b _ _ => noA b, fun b z => absurd z (noA b), e0.funs, e0.frf⟩,
    rfl, e0.bare, Un.kept hk, ⟨_, x.toInCall.ns, fun i y v h1 h2 h3 => ?_⟩, fun y c h => ⟨_, x.cell y c h⟩, e0.hok.fresh (Nat.le_refl _), fun y c h => ?_, fun p hp => absurd (show p ∈ ([] : List (Addr × Obj)) from hp) (by simp), e0.hok.kept hk, ?_⟩
  · exact name_of_addr x.apart (PySem.mem_of_lookup h1) (PySem.mem_of_lookup h2)
  · have hy : scope.names.lookup y = some .cell ∨ scope.names.lookup y = some .free := hy
    rcases hy with hy | hy
    · exact cell_has hy
    · exact absurd rfl (S.nofree _ (PySem.mem_of_lookup hy))
  · exact Nat.le_of_lt (x.above y c (PySem.mem_of_lookup h))
  · have hi : i < vs.length := by
      unfold start at h2
      by_cases hi : i < vs.length
      · exact hi
      · rw [List.getElem?_append_right (by simpa using hi)] at h2
        rw [List.getElem?_replicate] at h2
        split at h2 <;> cases h2
    have ha : vs[i]? = some v := by
      unfold start at h2
      rw [List.getElem?_append_left (by simpa using hi), List.getElem?_map] at h2
      cases e : vs[i]? with
      | none => rw [e] at h2; cases h2
      | some a => rw [e] at h2; cases h2; rfl
    obtain ⟨u, hu, rv⟩ := r.get ha
    have hp : ps[i]? = some y := by
      rw [← S.pre, List.getElem?_take_of_lt (by omega)]; exact h1
    have ndP : ps.Nodup := by rw [← S.pre]; exact S.nd.sublist (List.take_sublist _ _)
    refine ⟨u, rv, ?_⟩
    rcases S.par y (List.mem_of_getElem? hp) with k | k
    · exact .inl ⟨k, bindL_get ndP hp hu k⟩
    · obtain ⟨c, e⟩ := cell_has (n := s.heap.objs.size + 1) k
      refine .inr ⟨.inl k, c, e, ?_⟩
      have q := x.cell y c e
      rw [bindC_get ndP hp hu (by show scope.names.lookup y ≠ _; rw [k]; decide)] at q
      exact q
  · exact e0.hok.fresh (Nat.le_of_lt (x.above y c (PySem.mem_of_lookup h)))
  · unfold start
    show _ = N.length
    rw [List.length_append, List.length_map, List.length_replicate]
    omega

/-- THE RULE: a def (or a method) of the text, by its body. The body's reading t is chosen for each entry; it is run at the parameters' values -/
theorem fn_of {CX : CXT} {P : Program} {w : World} {K : PySem.W.Frag} {mg : Str → Option Value} {base : Heap} {k : Nat} {f : Addr} {name qual : Str} {params : Arguments} {body : List Stmt} {scope : Scope} {dV kV doc pm cdv ct oc : Value} {an od : Option Addr}
    {osl : Array (Option Value)} {N ps : List Str} {sp : Sp} (lk : K.lookup f = some ⟨oc, od, .func (PySem.W.fnOf name qual params body scope dV kV doc pm an cdv ct), osl⟩) (hcd : PySem.W.codeIn K cdv qual = true) (S : FnScope N ps scope)
    (len : ∀ vs H Q E, sp vs H Q E → vs.length = ps.length)
    (hbody : ∀ (A : Around) (outer : List Env) (s : Shared) (H : Hp) (vs : List V) (Q : VK) (E : XK), Room k (A.deeper (envOfC qual scope s.heap.objs.size f cdv)) → sp vs H Q E →
      ∃ t, PSs (cxOf CX P w K mg base N qual scope f cdv A outer s H E) body t ∧ t { nx := fun _ H' => Q .non H', rt := Q } (start N vs) H) :
    FnOk P w K mg base CX (k + 1) f (PySem.W.fnOf name qual params body scope dV kV doc pm an cdv ct) ps sp := by
  refine ⟨len, fun A outer s H args us vs Q E hr e0 hb r hsp => ?_⟩
  have hl := len _ _ _ _ hsp
  have KX : K.In s.heap := e0.mod.kin.keeps fun b o e => (e0.bs b o e).1
  have lim : s.heap.NoLimit := e0.mod.nolimit.keeps fun b o e => (e0.bs b o e).1
  have hkind : ∀ y ∈ ps.zip us, scope.names.lookup y.1 = some .local ∨ (scope.names.lookup y.1 = some .cell ∧ ((cellsFrom (s.heap.objs.size + 1) scope.names []).lookup y.1).isSome = true) := fun ⟨n, v⟩ hy => by
    rcases S.par n (List.of_mem_zip hy).1 with q | q
    · exact .inl q
    · exact .inr ⟨q, PySem.W.cellsFrom_some _ _ _ (.inl q)⟩
  refine codeAny_call_function hr.depth (KX _ _ lk) rfl S.co S.gen rfl (PySem.W.codeRec_of KX hcd) (hb _ _ _ _ ?_)
  refine wpAny_newFunctionEnv_cells S.kind hkind fun env he s1 x => ?_
  subst he
  refine ⟨lim.keeps x.toInCall.keep, codeAny_func ?_⟩
  obtain ⟨t, ht, hq⟩ := hbody A outer s H vs Q E (hr.deeper _) hsp
  have I : Inv (cxOf CX P w K mg base N qual scope f cdv A outer s H E) [] (start N vs) H s1 := inv_start S hr.hd e0 hl r x
  refine wpAny_mono (ht [] s1 (start N vs) H _ I hq) (fun fl s' hs => ?_) fun e s' hs => hs
  have fin : ∀ {σ' : St} {H' : Hp} {v : V} {u : Value}, Inv (cxOf CX P w K mg base N qual scope f cdv A outer s H E) [] σ' H' s' → RelV v u → Q v H' → CE outer P w H s Q u s' :=
    fun {σ' H' v u} J rv q => ⟨v, H', J.os, J.bare, J.base, J.hok, rv, q⟩
  cases fl with
  | ret u =>
    obtain ⟨v, σ', H', J, rv, q⟩ := hs
    exact fin J rv q
  | next =>
    obtain ⟨σ', H', J, q⟩ := hs
    exact fin (v := V.non) (u := Value.none) J rfl q
  | brk =>
    obtain ⟨_, _, _, q⟩ := hs
    exact False.elim q
  | cont =>
    obtain ⟨_, _, _, q⟩ := hs
    exact False.elim q
end L2

namespace L2
open PySem PySem.Spec PyProof.Rows
section
variable {X : Cx} {x : Str} {p pos : Pos} {e : Expr} {es : List Expr} {t : TA} {id T : String} {r : List V → Hp → VK → Prop}

def tCB (r : List V → Hp → VK → Prop) (t : TA) : TE := fun σ H Q => t σ H fun vs H1 => r vs H1 Q
/-- f(e, ..), f a built-in function -/
theorem pe_callB (hc : CallR X (.builtin id) r) (hg : Gl X x) (hm : X.mg x = none) (hv : bootBuiltins x = some (.builtin id)) (ha : PA X (e :: es) t) (hn : x ≠ "__name__" := by decide) (hdb : (x == ("__debug__" : Str)) = false := by decide)
    (he : starEach (e :: es) X.env = (false, eval e X.env) :: starEach es X.env := by rfl) (hpl : (backTo pos (starEach es X.env)).any (·.1) = false := by rfl) : PE X (.Call (.Name x p) (e :: es) [] pos) (tCB r t) := by
  intro pins s σ H Q I h
  refine wpAny_Call_Name_kw (ld_blt I hg hm hv ?_ hn hdb)
  exact PyProof.Rows.callWith_builtin1 (thn (ha pos pins s σ H _ I h) fun us s1 ⟨vs, H1, I1, r1, q1⟩ => hc pins s1 σ H1 vs us Q I1 r1 q1) he hpl
/-- T(e, ..), T a built-in type -/
theorem pe_callTy (hc : CallR X (.type T) r) (hg : Gl X x) (hm : X.mg x = none) (hv : bootBuiltins x = some (.type T)) (ha : PA X (e :: es) t) (hn : x ≠ "__name__" := by decide) (hdb : (x == ("__debug__" : Str)) = false := by decide)
    (he : starEach (e :: es) X.env = (false, eval e X.env) :: starEach es X.env := by rfl) (hpl : (backTo pos (starEach es X.env)).any (·.1) = false := by rfl) : PE X (.Call (.Name x p) (e :: es) [] pos) (tCB r t) := by
  intro pins s σ H Q I h
  refine wpAny_Call_Name_kw (ld_blt I hg hm hv ?_ hn hdb)
  exact PyProof.Rows.callWith_type1 (thn (ha pos pins s σ H _ I h) fun us s1 ⟨vs, H1, I1, r1, q1⟩ => hc pins s1 σ H1 vs us Q I1 r1 q1) he hpl
/-- T() -/
theorem pe_callTy0 (hc : CallR X (.type T) r) (hg : Gl X x) (hm : X.mg x = none) (hv : bootBuiltins x = some (.type T)) (hn : x ≠ "__name__" := by decide) (hdb : (x == ("__debug__" : Str)) = false := by decide) :
    PE X (.Call (.Name x p) [] [] pos) (tCB r tNil) := by
  intro pins s σ H Q I h
  refine wpAny_Call_Name_kw (ld_blt I hg hm hv ?_ hn hdb)
  exact PyProof.Rows.callWith_type0 (hc pins s σ H [] [] Q I .nil h)
end
end L2

namespace HT
open PySem PyProof.Rows

/-- t < u of tuples of ints -/
def lexLt : List Int → List Int → Bool
  | [], [] => false
  | [], _ :: _ => true
  | _ :: _, [] => false
  | x :: xs, y :: ys => if x = y then lexLt xs ys else decide (x < y)
theorem lexLt_cons (x y : Int) (xs ys : List Int) : lexLt (x :: xs) (y :: ys) = if x = y then lexLt xs ys else decide (x < y) := rfl
theorem lexLt_nil_nil : lexLt [] [] = false := rfl
theorem lexLt_nil_cons (y : Int) (ys : List Int) : lexLt [] (y :: ys) = true := rfl
theorem lexLt_cons_nil (x : Int) (xs : List Int) : lexLt (x :: xs) [] = false := rfl

theorem eqAt_int (A : Around) (s : Shared) (a : Int) (t : Tok) (c : Int) (u : Tok) : ∃ e, SeqAt.EqAt A s (.int a t) (.int c u) e ∧ (e = true ↔ a = c) :=
  ⟨(a == c), SeqAt.EqAt.int_int a t c u, by simp⟩
theorem rcLt_int (A : Around) (s : Shared) (a : Int) (t : Tok) (c : Int) (u : Tok) (prog : Program) (w : World) (E : Value → Shared → Prop) (Q : Value → Shared → Prop) (h : Q (.bool (decide (a < c))) s) :
    wpAny (model prog w) A (richCompare .Lt (.int a t) (.int c u)) Q E s :=
  (PyProof.Rows.lt_int h : wpAny (model prog w) A (compareOp .Lt (.int a t) (.int c u)) Q E s)

section
open PySem.SeqAt
open PySem.AutoSeq1 (wpAny_loadPart')
open PySem.MeetsSeq PySem.MeetsSeq2 PySem.MeetsSeq3

theorem tuple_lt_ints (l b : Addr) (items items2 : Array Value) (n n2 : Nat) (dd dd2 : Option Addr) (sl sl2 : Array (Option Value)) (ns ms : List Int) (hi : IntsAre items.toList ns) (hj : IntsAre items2.toList ms) :
    Meets (Builtin.«tuple.__lt__» ⟨[.ref l, .ref b], []⟩)
      (fun _ R s => s.heap.get? l = some { cls := .type "tuple", dict := dd, data := .seq items n, slots := sl } ∧ s.heap.get? b = some { cls := .type "tuple", dict := dd2, data := .seq items2 n2, slots := sl2 } ∧
        R (.ok (.ret (.bool (lexLt ns ms)))) s) :=
  .of_wp fun prog w A R s h => by
    obtain ⟨hp, g, d, tk, os⟩ := s; obtain ⟨hl, hb, h⟩ := h
    have f2 := AutoSeq1.sub_tuple_tuple
    have z1 : items.size = ns.length := by rw [← hi.length]; simp
    have z2 : items2.size = ms.length := by rw [← hj.length]; simp
    wp_walk using wpAny_loadPart' hl, wpAny_loadPart' hb, wpAny_forIn_list _ (fun rest b s' => b.1 = none ∧ s' = ⟨hp, g, d, tk, os⟩ ∧ ∃ (vs ws : List Value) (ns' ms' : List Int), rest = vs.zip ws ∧
      IntsAre vs ns' ∧ IntsAre ws ms' ∧ ns'.length + items2.size = ms'.length + items.size ∧ R (.ok (.ret (.bool (lexLt ns' ms')))) ⟨hp, g, d, tk, os⟩) _
    case turn =>
      rintro ⟨y, x⟩ rest b s' ⟨hb', rfl, vs, ws, ns', ms', hz, hvi, hwi, hlen, hR⟩
      cases hvi with
      | nil => rw [List.zip_nil_left] at hz; cases hz
      | cons a t hvi' =>
        cases hwi with
        | nil => rw [List.zip_nil_right] at hz; cases hz
        | cons c u hwi' =>
          rw [List.zip_cons_cons] at hz
          injection hz with hyx hrest
          injection hyx with hy hx
          subst hy hx
          rw [lexLt_cons] at hR
          simp only [List.length_cons] at hlen
          obtain ⟨e, he, hiff⟩ := eqAt_int A.in1 ⟨hp, g, d, tk, os⟩ a t c u
          refine wpAny_bind (he prog w _ _ ?_)
          cases e with
          | true =>
            rw [if_pos (hiff.mp rfl)] at hR
            wp_walk
            exact ⟨rfl, rfl, _, _, _, _, hrest, hvi', hwi', by omega, hR⟩
          | false =>
            rw [if_neg (fun q => absurd (hiff.mpr q) Bool.false_ne_true)] at hR
            have hri := rcLt_int A.in1 ⟨hp, g, d, tk, os⟩ a t c u prog w
            wp_walk using hri
            exact ⟨_, rfl, by simpa using hR⟩
    case fin =>
      rintro ⟨b1, b2⟩ s' ⟨hb', rfl, vs, ws, ns', ms', hz, hvi, hwi, hlen, hR⟩
      simp only at hb'
      subst hb'
      have hv : lexLt ns' ms' = decide (items.size < items2.size) := by
        cases hvi with
        | nil =>
          cases hwi with
          | nil =>
            simp only [List.length_nil] at hlen
            rw [lexLt_nil_nil]
            exact (decide_eq_false (by omega)).symm
          | cons c u hw =>
            simp only [List.length_nil, List.length_cons] at hlen
            rw [lexLt_nil_cons]
            exact (decide_eq_true (by omega)).symm
        | cons a t hv =>
          cases hwi with
          | nil =>
            simp only [List.length_nil, List.length_cons] at hlen
            rw [lexLt_cons_nil]
            exact (decide_eq_false (by omega)).symm
          | cons c u hw =>
            rw [List.zip_cons_cons] at hz
            cases hz
      rw [hv] at hR
      wp_walk
      exact ⟨_, rfl, by simpa [Builtin.Tuple.tupleCompareSizes] using hR⟩
    case h =>
      exact ⟨rfl, rfl, items.toList, items2.toList, ns, ms, rfl, hi, hj, by omega, h⟩
end

section
variable {prog : Program} {w : World} {A : Around} {E : Value → Shared → Prop} {s : Shared}

theorem lt_tupInts {l b : Addr} {items items2 : Array Value} {ns ms : List Int} {Q : Value → Shared → Prop} (hl : IsTup s.heap l items) (hb : IsTup s.heap b items2) (hi : IntsAre items.toList ns) (hj : IntsAre items2.toList ms)
    (hu : A.units < cLine) (h : Q (.bool (lexLt ns ms)) s) : wpAny (model prog w) A (compareOp .Lt (.ref l) (.ref b)) Q E s := by
  obtain ⟨⟨cls, dd, data, sl⟩, ho, hc, n, hd⟩ := id hl
  obtain ⟨⟨cls2, dd2, data2, sl2⟩, ho2, hc2, n2, hd2⟩ := id hb
  simp only at hc hd hc2 hd2
  subst hc hd hc2 hd2
  exact richCompare_meets_room (op := .Lt) ⟨_, ho, rfl⟩ ⟨_, ho2, rfl⟩ PySem.F.slot_tuple_lt PySem.F.entry_tuple_lt (PySem.F.args_tuple_lt_2 _ _) (tuple_lt_ints l b items items2 n n2 dd dd2 sl sl2 ns ms hi hj)
    ⟨ho, ho2, show Value.bool (lexLt ns ms) ≠ Value.notImplemented ∧ Q (.bool (lexLt ns ms)) s from ⟨(fun x => nomatch x), h⟩⟩ hu

/-- t + u, t not empty -/
theorem cat_tup {t b : Addr} {vs ws : List Value} {Q : Value → Shared → Prop} (ht : IsTup s.heap t vs.toArray) (hb : IsTup s.heap b ws.toArray) (hv : vs ≠ [])
    (h1 : ws = [] → Q (.ref t) s) (h2 : ws ≠ [] → Q (.ref s.heap.objs.size) { s with heap := s.heap.push { cls := .type "tuple", data := .seq (vs ++ ws).toArray } })
    (hsz : vs.length + ws.length ≤ sizeLine) : wpAny (model prog w) A (binaryOp .Add (.ref t) (.ref b)) Q E s := by
  obtain ⟨⟨cls, dd, data, sl⟩, ho, hc, n, hd⟩ := id ht
  obtain ⟨⟨cls2, dd2, data2, sl2⟩, ho2, hc2, n2, hd2⟩ := id hb
  simp only at hc hd hc2 hd2
  subst hc hd hc2 hd2
  have e : vs.toArray ++ ws.toArray = (vs ++ ws).toArray := by simp
  by_cases hw : ws = []
  · exact concat_meets ⟨_, ho, rfl⟩ ⟨_, ho2, rfl⟩ noFill_tuple_add seq_tuple_add PySem.F.slot_tuple_add PySem.F.entry_tuple_add (PySem.F.args_tuple_add_2 _ _)
      (tuple_addW1 t b vs.toArray ws.toArray n n2 dd dd2 sl sl2 (by simpa using hv) (by simp [hw])) ⟨ho, ho2, h1 hw⟩
  · refine concat_meets ⟨_, ho, rfl⟩ ⟨_, ho2, rfl⟩ noFill_tuple_add seq_tuple_add PySem.F.slot_tuple_add PySem.F.entry_tuple_add (PySem.F.args_tuple_add_2 _ _)
      (tuple_addW2 t b vs.toArray ws.toArray n n2 dd dd2 sl sl2 (by simpa using hv) (by simpa using hw) (by rw [List.size_toArray, List.size_toArray]; exact hsz)) ⟨ho, ho2, ?_⟩
    rw [e]
    exact h2 hw

/-! ### t[a:b], not the whole -/
/-- a slice's bound as a place among n (d where it is left out) -/
def sIx (n d : Nat) : Option Int → Nat
  | none => d
  | some v => if v < 0 then (v + (n : Int)).toNat else min v.toNat n
theorem sIx_none (n d : Nat) : sIx n d none = d := rfl
theorem sIx_nat (n d k : Nat) : sIx n d (some (k : Int)) = min k n := by
  show (if (k : Int) < 0 then ((k : Int) + (n : Int)).toNat else min (k : Int).toNat n) = min k n
  rw [if_neg (by omega), Int.toNat_natCast]
theorem sIx_le (n d : Nat) (hd : d ≤ n) (o : Option Int) : sIx n d o ≤ n := by
  cases o with
  | none => exact hd
  | some v =>
    show (if v < 0 then (v + (n : Int)).toNat else min v.toNat n) ≤ n
    by_cases hv : v < 0
    · rw [if_pos hv]; omega
    · rw [if_neg hv]; exact Nat.min_le_right _ _
theorem clip_eq (v : Int) (n d : Nat) : (if v < 0 then max (v + (n : Int)) 0 else min v (n : Int)) = ((sIx n d (some v) : Nat) : Int) := by
  show (if v < 0 then max (v + (n : Int)) 0 else min v (n : Int)) = (((if v < 0 then (v + (n : Int)).toNat else min v.toNat n) : Nat) : Int)
  by_cases hv : v < 0
  · simp only [if_pos hv]; omega
  · simp only [if_neg hv]; omega
theorem adjust_gen (lo hi : Option Int) (n : Nat) : Builtin.Slice.sliceAdjust lo hi 1 (n : Int) = (((sIx n 0 lo : Nat) : Int), ((sIx n n hi : Nat) : Int)) := by
  have h1 : ¬ ((1 : Int) < 0) := by omega
  unfold Builtin.Slice.sliceAdjust
  simp only [h1, if_false]
  refine Prod.ext ?_ ?_
  · cases lo with
    | none => rfl
    | some v => exact clip_eq v n 0
  · cases hi with
    | none => rfl
    | some v => exact clip_eq v n n
theorem places_gen (i j : Nat) : Builtin.Slice.slicePlaces (i : Int) (j : Int) 1 = j - i := by
  unfold Builtin.Slice.slicePlaces
  have h1 : (1 : Int) > 0 := by omega
  simp only [h1, if_true, Int.ediv_one]
  split <;> omega
theorem slicePart_ {v : Value} {o : Option Int} {Q : Option Int → Shared → Prop} (p : IsPart v o) (h : Q o s) : wpAny (model prog w) A (Builtin.Slice.slicePartIndex v) Q E s := by
  cases p with
  | none => exact slicePart_none h
  | int i t => exact slicePart_int h
theorem sliceApplied_gen {sl : Addr} {vl vu : Value} {lo hi : Option Int} {n : Nat} {Q : Int × Int × Nat → Shared → Prop} (hs : s.heap.IsSliceOf sl vl vu .none) (pl : IsPart vl lo) (pu : IsPart vu hi)
    (h : Q (((sIx n 0 lo : Nat) : Int), 1, sIx n n hi - sIx n 0 lo) s) : wpAny (model prog w) A (Builtin.Slice.sliceApplied (.ref sl) (pure (n : Int))) Q E s := by
  obtain ⟨os, hos, hcs, hds⟩ := id hs
  unfold Builtin.Slice.sliceApplied Builtin.Slice.sliceFields
  refine wpAny_bind (wpAny_bind (wpAny_field hos hds (x := vl) rfl (wpAny_bind (wpAny_field hos hds (x := vu) rfl (wpAny_bind (wpAny_field hos hds (x := .none) rfl (wpAny_pure ?_)))))))
  refine wpAny_bind (slicePart_none ?_)
  show wpAny _ _ (if ((1 : Int) == 0) = true then _ else _) _ _ s
  rw [if_neg (by decide)]
  refine wpAny_bind (slicePart_ pl (wpAny_bind (slicePart_ pu (wpAny_bind (wpAny_pure ?_)))))
  show wpAny _ _ (match Builtin.Slice.sliceAdjust lo hi 1 (n : Int) with | (lo, hi) => pure (lo, (1 : Int), Builtin.Slice.slicePlaces lo hi 1)) _ _ s
  rw [adjust_gen lo hi n]
  show wpAny _ _ (pure (((sIx n 0 lo : Nat) : Int), (1 : Int), Builtin.Slice.slicePlaces ((sIx n 0 lo : Nat) : Int) ((sIx n n hi : Nat) : Int) 1)) _ _ s
  rw [places_gen]
  exact wpAny_pure h
theorem pick_gen (xs : Array Value) (i k : Nat) : ((List.range k).filterMap fun (m : Nat) => xs[((i : Int) + (m : Int) * 1).toNat]?).toArray = ((xs.toList.drop i).take k).toArray := by
  have e : (fun (m : Nat) => xs[((i : Int) + (m : Int) * 1).toNat]?) = fun m => xs[i + m]? := by
    funext m
    have : ((i : Int) + (m : Int) * 1).toNat = i + m := by omega
    rw [this]
  rw [e]
  have := pick_run xs i k
  rw [List.filterMap_map] at this
  have e2 : ((fun x => xs[x]?) ∘ fun x => i + x) = fun m => xs[i + m]? := rfl
  rw [e2] at this
  rw [this]

theorem getItem_tuple_cut {t sl : Addr} {items : Array Value} {vl vu : Value} {lo hi : Option Int} {Q : Value → Shared → Prop} (ht : IsTup s.heap t items) (hs : s.heap.IsSliceOf sl vl vu .none) (pl : IsPart vl lo) (pu : IsPart vu hi)
    (hw : ¬ (sIx items.size 0 lo = 0 ∧ sIx items.size items.size hi = items.size))
    (h : Q (.ref s.heap.objs.size) { s with heap := s.heap.push { cls := .type "tuple", data := .seq ((items.toList.drop (sIx items.size 0 lo)).take (sIx items.size items.size hi - sIx items.size 0 lo)).toArray } })
    (hsz : items.size ≤ sizeLine) : wpAny (model prog w) A (getItem (.ref t) (.ref sl)) Q E s := by
  have htake : sizeOk (.seq ((items.toList.drop (sIx items.size 0 lo)).take (sIx items.size items.size hi - sIx items.size 0 lo)).toArray) := by
    show ((items.toList.drop (sIx items.size 0 lo)).take (sIx items.size items.size hi - sIx items.size 0 lo)).toArray.size ≤ sizeLine
    rw [List.size_toArray, List.length_take, List.length_drop, Array.length_toList]
    omega
  have hj : sIx items.size items.size hi ≤ items.size := sIx_le _ _ (Nat.le_refl _) hi
  obtain ⟨os, hos, hcs, hds⟩ := id hs
  have hTs : s.TypeIs (.ref sl) "slice" := ⟨os, hos, hcs⟩
  unfold getItem
  try with_reducible refine wpAny_holding ?_
  first | refine wpAny_bind (wpAny_pure ?_) | skip
  refine wpAny_bind (wpAny_sequenceKey ht.typeIs (by decide) ?_)
  refine wpAny_bind (wpAny_callSpecial?_slot (name := Str.ofString "__getitem__") ht.typeIs PyProof.Rows.slot_tuple_getitem
    (wpAny_call_entry PyProof.Rows.slot_tuple_getitem ht.typeIs entry_tuple_getitem ?_ (args_tuple_getitem _ _)))
  show wpAny _ _ (Builtin.Tuple.tupleItemsOf (.ref t) >>= _) _ _ s
  refine wpAny_bind (tupleItemsOf_ ht ?_)
  refine wpAny_bind (wpAny_typeOf hTs ?_)
  rw [if_pos (by decide)]
  refine wpAny_bind (sliceApplied_gen hs pl pu ?_)
  have hno : ¬ ((((sIx items.size 0 lo : Nat) : Int) == 0 && (1 : Int) == 1 && (sIx items.size items.size hi - sIx items.size 0 lo) == items.size) = true) := by
    intro q
    rw [Bool.and_eq_true, Bool.and_eq_true] at q
    have q1 : ((sIx items.size 0 lo : Nat) : Int) = 0 := eq_of_beq q.1.1
    have q2 : sIx items.size items.size hi - sIx items.size 0 lo = items.size := eq_of_beq q.2
    exact hw ⟨by omega, by omega⟩
  show wpAny _ _ (if (((sIx items.size 0 lo : Nat) : Int) == 0 && (1 : Int) == 1 && (sIx items.size items.size hi - sIx items.size 0 lo) == items.size) = true then _ else _) _ _ s
  rw [if_neg hno, pick_gen]
  first
    | exact wpAny_bind (m := Builtin.Tuple.tupleExact _) (wpAny_newObj_type (wpAny_pure ⟨_, rfl, wpAny_pure h⟩) htake)
    | exact wpAny_bind (m := Builtin.Tuple.tupleExact _) (wpAny_newObj_type (wpAny_bind (wpAny_pure (wpAny_pure ⟨_, rfl, wpAny_pure h⟩))) htake)
    | exact wpAny_bind (wpAny_bind (m := Builtin.Tuple.tupleExact _) (wpAny_newObj_type (wpAny_pure (wpAny_pure ⟨_, rfl, wpAny_pure h⟩)) htake))
    | exact wpAny_bind (wpAny_bind (m := Builtin.Tuple.tupleExact _) (wpAny_newObj_type (wpAny_pure ⟨_, rfl, wpAny_pure h⟩) htake))
end
end HT

namespace L2
open PySem PySem.Spec PyProof.Rows

/-! ### the parts of a slice -/
abbrev TO := St → Hp → (Option Int → Hp → Prop) → Prop
/-- a slice's part (left out, or an int) -/
def PO (X : Cx) (e : Option Expr) (t : TO) : Prop :=
  ∀ (pins : List (Addr × Obj)) (s : Shared) (σ : St) (H : Hp) (Q : Option Int → Hp → Prop), Inv X pins σ H s → t σ H Q →
    wpAny (model X.prog X.w) X.A (evalPart e X.env) (fun u s' => ∃ o H', Inv X pins σ H' s' ∧ IsPart u o ∧ Q o H') X.xe s
def tNoPart : TO := fun _ H Q => Q none H
def tPart (t : TE) : TO := fun σ H Q => t σ H fun x H1 => ∃ i, x = .int i ∧ Q (some i) H1

theorem intsAre_of {ns : List Int} : ∀ {us : List Value}, Vals (ns.map V.int) us → IntsAre us ns := by
  induction ns with
  | nil => intro us r; rw [List.map_nil] at r; cases r; exact .nil
  | cons n ns ih =>
    intro us r
    rw [List.map_cons] at r
    cases r with
    | cons r1 r2 =>
      obtain ⟨t, e⟩ := r1
      subst e
      exact .cons n t (ih r2)

section
variable {X : Cx} {e : Expr} {te : TE} {lo hi : Option Expr} {tl th : TO} {pos p2 : Pos}

theorem po_none : PO X none tNoPart := by
  intro pins s σ H Q I h
  rw [evalPart_none]
  exact wpAny_pure ⟨none, H, I, .none, h⟩
theorem po_some (h : PE X e te) : PO X (some e) (tPart te) := by
  intro pins s σ H Q I hw
  rw [evalPart_some]
  refine thn (h pins s σ H _ I hw) fun u s1 ⟨x, H1, I1, r1, q1⟩ => ?_
  obtain ⟨i, rfl, q⟩ := q1
  obtain ⟨t, rfl⟩ := r1
  exact ⟨some i, H1, I1, .int i t, q⟩

/-- what a slice of a value is, by values: the slice object stands at sl -/
def SlR (X : Cx) (r : V → Option Int → Option Int → Hp → VK → Prop) : Prop :=
  ∀ (pins : List (Addr × Obj)) (s : Shared) (σ : St) (H : Hp) (x : V) (v vl vu : Value) (lo hi : Option Int) (sl : Addr) (Q : VK), Inv X pins σ H s → RelV x v → s.heap.IsSliceOf sl vl vu .none → IsPart vl lo → IsPart vu hi → r x lo hi H Q →
    ∃ T id, typeLookup (.type T) "__getitem__" = pure (some (.builtin id)) ∧ s.TypeIs v T ∧ wpAny (model X.prog X.w) X.A (getItem v (.ref sl)) (EP X pins σ Q) X.xe s
theorem SlR.or {r r' : V → Option Int → Option Int → Hp → VK → Prop} (h : SlR X r) (h' : SlR X r') : SlR X (fun x lo hi H Q => r x lo hi H Q ∨ r' x lo hi H Q) := by
  intro pins s σ H x v vl vu lo hi sl Q I rx hs pl pu q
  rcases q with q | q
  · exact h pins s σ H x v vl vu lo hi sl Q I rx hs pl pu q
  · exact h' pins s σ H x v vl vu lo hi sl Q I rx hs pl pu q
def tSl (r : V → Option Int → Option Int → Hp → VK → Prop) (te : TE) (tl th : TO) : TE := fun σ H Q => te σ H fun x H1 => tl σ H1 fun l H2 => th σ H2 fun u H3 => r x l u H3 Q
/-- a[lo:hi], any a -/
theorem pe_slice {r : V → Option Int → Option Int → Hp → VK → Prop} (hr : SlR X r) (he : PE X e te) (hl : PO X lo tl) (hu : PO X hi th) : PE X (.Subscript e (.Slice lo hi none p2) pos) (tSl r te tl th) := by
  intro pins s σ H Q I h
  refine Subscript_ (thn (he pins s σ H _ I h) fun v s1 ⟨x, H1, I1, r1, q1⟩ => ?_)
  refine wpAny_Slice (thn (hl pins s1 σ H1 _ I1 q1) fun vl s2 ⟨l, H2, I2, pl, q2⟩ => thn (hu pins s2 σ H2 _ I2 q2) fun vu s3 ⟨u, H3, I3, pu, q3⟩ => ?_)
  rw [evalPart_none]
  refine wpAny_pure ?_
  have I4 : Inv X pins σ H3 { s3 with heap := s3.heap.push { cls := .type "slice", data := .fields #[vl, vu, .none] } } := I3.kept (t' := s3.toks) fun b ob q => Heap.get?_push_of_some _ q
  obtain ⟨T, id, hT, ht, hg⟩ := hr pins { s3 with heap := s3.heap.push { cls := .type "slice", data := .fields #[vl, vu, .none] } } σ H3 x v vl vu l u s3.heap.objs.size Q I4 r1 (Heap.IsSliceOf.new ..) pl pu q3
  show wpAny (model X.prog X.w) X.A (subscriptTail e (.Slice lo hi none p2) v (.ref s3.heap.objs.size)) (EP X pins σ Q) X.xe { s3 with heap := s3.heap.push { cls := .type "slice", data := .fields #[vl, vu, .none] } }
  exact tail_any (ops := [.ref s3.heap.objs.size, v]) ht hT hg (by with_unfolding_all rfl)

/-- the items of xs[lo:hi] -/
def cutV (xs : List V) (lo hi : Option Int) : List V := (xs.drop (HT.sIx xs.length 0 lo)).take (HT.sIx xs.length xs.length hi - HT.sIx xs.length 0 lo)
theorem cutV_length (xs : List V) (lo hi : Option Int) : (cutV xs lo hi).length ≤ xs.length := by
  unfold cutV
  rw [List.length_take, List.length_drop]
  omega
/-- t[lo:hi], not the whole of it (the whole would be t itself) -/
def rSlT (K : PySem.W.Frag) : V → Option Int → Option Int → Hp → VK → Prop := fun x lo hi H Q => ∃ a xs, x = .ref a ∧ SqT K H a xs ∧
  ¬ (HT.sIx xs.length 0 lo = 0 ∧ HT.sIx xs.length xs.length hi = xs.length) ∧ ∀ p, H p = none → Q (.ref p) (upd H p (.tup (cutV xs lo hi)))
theorem sl_tup : SlR X (rSlT X.K) := by
  intro pins s σ H x v vl vu lo hi sl Q I rx hs pl pu h
  obtain ⟨a, xs, rfl, hx, hw, q⟩ := h
  cases rx
  obtain ⟨its, r, ht, hz⟩ := I.tuple hx
  have hlen : its.toArray.size = xs.length := by rw [List.size_toArray]; exact r.length.symm
  refine ⟨"tuple", _, PyProof.Rows.slot_tuple_getitem.lookup, ht.typeIs, ?_⟩
  refine HT.getItem_tuple_cut ht hs pl pu (by rw [hlen]; exact hw) ?_ (by rw [hlen]; exact hz)
  rw [hlen]
  refine ⟨.ref s.heap.objs.size, _, I.laid (t' := s.toks) (o := .tup (cutV xs lo hi)) (fun b ob q => Heap.get?_push_of_some _ q) (Nat.le_refl _) ?_, rfl, q _ (I.hok.fresh (Nat.le_refl _))⟩
  exact ⟨Nat.le_trans (cutV_length xs lo hi) hz, _, (r.drop (HT.sIx xs.length 0 lo)).take (HT.sIx xs.length xs.length hi - HT.sIx xs.length 0 lo), IsTup.new _ _⟩

/-! ### t < u, t + u -/
def rLtT (K : PySem.W.Frag) : R2 := fun x y H Q => ∃ a b ns ms, x = .ref a ∧ y = .ref b ∧ SqT K H a (ns.map V.int) ∧ SqT K H b (ms.map V.int) ∧ Q (.bl (HT.lexLt ns ms)) H
theorem op_ltT (hu : X.A.units < cLine) : OpR X (compareOp .Lt) (rLtT X.K) := by
  intro pins s σ H x y v u Q I rx ry h
  obtain ⟨a, b, ns, ms, rfl, rfl, ha, hb, q⟩ := h
  cases rx
  cases ry
  obtain ⟨its, r1, p1, _⟩ := I.tuple ha
  obtain ⟨its2, r2, p2, _⟩ := I.tuple hb
  have i1 : IntsAre its.toArray.toList ns := intsAre_of r1
  have i2 : IntsAre its2.toArray.toList ms := intsAre_of r2
  exact HT.lt_tupInts p1 p2 i1 i2 hu ⟨.bl (HT.lexLt ns ms), H, I, rfl, q⟩
/-- t + u, t not empty: u empty gives t itself -/
def rCatT (K : PySem.W.Frag) : R2 := fun x y H Q => ∃ a b xs ys, x = .ref a ∧ y = .ref b ∧ SqT K H a xs ∧ SqT K H b ys ∧ xs ≠ [] ∧ xs.length + ys.length ≤ sizeLine ∧
  (ys = [] → Q (.ref a) H) ∧ (ys ≠ [] → ∀ p, H p = none → Q (.ref p) (upd H p (.tup (xs ++ ys))))
theorem Vals.nil_iff {xs : List V} {us : List Value} (r : Vals xs us) : us = [] ↔ xs = [] := by
  cases r with
  | nil => simp
  | cons _ _ => simp
theorem op_catT : OpR X (binaryOp .Add) (rCatT X.K) := by
  intro pins s σ H x y v u Q I rx ry h
  obtain ⟨a, b, xs, ys, rfl, rfl, ha, hb, hx, hz, q1, q2⟩ := h
  cases rx
  cases ry
  obtain ⟨its, r1, p1, _⟩ := I.tuple ha
  obtain ⟨its2, r2, p2, _⟩ := I.tuple hb
  refine HT.cat_tup p1 p2 (fun z => hx (r1.nil_iff.mp z)) (fun z => ⟨.ref a, H, I, rfl, q1 (r2.nil_iff.mp z)⟩) (fun z => ?_) (by rw [← r1.length, ← r2.length]; exact hz)
  refine ⟨.ref s.heap.objs.size, _, I.laid (t' := s.toks) (o := .tup (xs ++ ys)) (fun b ob q => Heap.get?_push_of_some _ q) (Nat.le_refl _) ?_, rfl, q2 (fun w => z (r2.nil_iff.mpr w)) _ (I.hok.fresh (Nat.le_refl _))⟩
  exact ⟨by rw [List.length_append]; exact hz, _, r1.append r2, IsTup.new _ _⟩
/-- tuple(t) -/
theorem call_tupleT : CallR X (.type "tuple") (fun xs H Q => ∃ a ys, xs = [.ref a] ∧ SqT X.K H a ys ∧ Q (.ref a) H) := by
  intro pins s σ H xs us Q I r h
  obtain ⟨a, ys, rfl, ha, q⟩ := h
  obtain ⟨u, rfl, ru⟩ := vals1 r
  cases ru
  obtain ⟨its, _, p1, _⟩ := I.tuple ha
  exact call_tuple_same (items := its.toArray) p1 ⟨.ref a, H, I, rfl, q⟩
end
end L2

namespace L2
open PySem PySem.Spec PyProof.Rows

/-! ### places -/
/-- the place that an index of any sign means -/
def ixN (n : Nat) (i : Int) : Option Nat := if 0 ≤ i then (if i < n then some i.toNat else none) else if -(n : Int) ≤ i then some (i + n).toNat else none
def atI {α : Type} (xs : List α) (i : Int) : Option α := (ixN xs.length i).bind fun j => xs[j]?
theorem ixN_seq {n : Nat} {i : Int} {j : Nat} (h : ixN n i = some j) : seqIndex? i n = some j ∧ j < n ∧ -(n : Int) ≤ i ∧ i < n := by
  unfold ixN at h
  by_cases h0 : 0 ≤ i
  · rw [if_pos h0] at h
    by_cases h1 : i < n
    · rw [if_pos h1] at h
      have e : i.toNat = j := Option.some.inj h
      exact ⟨by rw [seqIndex_of h0 h1, e], by omega, by omega, h1⟩
    · rw [if_neg h1] at h; cases h
  · rw [if_neg h0] at h
    by_cases h1 : -(n : Int) ≤ i
    · rw [if_pos h1] at h
      have e : (i + n).toNat = j := Option.some.inj h
      exact ⟨by rw [seqIndex_neg (by omega) h1, e], by omega, h1, by omega⟩
    · rw [if_neg h1] at h; cases h
theorem atI_get {α : Type} {xs : List α} {i : Int} {v : α} (h : atI xs i = some v) : ∃ j, seqIndex? i xs.length = some j ∧ xs[j]? = some v ∧ j < xs.length ∧ -(xs.length : Int) ≤ i ∧ i < xs.length := by
  unfold atI at h
  cases e : ixN xs.length i with
  | none => rw [e] at h; cases h
  | some j =>
    rw [e] at h
    obtain ⟨h1, h2, h3, h4⟩ := ixN_seq e
    exact ⟨j, h1, h, h2, h3, h4⟩
theorem atI_nat {α : Type} {xs : List α} {j : Nat} {v : α} (h : xs[j]? = some v) : atI xs (j : Int) = some v := by
  have hj : j < xs.length := (List.getElem?_eq_some_iff.mp h).1
  have e : ixN xs.length (j : Int) = some j := by
    unfold ixN
    rw [if_pos (by omega), if_pos (by omega)]; simp
  unfold atI; rw [e]; exact h
theorem atI_last {α : Type} (xs : List α) (v : α) : atI (xs ++ [v]) (-1) = some v := by
  have hl : (xs ++ [v]).length = xs.length + 1 := by simp
  have e : ixN (xs ++ [v]).length (-1) = some xs.length := by
    unfold ixN
    rw [hl, if_neg (by decide), if_pos (by omega)]
    congr 1
    omega
  unfold atI
  rw [e]
  show (xs ++ [v])[xs.length]? = some v
  simp

/-! ### what may be subscripted -/
/-- what stands as an index of a plain subscript -/
def PlainIx (b : Expr) : Prop := ∀ o i, subscripted b false o i = operate [o, i] (getItem o i)
/-- a subscript by values -/
def IxR (X : Cx) (r : R2) : Prop :=
  ∀ (value slice : Expr) (pins : List (Addr × Obj)) (s : Shared) (σ : St) (H : Hp) (x y : V) (v u : Value) (Q : VK), Inv X pins σ H s → RelV x v → RelV y u → r x y H Q →
    subscripted slice false v u = operate [v, u] (getItem v u) → wpAny (model X.prog X.w) X.A (subscriptTail value slice v u) (EP X pins σ Q) X.xe s
/-- a call of a builtin's method by values: the receiver, the arguments -/
def MtR (X : Cx) (id : String) (r : V → List V → Hp → VK → Prop) : Prop :=
  ∀ (pins : List (Addr × Obj)) (s : Shared) (σ : St) (H : Hp) (x : V) (xs : List V) (v : Value) (us : List Value) (Q : VK), Inv X pins σ H s → RelV x v → Vals xs us → r x xs H Q →
    wpAny (model X.prog X.w) X.A (call (.builtin id) (v :: us)) (EP X pins σ Q) X.xe s
section
variable {X : Cx} {a b : Expr} {ta tb : TE} {pos : Pos}
theorem IxR.or {r r' : R2} (h : IxR X r) (h' : IxR X r') : IxR X (fun x y H Q => r x y H Q ∨ r' x y H Q) := by
  intro value slice pins s σ H x y v u Q I rx ry q hs
  rcases q with q | q
  · exact h value slice pins s σ H x y v u Q I rx ry q hs
  · exact h' value slice pins s σ H x y v u Q I rx ry q hs
theorem MtR.or {id : String} {r r' : V → List V → Hp → VK → Prop} (h : MtR X id r) (h' : MtR X id r') : MtR X id (fun x xs H Q => r x xs H Q ∨ r' x xs H Q) := by
  intro pins s σ H x xs v us Q I rx rs q
  rcases q with q | q
  · exact h pins s σ H x xs v us Q I rx rs q
  · exact h' pins s σ H x xs v us Q I rx rs q
/-- a[b] -/
theorem pe_ix {r : R2} (hr : IxR X r) (ha : PE X a ta) (hb : PE X b tb) (hs : PlainIx b) : PE X (.Subscript a b pos) (tOp r ta tb) := by
  intro pins s σ H Q I h
  exact Subscript_ (binT ha hb I h fun v u s2 x y H2 I2 rx ry q => hr a b pins s2 σ H2 x y v u Q I2 rx ry q (hs _ _))

def rIxL (K : PySem.W.Frag) : R2 := fun x y H Q => ∃ p xs i v, x = .ref p ∧ y = .int i ∧ SqL K H p xs ∧ atI xs i = some v ∧ Q v H
def rIxT (K : PySem.W.Frag) : R2 := fun x y H Q => ∃ p xs i v, x = .ref p ∧ y = .int i ∧ SqT K H p xs ∧ atI xs i = some v ∧ Q v H
def rIxS : R2 := fun x y H Q => ∃ z i c, x = .str z ∧ y = .int i ∧ z.length ≤ sizeLine ∧ atI z.cps.toList i = some c ∧ Q (.str ⟨#[c]⟩) H
theorem ix_list : IxR X (rIxL X.K) := by
  intro value slice pins s σ H x y v u Q I rx ry h hs
  obtain ⟨p, xs, i, z, rfl, rfl, hq, he, q⟩ := h
  cases rx
  obtain ⟨t, rfl⟩ := ry
  obtain ⟨its, r, pl, hz⟩ := I.list hq
  obtain ⟨j, h1, h2, h3, h4, h5⟩ := atI_get he
  obtain ⟨w, ew, rw'⟩ := r.get h2
  have hl := r.length
  have hn := line63
  have fin : EP X pins σ Q w s := ⟨z, H, I, rw', q⟩
  by_cases h0 : 0 ≤ i
  · have hj : i.toNat = j := by
      rw [seqIndex_of h0 h5] at h1
      exact Option.some.inj h1
    exact item_listR pl.isList h0 (by omega) (by rw [hj]; simpa using ew) fin hs
  · have hj : (i + (its.toArray.size : Int)).toNat = j := by
      rw [seqIndex_neg (by omega) h4] at h1
      rw [List.size_toArray, ← hl]
      exact Option.some.inj h1
    exact subscriptTail_builtinR (x := w) pl.isList.typeIs slot_list_getitem.lookup
      (wpAny_getItem_list_neg (Q := fun r s' => r = w ∧ EP X pins σ Q r s') pl.isList (by omega) (by rw [List.size_toArray] <;> omega) (by omega) (by rw [hj]; simpa using ew) ⟨rfl, fin⟩) hs
theorem ix_tup : IxR X (rIxT X.K) := by
  intro value slice pins s σ H x y v u Q I rx ry h hs
  obtain ⟨p, xs, i, z, rfl, rfl, hq, he, q⟩ := h
  cases rx
  obtain ⟨t, rfl⟩ := ry
  obtain ⟨its, r, pl, hz⟩ := I.tuple hq
  obtain ⟨j, h1, h2, h3, h4, h5⟩ := atI_get he
  obtain ⟨w, ew, rw'⟩ := r.get h2
  have hl := r.length
  have hn := line63
  have fin : EP X pins σ Q w s := ⟨z, H, I, rw', q⟩
  exact subscriptTail_builtinR (x := w) pl.typeIs slot_tuple_getitem.lookup
    (getItem_tuple (j := j) (Q := fun r s' => r = w ∧ EP X pins σ Q r s') pl (by omega) (by omega) (by rw [List.size_toArray, ← hl]; exact h1) (by simpa using ew) ⟨rfl, fin⟩) hs
theorem ix_str : IxR X rIxS := by
  intro value slice pins s σ H x y v u Q I rx ry h hs
  obtain ⟨z, i, c, rfl, rfl, hz, he, q⟩ := h
  obtain ⟨t, rfl⟩ := rx
  obtain ⟨t', rfl⟩ := ry
  obtain ⟨j, h1, h2, h3, h4, h5⟩ := atI_get he
  have hl : z.cps.toList.length = z.length := by simp [Str.length]
  rw [hl] at h1 h4 h5
  have hn := line63
  exact tail_any (typeIs_str s z t) slot_str_getitem.lookup (getItem_str (c := c) (by
    have e1 : decide (i < -(2 ^ 63 : Int)) = false := decide_eq_false (by omega)
    have e2 : decide (i ≥ 2 ^ 63) = false := decide_eq_false (by omega)
    rw [e1, e2, Bool.or_false]) (by rw [h1]; simpa using h2) ⟨.str ⟨#[c]⟩, H, I.tok _, ⟨_, rfl⟩, q⟩) hs
/-- list, tuple or str -/
def rIx (K : PySem.W.Frag) : R2 := fun x y H Q => rIxL K x y H Q ∨ rIxT K x y H Q ∨ rIxS x y H Q
theorem ix_seq : IxR X (rIx X.K) := ix_list.or (ix_tup.or ix_str)

/-! ### xs[i] = v, any sign -/
/-- the list's object behind a store -/
theorem mapSeq_set (its : List Value) (n j : Nat) (u : Value) : Obj.mapSeq (·.setIfInBounds j u) { cls := .type "list", data := .seq its.toArray n } = { cls := .type "list", data := .seq (its.set j u).toArray n } := by
  simp [Obj.mapSeq]
theorem Inv.lst {pins : List (Addr × Obj)} {σ : St} {H : Hp} {s : Shared} {p : Addr} {xs : List V} (I : Inv X pins σ H s) (h : H p = some (.lst xs)) :
    ∃ (its : List Value) (n : Nat), Vals xs its ∧ s.heap.get? p = some { cls := .type "list", data := .seq its.toArray n } ∧ xs.length ≤ sizeLine := by
  obtain ⟨z, its, n, r, e⟩ := I.hok p _ h
  exact ⟨its, n, r, e, z⟩
/-- the list at p is written by an update of its object -/
theorem Inv.lstUpd {pins : List (Addr × Obj)} {σ : St} {H : Hp} {s : Shared} {p : Addr} {xs ys : List V} {its its' : List Value} {n n' : Nat} {f : Obj → Obj} (I : Inv X pins σ H s) (h : H p = some (.lst xs))
    (ho : s.heap.get? p = some { cls := .type "list", data := .seq its.toArray n }) (hf : f { cls := .type "list", data := .seq its.toArray n } = { cls := .type "list", data := .seq its'.toArray n' }) (r : Vals ys its') (hz : ys.length ≤ sizeLine) (t : Nat) :
    Inv X pins σ (upd H p (.lst ys)) { s with heap := s.heap.update p f, toks := t } := by
  have e : (s.heap.update p f).get? p = some { cls := .type "list", data := .seq its'.toArray n' } := by
    rw [Heap.get?_update_self f ho (by rw [hf] <;> rfl), hf]
  refine I.write (x := p) (e := p) (by rw [h]; trivial) (.inl rfl) (fun b u hb q => (Heap.get?_update_other _ _ (Ne.symm hb)).trans q) ⟨_, e⟩ ?_
  exact ⟨hz, its', n', r, e⟩
def rSetL : V → V → V → Hp → (Hp → Prop) → Prop := fun o i v H Q => ∃ p xs k j, o = .ref p ∧ i = .int k ∧ H p = some (.lst xs) ∧ ixN xs.length k = some j ∧ Q (upd H p (.lst (xs.set j v)))
theorem set_list : PSet X rSetL := by
  intro pins s σ H o i v ov iv u Q I ro ri rv h
  obtain ⟨p, xs, k, j, rfl, rfl, hp, hj, q⟩ := h
  cases ro
  obtain ⟨t, rfl⟩ := ri
  obtain ⟨its, n, r, ho, hz⟩ := I.lst hp
  obtain ⟨h1, h2, h3, h4⟩ := ixN_seq hj
  have hl := r.length
  have hn := line63
  have I' : Inv X pins σ (upd H p (.lst (xs.set j v))) { s with heap := s.heap.update p (Obj.mapSeq (·.setIfInBounds j u)) } :=
    I.lstUpd hp ho (mapSeq_set its n j u) (r.set rv j) (by rw [List.length_set]; exact hz) s.toks
  by_cases h0 : 0 ≤ k
  · have hk : k.toNat = j := by
      rw [seqIndex_of h0 h4] at h1
      exact Option.some.inj h1
    exact PySem.W.ki_setAt ho h0 (by omega) (by rw [List.size_toArray, ← hl]; exact h4) (by rw [hk]; exact ⟨_, I', q⟩)
  · have hk : (k + (its.toArray.size : Int)).toNat = j := by
      rw [seqIndex_neg (by omega) h3] at h1
      rw [List.size_toArray, ← hl]
      exact Option.some.inj h1
    exact PySem.W.ki_setBack ho (by omega) (by rw [List.size_toArray, ← hl]; exact h3) (by omega) (by rw [hk]; exact ⟨_, I', q⟩)

/-! ### slices -/
theorem slice_bounds (lo hi : Option Int) (n : Nat) : (sliceBounds lo hi none n).1 = ((HT.sIx n 0 lo : Nat) : Int) ∧ (sliceBounds lo hi none n).2.1 = ((HT.sIx n n hi : Nat) : Int) ∧ (sliceBounds lo hi none n).2.2 = 1 := by
  refine ⟨?_, ?_, rfl⟩
  · cases lo with
    | none => simp [sliceBounds, HT.sIx]
    | some i =>
      simp only [sliceBounds, HT.sIx, Option.getD_none, show (1 : Int) > 0 by decide, if_true]
      by_cases h : i < 0
      · simp only [h, if_true] <;> omega
      · simp only [h, if_false] <;> omega
  · cases hi with
    | none => simp [sliceBounds, HT.sIx]
    | some i =>
      simp only [sliceBounds, HT.sIx, Option.getD_none, show (1 : Int) > 0 by decide, if_true]
      by_cases h : i < 0
      · simp only [h, if_true] <;> omega
      · simp only [h, if_false] <;> omega
theorem slicePick_cut (its : List Value) (lo hi : Option Int) : slicePick its.toArray lo hi none = ((its.drop (HT.sIx its.length 0 lo)).take (HT.sIx its.length its.length hi - HT.sIx its.length 0 lo)).toArray := by
  obtain ⟨h1, h2, h3⟩ := slice_bounds lo hi its.toArray.size
  unfold slicePick
  rw [h1, h2, h3]
  simp only [sliceRange_one, pick_run, List.size_toArray] <;> rfl
/-- xs[lo:hi] of a list: a new list -/
def rSlL (K : PySem.W.Frag) : V → Option Int → Option Int → Hp → VK → Prop := fun x lo hi H Q => ∃ a xs, x = .ref a ∧ SqL K H a xs ∧ ∀ p, H p = none → Q (.ref p) (upd H p (.lst (cutV xs lo hi)))
theorem sl_list : SlR X (rSlL X.K) := by
  intro pins s σ H x v vl vu lo hi sl Q I rx hs pl pu h
  obtain ⟨a, xs, rfl, hx, q⟩ := h
  cases rx
  obtain ⟨its, r, ht, hz⟩ := I.list hx
  have hlen := r.length
  refine ⟨"list", _, slot_list_getitem.lookup, ht.isList.typeIs, ?_⟩
  refine wpAny_getItem_list_slice ht.isList hs pl pu .none (by simp) ?_ (by rw [List.size_toArray] <;> omega)
  rw [slicePick_cut, ← hlen]
  refine ⟨.ref s.heap.objs.size, _, I.laid (t' := s.toks) (o := .lst (cutV xs lo hi)) (fun b ob q => Heap.get?_push_of_some _ q) (Nat.le_refl _) ?_, rfl, q _ (I.hok.fresh (Nat.le_refl _))⟩
  exact ⟨Nat.le_trans (cutV_length xs lo hi) hz, _, 0, (r.drop (HT.sIx xs.length 0 lo)).take (HT.sIx xs.length xs.length hi - HT.sIx xs.length 0 lo), Heap.get?_push_size _ rfl⟩

/-! ### in, not in: flat items -/
def flatV : V → Bool
  | .non => true
  | .bl _ => true
  | .int _ => true
  | .str _ => true
  | _ => false
/-- == of flat values -/
def eqV : V → V → Bool
  | .non, .non => true
  | .bl a, .bl b => a == b
  | .bl a, .int b => (if a then 1 else 0) == b
  | .int a, .bl b => a == (if b then 1 else 0)
  | .int a, .int b => a == b
  | .str a, .str b => a == b
  | _, _ => false
theorem eqAt_V {A : Around} {s : Shared} {y x : V} {u v : Value} (ry : RelV y u) (rx : RelV x v) (fy : flatV y = true) (fx : flatV x = true) : SeqAt.EqAt A s u v (eqV y x) := by
  cases y with
  | non =>
    cases ry
    cases x with
    | non => cases rx; exact SeqAt.EqAt.same _
    | bl b => cases rx; exact SeqAt.EqAt.none_bool b
    | int b => obtain ⟨t, rfl⟩ := rx; exact SeqAt.EqAt.none_int b t
    | str b => obtain ⟨t, rfl⟩ := rx; exact SeqAt.EqAt.none_str b t
    | _ => exact absurd (show false = true from fx) Bool.false_ne_true
  | bl a =>
    cases ry
    cases x with
    | non => cases rx; exact SeqAt.EqAt.bool_none a
    | bl b => cases rx; exact SeqAt.EqAt.bool_bool a b
    | int b => obtain ⟨t, rfl⟩ := rx; exact SeqAt.EqAt.bool_int a b t
    | str b => obtain ⟨t, rfl⟩ := rx; exact SeqAt.EqAt.bool_str a b t
    | _ => exact absurd (show false = true from fx) Bool.false_ne_true
  | int a =>
    obtain ⟨t', rfl⟩ := ry
    cases x with
    | non => cases rx; exact SeqAt.EqAt.int_none a t'
    | bl b => cases rx; exact SeqAt.EqAt.int_bool a t' b
    | int b => obtain ⟨t, rfl⟩ := rx; exact SeqAt.EqAt.int_int a t' b t
    | str b => obtain ⟨t, rfl⟩ := rx; exact SeqAt.EqAt.int_str a t' b t
    | _ => exact absurd (show false = true from fx) Bool.false_ne_true
  | str a =>
    obtain ⟨t', rfl⟩ := ry
    cases x with
    | non => cases rx; exact SeqAt.EqAt.str_none a t'
    | bl b => cases rx; exact SeqAt.EqAt.str_bool a t' b
    | int b => obtain ⟨t, rfl⟩ := rx; exact SeqAt.EqAt.str_int a t' b t
    | str b => obtain ⟨t, rfl⟩ := rx; exact SeqAt.EqAt.str_str a t' b t
    | _ => exact absurd (show false = true from fx) Bool.false_ne_true
  | _ => exact absurd (show false = true from fy) Bool.false_ne_true
/-- the items' answers, read off the values (a value's own answer does not lean on its token) -/
def eqU (x : V) (u : Value) : Bool := match u with
  | .none => eqV .non x
  | .bool b => eqV (.bl b) x
  | .int i _ => eqV (.int i) x
  | .str z _ => eqV (.str z) x
  | _ => false
theorem eqU_of {x y : V} {u : Value} (r : RelV y u) (f : flatV y = true) : eqU x u = eqV y x := by
  cases y with
  | non => cases r; rfl
  | bl b => cases r; rfl
  | int i => obtain ⟨t, rfl⟩ := r; rfl
  | str z => obtain ⟨t, rfl⟩ := r; rfl
  | _ => exact absurd (show false = true from f) Bool.false_ne_true
theorem any_eqU {x : V} : ∀ {xs : List V} {us : List Value}, Vals xs us → xs.all flatV = true → us.any (eqU x) = xs.any fun y => eqV y x
  | _, _, .nil, _ => rfl
  | y :: xs, u :: us, .cons r t, f => by
    rw [List.all_cons, Bool.and_eq_true] at f
    rw [List.any_cons, List.any_cons, eqU_of r f.1, any_eqU t f.2]
theorem mem_eqAt {A : Around} {s : Shared} {x : V} {v : Value} (rx : RelV x v) (fx : flatV x = true) : ∀ {xs : List V} {us : List Value}, Vals xs us → xs.all flatV = true → ∀ u ∈ us, SeqAt.EqAt A s u v (eqU x u)
  | _, _, .nil, _ => fun u hu => by cases hu
  | y :: xs, u :: us, .cons r t, f => fun u' hu => by
    rw [List.all_cons, Bool.and_eq_true] at f
    rcases List.mem_cons.mp hu with rfl | hu
    · rw [eqU_of r f.1]; exact eqAt_V r rx f.1 fx
    · exact mem_eqAt rx fx t f.2 u' hu
def inV (x : V) (xs : List V) : Bool := xs.any fun y => eqV y x
/-- x in a list or tuple of flat items -/
def rIn (K : PySem.W.Frag) (neg : Bool) : R2 := fun x y H Q => ∃ p xs, y = .ref p ∧ (SqL K H p xs ∨ SqT K H p xs) ∧ flatV x = true ∧ xs.all flatV = true ∧ Q (.bl (if neg then !inV x xs else inV x xs)) H
theorem op_in_seq : OpR X (compareOp .In) (rIn X.K false) := by
  intro pins s σ H x y v u Q I rx ry h
  obtain ⟨p, xs, rfl, hq, fx, fs, q⟩ := h
  cases ry
  rcases hq with hq | hq
  · obtain ⟨its, r, pl, hz⟩ := I.list hq
    refine SeqAt.in_listAt (eqU x) pl.isList (fun w hw => mem_eqAt rx fx r fs w (by simpa using hw)) ⟨.bl _, H, I, rfl, ?_⟩
    rw [show its.toArray.any (eqU x) = its.any (eqU x) by simp, any_eqU r fs]
    exact q
  · obtain ⟨its, r, pl, hz⟩ := I.tuple hq
    refine SeqAt.in_tupleAt (eqU x) pl (fun w hw => mem_eqAt rx fx r fs w (by simpa using hw)) ⟨.bl _, H, I, rfl, ?_⟩
    rw [show its.toArray.any (eqU x) = its.any (eqU x) by simp, any_eqU r fs]
    exact q
theorem op_notIn_seq : OpR X (compareOp .NotIn) (rIn X.K true) := by
  intro pins s σ H x y v u Q I rx ry h
  obtain ⟨p, xs, rfl, hq, fx, fs, q⟩ := h
  cases ry
  rcases hq with hq | hq
  · obtain ⟨its, r, pl, hz⟩ := I.list hq
    refine SeqAt.notIn_listAt (eqU x) pl.isList (fun w hw => mem_eqAt rx fx r fs w (by simpa using hw)) ⟨.bl _, H, I, rfl, ?_⟩
    rw [show its.toArray.any (eqU x) = its.any (eqU x) by simp, any_eqU r fs]
    exact q
  · obtain ⟨its, r, pl, hz⟩ := I.tuple hq
    refine SeqAt.notIn_tupleAt (eqU x) pl (fun w hw => mem_eqAt rx fx r fs w (by simpa using hw)) ⟨.bl _, H, I, rfl, ?_⟩
    rw [show its.toArray.any (eqU x) = its.any (eqU x) by simp, any_eqU r fs]
    exact q
theorem op_notIn_str : OpR X (compareOp .NotIn) (fun x y H Q => ∃ i j, x = .str i ∧ y = .str j ∧ Q (.bl (!(!(Builtin.Str.occurrences j i 0 j.length 1).isEmpty))) H) := by
  intro pins s σ H x y v u Q I rx ry h
  obtain ⟨i, j, rfl, rfl, q⟩ := h
  obtain ⟨t, rfl⟩ := rx
  obtain ⟨t', rfl⟩ := ry
  exact notIn_str ⟨.bl _, H, I, rfl, q⟩

/-! ### len, list(x), tuple(x) of any list or tuple that is read -/
theorem call_len_seq : CallR X (.builtin "len") (fun xs H Q => ∃ p ys, xs = [.ref p] ∧ (SqL X.K H p ys ∨ SqT X.K H p ys) ∧ Q (.int ys.length) H) := by
  intro pins s σ H xs us Q I r h
  obtain ⟨p, ys, rfl, hq, q⟩ := h
  obtain ⟨u, rfl, rx⟩ := vals1 r
  cases rx
  have hn := line63
  rcases hq with hq | hq
  · obtain ⟨its, r', pl, hz⟩ := I.list hq
    have hlen := r'.length
    exact Calls.call_len_list pl.isList (by simp only [List.size_toArray] <;> omega) ⟨.int ys.length, H, I.tok _, ⟨s.toks + 1, by rw [List.size_toArray, hlen]⟩, q⟩
  · obtain ⟨its, r', pl, hz⟩ := I.tuple hq
    have hlen := r'.length
    exact len_tuple pl (by simp only [List.size_toArray] <;> omega) ⟨.int ys.length, H, I.tok _, ⟨s.toks + 1, by rw [List.size_toArray, hlen]⟩, q⟩
theorem call_len_str : CallR X (.builtin "len") (fun xs H Q => ∃ z, xs = [.str z] ∧ z.length ≤ sizeLine ∧ Q (.int z.length) H) := by
  intro pins s σ H xs us Q I r h
  obtain ⟨z, rfl, hz, q⟩ := h
  obtain ⟨u, rfl, t, rfl⟩ := vals1 r
  have hn := line63
  exact len_str (by omega) ⟨.int z.length, H, I.tok _, ⟨_, rfl⟩, q⟩
theorem CallR.or {f : Value} {r r' : List V → Hp → VK → Prop} (h : CallR X f r) (h' : CallR X f r') : CallR X f (fun xs H Q => r xs H Q ∨ r' xs H Q) := by
  intro pins s σ H xs us Q I rs q
  rcases q with q | q
  · exact h pins s σ H xs us Q I rs q
  · exact h' pins s σ H xs us Q I rs q
theorem call_list_of : CallR X (.type "list") (fun xs H Q => ∃ p ys, xs = [.ref p] ∧ (SqL X.K H p ys ∨ SqT X.K H p ys) ∧ ∀ l, H l = none → Q (.ref l) (upd H l (.lst ys))) := by
  intro pins s σ H xs us Q I r h
  obtain ⟨p, ys, rfl, hq, q⟩ := h
  obtain ⟨u, rfl, rx⟩ := vals1 r
  cases rx
  have fin : ∀ (its : List Value), Vals ys its → ys.length ≤ sizeLine → ∀ (h' : Heap) (c' : Nat), (∀ b o', s.heap.get? b = some o' → h'.get? b = some o') →
      h'.get? s.heap.objs.size = some { cls := .type "list", dict := none, data := .seq its.toArray c', slots := #[] } → EP X pins σ Q (.ref s.heap.objs.size) { s with heap := h' } := fun its r' hz h' c' kp e =>
    ⟨.ref s.heap.objs.size, _, I.laid (t' := s.toks) kp (Nat.le_refl _) (show ObjOk X.prog X.w _ h' _ (.lst ys) from ⟨hz, its, c', r', e⟩), rfl, q _ (I.hok.fresh (Nat.le_refl _))⟩
  rcases hq with hq | hq
  · obtain ⟨its, r', pl, hz⟩ := I.list hq
    have hlen := r'.length
    obtain ⟨o, ho, hc, n, hd⟩ := pl.isList
    exact call_list_seq p (.inl rfl) ho hc hd (fun h' c' kp e => fin its r' hz h' c' kp e) (by simp only [List.size_toArray] <;> omega)
  · obtain ⟨its, r', pl, hz⟩ := I.tuple hq
    have hlen := r'.length
    obtain ⟨o, ho, hc, n, hd⟩ := pl
    exact call_list_seq p (.inr rfl) ho hc hd (fun h' c' kp e => fin its r' hz h' c' kp e) (by simp only [List.size_toArray] <;> omega)
theorem call_tuple_of : CallR X (.type "tuple") (fun xs H Q => ∃ p ys, xs = [.ref p] ∧ ((SqL X.K H p ys ∧ ∀ l, H l = none → Q (.ref l) (upd H l (.tup ys))) ∨ (SqT X.K H p ys ∧ Q (.ref p) H))) := by
  intro pins s σ H xs us Q I r h
  obtain ⟨p, ys, rfl, h⟩ := h
  obtain ⟨u, rfl, rx⟩ := vals1 r
  cases rx
  rcases h with ⟨hq, q⟩ | ⟨hq, q⟩
  · obtain ⟨its, r', pl, hz⟩ := I.list hq
    have hlen := r'.length
    refine call_tuple_list pl.isList (fun h' kp => ?_) (by simp only [List.size_toArray] <;> omega)
    have I1 : Inv X pins σ H { s with heap := h' } := I.kept (t' := s.toks) kp
    have I2 : Inv X pins σ (upd H h'.objs.size (.tup ys)) { s with heap := h'.push { cls := .type "tuple", data := .seq its.toArray } } :=
      I1.laid (t' := s.toks) (fun b o e => Heap.get?_push_of_some _ e) (Nat.le_refl _) (show ObjOk X.prog X.w _ _ _ (.tup ys) from ⟨hz, its, r', IsTup.new _ _⟩)
    exact ⟨.ref h'.objs.size, _, I2, rfl, q _ (I1.hok.fresh (Nat.le_refl _))⟩
  · obtain ⟨its, r', pl, hz⟩ := I.tuple hq
    exact call_tuple_same pl ⟨.ref p, H, I, rfl, q⟩

/-! ### the call of a builtin's method: o.m(..) -/
/-- the value is of that builtin type -/
def tyV (K : PySem.W.Frag) (T : String) (x : V) (H : Hp) : Prop := match x with
  | .str _ => T = "str"
  | .int _ => T = "int"
  | .ref p => (T = "list" ∧ ∃ xs, SqL K H p xs) ∨ (T = "tuple" ∧ ∃ o, K.lookup p = some o ∧ o.cls = .type "tuple" ∧ o.dict = none) ∨
      (T = "dict" ∧ ((∃ kvs, H p = some (.dK kvs)) ∨ ∃ kvs, H p = some (.dT kvs))) ∨ (T = "set" ∧ ∃ S n, H p = some (.set S n))
  | _ => False
theorem tyV_is {pins : List (Addr × Obj)} {σ : St} {H : Hp} {s : Shared} {T : String} {x : V} {v : Value} (I : Inv X pins σ H s) (r : RelV x v) (ty : tyV X.K T x H) :
    s.TypeIs v T ∧ ∀ a, v = .ref a → ∃ ob, s.heap.get? a = some ob ∧ ob.dict = none := by
  cases x with
  | str z =>
    obtain ⟨t, rfl⟩ := r
    cases (show T = "str" from ty)
    exact ⟨typeIs_str s z t, fun _ e => nomatch e⟩
  | int i =>
    obtain ⟨t, rfl⟩ := r
    cases (show T = "int" from ty)
    exact ⟨typeIs_int s i t, fun _ e => nomatch e⟩
  | ref p =>
    cases r
    rcases ty with ⟨rfl, xs, hq⟩ | ⟨rfl, o, hk, hc, hd⟩ | ⟨rfl, hk⟩ | ⟨rfl, S, n, hk⟩
    · obtain ⟨its, _, pl, _⟩ := I.list hq
      refine ⟨pl.isList.typeIs, fun a e => ?_⟩
      cases e
      obtain ⟨o, n, e, c, hd, _⟩ := pl
      exact ⟨o, e, hd⟩
    · refine ⟨⟨o, I.kIn p o hk, hc⟩, fun a e => ?_⟩
      cases e
      exact ⟨o, I.kIn _ o hk, hd⟩
    · have z : ∃ o, s.heap.get? p = some o ∧ o.ExactDict := by
        rcases hk with ⟨kvs, hk⟩ | ⟨kvs, hk⟩
        · obtain ⟨_, _, _, _, o, _, _, e, ex, _⟩ := I.hok p _ hk
          exact ⟨o, e, ex⟩
        · obtain ⟨_, _, _, _, o, _, _, e, ex, _⟩ := I.hok p _ hk
          exact ⟨o, e, ex⟩
      obtain ⟨o, e, ex⟩ := z
      refine ⟨⟨o, e, ex.1⟩, fun a e2 => ?_⟩
      cases e2
      exact ⟨o, e, ex.2.1⟩
    · obtain ⟨o, _, _, _, e, ex, _⟩ := I.hok p _ hk
      refine ⟨⟨o, e, ex.1⟩, fun a e2 => ?_⟩
      cases e2
      exact ⟨o, e, ex.2.1⟩
  | _ => exact False.elim ty
def tBM0 (K : PySem.W.Frag) (T : String) (r : V → List V → Hp → VK → Prop) (to : TE) : TE := fun σ H Q => to σ H fun x H1 => tyV K T x H1 ∧ r x [] H1 Q
def tBM (K : PySem.W.Frag) (T : String) (r : V → List V → Hp → VK → Prop) (to : TE) (t : TA) : TE := fun σ H Q => to σ H fun x H1 => tyV K T x H1 ∧ t σ H1 fun xs H2 => r x xs H2 Q
variable {o e : Expr} {es : List Expr} {to : TE} {t : TA} {name : Str} {apos cpos : Pos} {T id : String} {r : V → List V → Hp → VK → Prop}
theorem pe_bm0 (pa : PlainAttrs T) (slot : Slot T name id) (hty : typeOf (.builtin id) = pure (.type "method_descriptor")) (hm : MtR X id r) (ho : PE X o to)
    (hbase : attributeBase o name X.env (eval o X.env) = eval o X.env := by rfl) (hline : (apos.endLine == cpos.line) = true := by rfl) : PE X (.Call (.Attribute o name apos) [] [] cpos) (tBM0 X.K T r to) := by
  intro pins s σ H Q I h
  refine wpAny_Call_method0_late hbase hline (thn (ho pins s σ H _ I h) fun v s1 ⟨x, H1, I1, r1, ty, q1⟩ => ?_)
  obtain ⟨h1, h2⟩ := tyV_is I1 r1 ty
  exact ⟨T, id, pa, slot, hty, h1, h2, Calls.callWith_builtin rfl (PySem.evalArgs_none (hm pins s1 σ H1 x [] v [] Q I1 r1 .nil q1))⟩
theorem pe_bm (pa : PlainAttrs T) (slot : Slot T name id) (hty : typeOf (.builtin id) = pure (.type "method_descriptor")) (hm : MtR X id r) (ho : PE X o to) (ha : PA X (e :: es) t)
    (hbase : attributeBase o name X.env (eval o X.env) = eval o X.env := by rfl)
    (hfew : ((backTo cpos (starEach (e :: es) X.env)).all (fun x => !x.1) && (backToKw cpos (keywordEach [] X.env)).all (fun x => x.1.isSome)
      && decide ((e :: es).length + ([] : List Keyword).length + (if ([] : List Keyword).isEmpty then 0 else 1) < 30)) = true := by rfl)
    (hline : (apos.endLine == cpos.line) = true := by rfl) (hs : starEach (e :: es) X.env = (false, eval e X.env) :: starEach es X.env := by rfl) (hplain : (backTo cpos (starEach es X.env)).any (·.1) = false := by rfl) :
    PE X (.Call (.Attribute o name apos) (e :: es) [] cpos) (tBM X.K T r to t) := by
  intro pins s σ H Q I h
  refine wpAny_Call_method_late hbase hfew hline rfl (thn (ho pins s σ H _ I h) fun v s1 ⟨x, H1, I1, r1, ty, q1⟩ => ?_)
  obtain ⟨h1, h2⟩ := tyV_is I1 r1 ty
  refine ⟨T, id, pa, slot, hty, h1, h2, ?_⟩
  have hA := ha cpos pins s1 σ H1 _ I1 q1
  rw [hs] at hA ⊢
  refine Calls.callWith_builtin (by show (false || (backTo cpos (starEach es X.env)).any (·.1)) = false; rw [hplain] <;> rfl) (Calls.evalArgs_plain ?_)
  exact thn hA fun us s2 ⟨vs, H2, I2, r2, q2⟩ => hm pins s2 σ H2 x vs v us Q I2 r1 r2 q2
/- xs.append(e), list.index on a module's tuple .. are MtR facts of 06m -/
end
end L2

namespace L2
open PySem PySem.Spec PyProof.Rows

def MtM (X : Cx) (id : String) (r : V → List V → Hp → VK → Prop) : Prop :=
  ∀ (pins : List (Addr × Obj)) (s : Shared) (σ : St) (H : Hp) (x : V) (xs : List V) (v : Value) (us : List Value) (Q : VK), Inv X pins σ H s → RelV x v → Vals xs us → r x xs H Q →
    wpAny (model X.prog X.w) X.A (call (.builtin id) (v :: us)) (EP X pins σ Q) X.xe s

/-! ### lists of values -/
theorem Vals.one : ∀ {x : V} {us : List Value}, Vals [x] us → ∃ u, us = [u] ∧ RelV x u
  | _, _, .cons r .nil => ⟨_, rfl, r⟩
theorem Vals.two : ∀ {x y : V} {us : List Value}, Vals [x, y] us → ∃ u v, us = [u, v] ∧ RelV x u ∧ RelV y v
  | _, _, _, .cons r (.cons q .nil) => ⟨_, _, rfl, r, q⟩
theorem Vals.zero : ∀ {us : List Value}, Vals [] us → us = []
  | _, .nil => rfl
theorem Vals.dropLast {xs : List V} {us : List Value} (h : Vals xs us) : Vals xs.dropLast us.dropLast := by
  induction h with
  | nil => exact .nil
  | cons r t ih =>
    cases t with
    | nil => exact .nil
    | cons q t' => exact .cons r ih
theorem Vals.eraseIdx : ∀ {xs : List V} {us : List Value} (i : Nat), Vals xs us → Vals (xs.eraseIdx i) (us.eraseIdx i)
  | _, _, _, .nil => .nil
  | _, _, 0, .cons _ t => t
  | _, _, i + 1, .cons r t => .cons r (Vals.eraseIdx i t)
theorem Vals.reverse {xs : List V} {us : List Value} (h : Vals xs us) : Vals xs.reverse us.reverse := by
  induction h with
  | nil => exact .nil
  | cons r t ih => rw [List.reverse_cons, List.reverse_cons]; exact Vals.append ih (.cons r .nil)
theorem Vals.rep {xs : List V} {us : List Value} (h : Vals xs us) : ∀ k : Nat, Vals (List.replicate k xs).flatten (List.replicate k us).flatten
  | 0 => .nil
  | k + 1 => by
    rw [List.replicate_succ, List.replicate_succ, List.flatten_cons, List.flatten_cons]
    exact Vals.append h (Vals.rep h k)
theorem erase_last {α : Type} (l : List α) : l.eraseIdx (l.length - 1) = l.dropLast := by
  induction l with
  | nil => rfl
  | cons a r ih =>
    cases r with
    | nil => rfl
    | cons b r =>
      have e : (a :: b :: r).length - 1 = ((b :: r).length - 1) + 1 := by
        have h1 : (a :: b :: r).length = r.length + 2 := rfl
        have h2 : (b :: r).length = r.length + 1 := rfl
        omega
      rw [e, List.eraseIdx_cons_succ, ih]
      all_goals rfl
theorem len_erase {α : Type} : ∀ (l : List α) (i : Nat), (l.eraseIdx i).length ≤ l.length
  | [], _ => Nat.le_refl _
  | _ :: _, 0 => Nat.le_succ _
  | _ :: r, i + 1 => Nat.succ_le_succ (len_erase r i)
theorem foldl_rep (its : List Value) : ∀ (k : Nat) (acc : List Value),
    List.foldl (fun x1 x2 => x1 ++ x2) acc.toArray (List.replicate k its.toArray) = (acc ++ (List.replicate k its).flatten).toArray
  | 0, acc => by simp
  | k + 1, acc => by
    have e : acc.toArray ++ its.toArray = (acc ++ its).toArray := by simp
    have e2 : (acc ++ its) ++ (List.replicate k its).flatten = acc ++ (List.replicate (k + 1) its).flatten := by
      rw [List.replicate_succ, List.flatten_cons, List.append_assoc]
    rw [← e2, ← foldl_rep its k (acc ++ its), ← e, List.replicate_succ, List.foldl_cons]

section
variable {X : Cx} {pins : List (Addr × Obj)} {σ : St} {H : Hp} {s : Shared} {l b : Addr} {xs ys zs : List V}

/-! ### the two steps: a tracked list is rewritten, a new list is laid -/
theorem Inv.lset {its its' : List Value} {n : Nat} {f : Array Value → Array Value} {t' : Nat} (I : Inv X pins σ H s) (hH : H l = some (.lst xs))
    (e : s.heap.get? l = some { cls := .type "list", data := .seq its.toArray n }) (hf : f its.toArray = its'.toArray) (hv : Vals ys its') (hz : ys.length ≤ sizeLine) :
    Inv X pins σ (upd H l (.lst ys)) { s with heap := s.heap.update l (Obj.mapSeq f), toks := t' } := by
  have q := PySem.IsL.update e f
  rw [hf] at q
  refine I.write (x := l) (e := l) (by rw [hH]; exact trivial) (.inl rfl) (fun b' u hb hu => (Heap.get?_update_other s.heap (Obj.mapSeq f) (Ne.symm hb)).trans hu) ⟨_, q⟩ ?_
  exact ⟨hz, its', _, hv, q⟩
theorem Inv.lnew {its : List Value} {t' : Nat} (I : Inv X pins σ H s) (hv : Vals ys its) (hz : ys.length ≤ sizeLine) :
    Inv X pins σ (upd H s.heap.objs.size (.lst ys)) { s with heap := s.heap.push { cls := .type "list", data := .seq its.toArray }, toks := t' } :=
  I.laid (fun _ _ q => Heap.get?_push_of_some _ q) (Nat.le_refl _) ⟨hz, its, 0, hv, Heap.get?_push_size _ rfl⟩
theorem Inv.fresh (I : Inv X pins σ H s) : H s.heap.objs.size = none := I.hok.fresh (Nat.le_refl _)
theorem Inv.lstM (I : Inv X pins σ H s) (hH : H l = some (.lst xs)) : xs.length ≤ sizeLine ∧ ∃ (its : List Value) (n : Nat), Vals xs its ∧ xs.length = its.length ∧ s.heap.get? l = some { cls := .type "list", data := .seq its.toArray n } := by
  obtain ⟨z, its, n, r, e⟩ := I.hok l _ hH
  exact ⟨z, its, n, r, r.length, e⟩

theorem notLongL {n : Nat} (h : n ≤ sizeLine) : Builtin.List.listTooLong n = false := by
  unfold Builtin.List.listTooLong
  exact decide_eq_false (by omega)
end

section
variable {X : Cx}

/-! ### methods -/
def rAppend : V → List V → Hp → VK → Prop := fun x vs H Q => ∃ l xs y, x = .ref l ∧ vs = [y] ∧ H l = some (.lst xs) ∧ xs.length < sizeLine ∧ Q .non (upd H l (.lst (xs ++ [y])))
theorem mt_append : MtM X "list.append" rAppend := by
  intro pins s σ H x vs v us Q I rx rv h
  obtain ⟨l, xs, y, rfl, rfl, hH, hz, q⟩ := h
  cases rx
  obtain ⟨u, rfl, ru⟩ := rv.one
  obtain ⟨z, its, n, r, hl, e⟩ := I.lstM hH
  refine call_meets F.slot_list_append ⟨_, e, rfl⟩ F.entry_list_append (F.args_list_append_2 _ _) (PySem.list_append l its.toArray n u (by rw [List.size_toArray]; omega)) ⟨e, ?_⟩
  refine ⟨.non, _, I.lset (its' := its ++ [u]) hH e (by simp) (r.append (.cons ru .nil)) ?_, rfl, q⟩
  rw [List.length_append, List.length_singleton]
  omega

def rExtend : V → List V → Hp → VK → Prop := fun x vs H Q => ∃ l b xs zs, x = .ref l ∧ vs = [.ref b] ∧ H l = some (.lst xs) ∧ H b = some (.lst zs) ∧ xs.length + zs.length ≤ sizeLine ∧ Q .non (upd H l (.lst (xs ++ zs)))
theorem mt_extend : MtM X "list.extend" rExtend := by
  intro pins s σ H x vs v us Q I rx rv h
  obtain ⟨l, b, xs, zs, rfl, rfl, hH, hB, hz, q⟩ := h
  cases rx
  obtain ⟨u, rfl, ru⟩ := rv.one
  cases ru
  obtain ⟨z, its, n, r, hl, e⟩ := I.lstM hH
  obtain ⟨z2, its2, n2, r2, hl2, e2⟩ := I.lstM hB
  have hsz : its.toArray.size + its2.toArray.size ≤ sizeLine := by rw [List.size_toArray, List.size_toArray]; omega
  have hlong : ¬ (!its.toArray.isEmpty && Builtin.List.listTooLong (its.toArray.size + its2.toArray.size)) = true := by
    rw [notLongL hsz, Bool.and_false]
    exact Bool.false_ne_true
  refine call_meets F.slot_list_extend ⟨_, e, rfl⟩ F.entry_list_extend (F.args_list_extend_2 _ _)
    (AutoSeq1.list_extend_list_list_0 l its.toArray n b its2.toArray n2 hlong (by rw [List.size_toArray]; omega) (by omega)) ⟨e, e2, ?_⟩
  refine ⟨.non, _, I.lset (its' := its ++ its2) hH e (by simp) (r.append r2) ?_, rfl, q⟩
  rw [List.length_append]
  omega

def rPop : V → List V → Hp → VK → Prop := fun x vs H Q => ∃ l xs y, x = .ref l ∧ vs = [] ∧ H l = some (.lst xs) ∧ xs[xs.length - 1]? = some y ∧ Q y (upd H l (.lst xs.dropLast))
theorem mt_pop : MtM X "list.pop" rPop := by
  intro pins s σ H x vs v us Q I rx rv h
  obtain ⟨l, xs, y, rfl, rfl, hH, hy, q⟩ := h
  cases rx
  have hus := rv.zero
  subst hus
  obtain ⟨z, its, n, r, hl, e⟩ := I.lstM hH
  obtain ⟨u, hu, ru⟩ := r.get hy
  have hy' : its.toArray[its.toArray.size - 1]? = some u := by
    show its.toArray[its.length - 1]? = some u
    rw [← Array.getElem?_toList, ← hl]
    exact hu
  refine call_meets F.slot_list_pop ⟨_, e, rfl⟩ F.entry_list_pop (F.args_list_pop_1 _) (MeetsSeq.list_pop_last l its.toArray n u hy' (by rw [List.size_toArray]; omega)) ⟨e, ?_⟩
  refine ⟨y, _, I.lset (its' := its.dropLast) hH e ?_ r.dropLast ?_, ru, q⟩
  · show its.toArray.eraseIdxIfInBounds (its.toArray.size - 1) = its.dropLast.toArray
    rw [List.size_toArray, List.eraseIdxIfInBounds_toArray, erase_last]
  · rw [List.length_dropLast]
    omega

def rPopAt : V → List V → Hp → VK → Prop := fun x vs H Q => ∃ l xs i k y, x = .ref l ∧ vs = [.int i] ∧ H l = some (.lst xs) ∧ -(2 ^ 63) ≤ i ∧ i < 2 ^ 63 ∧ seqIndex? i xs.length = some k ∧ xs[k]? = some y ∧ Q y (upd H l (.lst (xs.eraseIdx k)))
theorem mt_popAt : MtM X "list.pop" rPopAt := by
  intro pins s σ H x vs v us Q I rx rv h
  obtain ⟨l, xs, i, k, y, rfl, rfl, hH, h1, h2, hk, hy, q⟩ := h
  cases rx
  obtain ⟨u, rfl, ru⟩ := rv.one
  obtain ⟨t, rfl⟩ := ru
  obtain ⟨z, its, n, r, hl, e⟩ := I.lstM hH
  obtain ⟨w, hw, rw'⟩ := r.get hy
  refine call_meets F.slot_list_pop ⟨_, e, rfl⟩ F.entry_list_pop (F.args_list_pop_2 _ _)
    (MeetsSeq.list_pop_at l its.toArray n i t k w (fitsIndex_both h1 h2) (by rw [List.size_toArray, ← hl]; exact hk) (by rw [← Array.getElem?_toList]; exact hw) (by rw [List.size_toArray]; omega)) ⟨e, ?_⟩
  refine ⟨y, _, I.lset (its' := its.eraseIdx k) hH e ?_ (r.eraseIdx k) ?_, rw', q⟩
  · show its.toArray.eraseIdxIfInBounds k = (its.eraseIdx k).toArray
    rw [List.eraseIdxIfInBounds_toArray]
  · have := len_erase xs k
    omega

def rReverse : V → List V → Hp → VK → Prop := fun x vs H Q => ∃ l xs, x = .ref l ∧ vs = [] ∧ H l = some (.lst xs) ∧ Q .non (upd H l (.lst xs.reverse))
theorem mt_reverse : MtM X "list.reverse" rReverse := by
  intro pins s σ H x vs v us Q I rx rv h
  obtain ⟨l, xs, rfl, rfl, hH, q⟩ := h
  cases rx
  have hus := rv.zero
  subst hus
  obtain ⟨z, its, n, r, hl, e⟩ := I.lstM hH
  refine call_meets F.slot_list_reverse ⟨_, e, rfl⟩ F.entry_list_reverse (F.args_list_reverse_1 _) (AutoSeq1.list_reverse_list_0 l its.toArray n (by rw [List.size_toArray]; omega)) ⟨e, ?_⟩
  refine ⟨.non, _, I.lset (its' := its.reverse) hH e (by simp) r.reverse ?_, rfl, q⟩
  rw [List.length_reverse]
  omega

def rClear : V → List V → Hp → VK → Prop := fun x vs H Q => ∃ l xs, x = .ref l ∧ vs = [] ∧ H l = some (.lst xs) ∧ Q .non (upd H l (.lst []))
theorem mt_clear : MtM X "list.clear" rClear := by
  intro pins s σ H x vs v us Q I rx rv h
  obtain ⟨l, xs, rfl, rfl, hH, q⟩ := h
  cases rx
  have hus := rv.zero
  subst hus
  obtain ⟨z, its, n, r, hl, e⟩ := I.lstM hH
  refine call_meets F.slot_list_clear ⟨_, e, rfl⟩ F.entry_list_clear (F.args_list_clear_1 _) (AutoSeq1.list_clear_list_0 l its.toArray n (by rw [List.size_toArray]; omega)) ⟨e, ?_⟩
  exact ⟨.non, _, I.lset (its' := []) (ys := []) hH e rfl .nil (Nat.zero_le _), rfl, q⟩

/-! ### list + list, list += list, list * int -/
def rCat : R2 := fun x y H Q => ∃ l b xs zs, x = .ref l ∧ y = .ref b ∧ H l = some (.lst xs) ∧ H b = some (.lst zs) ∧ xs.length + zs.length ≤ sizeLine ∧ ∀ p, H p = none → Q (.ref p) (upd H p (.lst (xs ++ zs)))
theorem op_cat : OpR X (binaryOp .Add) rCat := by
  intro pins s σ H x y v u Q I rx ry h
  obtain ⟨l, b, xs, zs, rfl, rfl, hH, hB, hz, q⟩ := h
  cases rx
  cases ry
  obtain ⟨z, its, n, r, hl, e⟩ := I.lstM hH
  obtain ⟨z2, its2, n2, r2, hl2, e2⟩ := I.lstM hB
  refine PySem.P.add_list e e2 ?_ (by rw [List.size_toArray, List.size_toArray]; omega)
  have ea : its.toArray ++ its2.toArray = (its ++ its2).toArray := by simp
  rw [ea]
  exact ⟨.ref _, _, I.lnew (t' := s.toks) (r.append r2) (by rw [List.length_append]; omega), rfl, q _ I.fresh⟩
/-- a list times an int (a negative one is nothing) -/
def rRep : R2 := fun x y H Q => ∃ l k xs, x = .ref l ∧ y = .int k ∧ H l = some (.lst xs) ∧ -(2 ^ 63) ≤ k ∧ k < 2 ^ 63 ∧ xs.length * k.toNat ≤ sizeLine ∧
  ∀ p, H p = none → Q (.ref p) (upd H p (.lst (List.replicate k.toNat xs).flatten))
theorem len_rep {α : Type} (xs : List α) (k : Nat) : (List.replicate k xs).flatten.length = k * xs.length := by
  induction k with
  | zero => simp
  | succ k ih => rw [List.replicate_succ, List.flatten_cons, List.length_append, ih, Nat.succ_mul, Nat.add_comm]
theorem op_rep : OpR X (binaryOp .Mult) rRep := by
  intro pins s σ H x y v u Q I rx ry h
  obtain ⟨l, k, xs, rfl, rfl, hH, h1, h2, hz, q⟩ := h
  cases rx
  obtain ⟨t, rfl⟩ := ry
  obtain ⟨z, its, n, r, hl, e⟩ := I.lstM hH
  have hlen : its.toArray.size * k.toNat ≤ sizeLine := by rw [List.size_toArray, ← hl]; exact hz
  have hcap : ¬ its.toArray.size * k.toNat > (2 ^ 63 - 1) / 8 := by
    have : (sizeLine : Nat) ≤ (2 ^ 63 - 1) / 8 := by decide
    omega
  have hfit : ¬ (!Builtin.List.listFitsIndex k) = true := by
    rw [fitsIndex_both h1 h2]
    exact Bool.false_ne_true
  have hlong : ¬ Builtin.List.listTooLong (its.toArray.size * k.toNat) = true := by
    rw [notLongL hlen]
    exact Bool.false_ne_true
  have hnew : List.foldl (fun x1 x2 => x1 ++ x2) #[] (List.replicate (if its.toArray.isEmpty = true then 0 else k.toNat) its.toArray) = (List.replicate k.toNat its).flatten.toArray := by
    have f0 : ∀ m : Nat, List.foldl (fun x1 x2 => x1 ++ x2) #[] (List.replicate m its.toArray) = (List.replicate m its).flatten.toArray := fun m => by
      have := foldl_rep its m []
      rw [List.nil_append] at this
      exact this
    rw [f0]
    cases its with
    | nil => simp
    | cons a r' => rw [if_neg (by simp)]
  refine wpAny_binaryOp_repeat_ref (T := "list") (U := "int") (by decide) ⟨_, e, rfl⟩ (fun s' => typeIs_int s' k t) noFill_list_mul F.fills_int_mul F.slot_int_rmul repeat_list F.slot_int_index.lookup
    (call_meets F.slot_int_rmul (typeIs_int s k t) F.entry_int_rmul (F.args_int_rmul_2 _ _) (int___rmul___int_list k t l its.toArray n)
      ⟨e, rfl, ⟨_, e, rfl⟩, call_meets F.slot_list_mul ⟨_, e, rfl⟩ F.entry_list_mul (F.args_list_mul_2 _ _) (AutoListH.list___mul___list_int_3 l its.toArray n k t hfit hcap hlong) ⟨e, ?_⟩⟩)
  rw [hnew]
  exact ⟨.ref _, _, I.lnew (t' := s.toks) (r.rep k.toNat) (by rw [len_rep, Nat.mul_comm]; exact hz), rfl, q _ I.fresh⟩

/-! ### del xs[i] -/
theorem del_list {pins : List (Addr × Obj)} {s : Shared} {σ : St} {H : Hp} {l : Addr} {xs : List V} {i : Int} {t : Tok} {k : Nat} {Q : Unit → Shared → Prop} (I : Inv X pins σ H s) (hH : H l = some (.lst xs))
    (h1 : -(2 ^ 63) ≤ i) (h2 : i < 2 ^ 63) (hk : seqIndex? i xs.length = some k) (h : ∀ s', Inv X pins σ (upd H l (.lst (xs.eraseIdx k))) s' → Q () s') :
    wpAny (model X.prog X.w) X.A (delItem (.ref l) (.int i t)) Q X.xe s := by
  obtain ⟨z, its, n, r, hl, e⟩ := I.lstM hH
  refine PySem.P.delItem_list (k := k) e (fitsIndex_both h1 h2) (by rw [List.size_toArray, ← hl]; exact hk) (h _ ?_) (by rw [List.size_toArray]; omega)
  refine I.lset (its' := its.eraseIdx k) (t' := s.toks) hH e ?_ (r.eraseIdx k) ?_
  · show its.toArray.eraseIdxIfInBounds k = (its.eraseIdx k).toArray
    rw [List.eraseIdxIfInBounds_toArray]
  · have := len_erase xs k
    omega
end

/-! ### xs[a:b] = ys -/
section
variable {prog : Program} {w : World} {A : Around} {E : Value → Shared → Prop} {s : Shared}
theorem splice_eq (its its2 : List Value) (a c : Nat) : its.toArray.extract 0 a ++ its2.toArray ++ its.toArray.extract c its.toArray.size = (its.take a ++ its2 ++ its.drop c).toArray := by
  apply Array.toList_inj.mp
  first
    | (simp
       exact List.take_of_length_le (by simp))
    | simp [List.take_of_length_le]
    | simp
theorem bounds_run {a c n : Nat} (hac : a ≤ c) (hc : c ≤ n) : sliceBounds (some (a : Int)) (some (c : Int)) none n = ((a : Int), (c : Int), 1) := by
  simp only [sliceBounds, Option.getD_none]
  have h1 : ¬ ((a : Int) < 0) := by omega
  have h2 : ¬ ((c : Int) < 0) := by omega
  simp only [h1, h2, if_false, show (1 : Int) > 0 by decide, if_true]
  congr 1
  · omega
  · congr 1; omega
set_option maxRecDepth 100000 in
/-- list.__setitem__ with a slice of step one and another list -/
theorem setItem_slice {l b sl : Addr} {items new : Array Value} {n n2 : Nat} {vl vu : Value} {a c : Nat} {Q : Unit → Shared → Prop}
    (e : s.heap.get? l = some { cls := .type "list", data := .seq items n }) (e2 : s.heap.get? b = some { cls := .type "list", data := .seq new n2 }) (hne : l ≠ b)
    (hs : s.heap.IsSliceOf sl vl vu .none) (pl : IsPart vl (some (a : Int))) (pu : IsPart vu (some (c : Int))) (hac : a ≤ c) (hc : c ≤ items.size)
    (hsz : items.size + new.size ≤ sizeLine) (h : Q () { s with heap := s.heap.update l (Obj.mapSeq fun xs => xs.extract 0 a ++ new ++ xs.extract c xs.size) }) :
    wpAny (model prog w) A (setItem (.ref l) (.ref sl) (.ref b)) Q E s := by
  have hl : s.heap.IsList l items := PySem.IsL.isList e
  have hb : s.heap.IsList b new := PySem.IsL.isList e2
  obtain ⟨os, hos, hcs, hds⟩ := id hs
  have hTs : s.TypeIs (.ref sl) "slice" := ⟨os, hos, hcs⟩
  have hstep : ¬ ((rawPart none == rawInt 0) = true) := Bool.false_ne_true
  have hsame : Builtin.List.listSameRef (.ref l) (.ref b) = false := by
    unfold Builtin.List.listSameRef
    exact beq_eq_false_iff_ne.mpr hne
  have hmax : (max (a : Int) (c : Int)).toNat = c := by omega
  have hz' : ((fun xs : Array Value => xs.extract 0 a ++ new ++ xs.extract c xs.size) items).size ≤ sizeLine + 1 := by
    simp only [Array.size_append, Array.size_extract]
    omega
  unfold setItem
  try with_reducible refine wpAny_holding ?_
  first | refine wpAny_bind (wpAny_pure ?_) | skip
  refine wpAny_bind (wpAny_sequenceKey hl.typeIs (by decide) ?_)
  refine wpAny_bind (wpAny_callSpecial?_slot (name := Str.ofString "__setitem__") hl.typeIs slot_list_setitem
    (wpAny_call_entry slot_list_setitem hl.typeIs entry_list_setitem ?_ (args_list_setitem _ _ _)))
  show wpAny _ _ (Builtin.List.listSubscript? (.ref sl) >>= _) _ _ s
  refine wpAny_bind ?_
  unfold Builtin.List.listSubscript?
  refine wpAny_bind (wpAny_specialOf hTs slice_no_index ?_)
  simp only [Option.isNone_none, if_true]
  refine wpAny_pure ?_
  show wpAny _ _ (typeOf (.ref sl) >>= _) _ _ s
  refine wpAny_bind (wpAny_typeOf hTs ?_)
  first
    | rw [if_neg (by decide)]
    | refine PySem.W.KFB.if_not (by decide) ?_
  rw [listSliceParts_eq]
  refine wpAny_bind (wpAny_bind (wpAny_field hos hds (x := .none) rfl (wpAny_bind (wpAny_listPart .none ?_))))
  rw [if_neg hstep]
  refine wpAny_bind (wpAny_field hos hds (x := vl) rfl (wpAny_bind (wpAny_listPart pl ?_)))
  refine wpAny_bind (wpAny_field hos hds (x := vu) rfl (wpAny_bind (wpAny_listPart pu (wpAny_pure ?_))))
  first
    | simp only [hsame, Bool.false_eq_true, if_false]
    | refine PySem.W.KFB.if_not hsame ?_
    | (dsimp only
       rw [if_neg (by rw [hsame]; exact Bool.false_ne_true)])
  refine wpAny_bind (m := Builtin.List.listAllItems (.ref b) "must assign iterable to extended slice") ?_
  unfold Builtin.List.listAllItems
  refine wpAny_bind (wpAny_typeOf hb.typeIs ?_)
  first
    | refine PySem.W.KFB.if_so (by decide) ?_
    | rw [if_pos (by decide)]
    | simp only [beq_self_eq_true, Bool.true_or, if_true]
  unfold Builtin.List.listItems
  refine wpAny_bind (wpAny_seqItems e2 rfl (wpAny_pure ?_))
  refine wpAny_bind (wpAny_bind (wpAny_seqItems e rfl (wpAny_pure ?_)))
  refine wpAny_bind (wpAny_of_eq ((sliceIndices_raw (some (a : Int)) (some (c : Int)) none items.size (by simp)).trans (congrArg (pure : Int × Int × Int → Sem (Int × Int × Int)) (bounds_run hac hc))) ?_)
  show wpAny _ _ (if ((1 : Int) == 1) = true then _ else _) _ _ s
  rw [if_pos (by decide)]
  refine wpAny_bind (wpAny_rule ?_)
  first
    | simp only [notLongL hsz, Bool.false_eq_true, if_false]
    | refine PySem.W.KFB.if_not (notLongL hsz) ?_
  first | refine wpAny_bind (wpAny_pure ?_) | skip
  show wpAny _ _ (updateSeq l (fun xs => xs.extract 0 ((a : Int)).toNat ++ new ++ xs.extract (max (a : Int) (c : Int)).toNat xs.size) >>= _) _ _ s
  rw [hmax, Int.toNat_natCast]
  refine wpAny_bind (wpAny_updateSeq (hz := Nat.le_trans (Nat.le_add_right _ _) hsz) (_hz' := hz') e rfl ?_)
  refine wpAny_bind (wpAny_letGo ?_)
  first
    | exact wpAny_bind (wpAny_pure (wpAny_pure ⟨.none, rfl, wpAny_pure h⟩))
    | exact wpAny_pure ⟨.none, rfl, wpAny_pure h⟩
end

section
variable {X : Cx}
/-- xs[a:c] = ys of another list, at the value level: sl is the slice object that was just made -/
theorem set_slice {pins : List (Addr × Obj)} {s : Shared} {σ : St} {H : Hp} {l b sl : Addr} {xs ys : List V} {a c : Int} {vl vu : Value} {Q : Unit → Shared → Prop} (I : Inv X pins σ H s)
    (hH : H l = some (.lst xs)) (hB : H b = some (.lst ys)) (hne : l ≠ b) (hs : s.heap.IsSliceOf sl vl vu .none) (ra : RelV (.int a) vl) (rc : RelV (.int c) vu) (h0 : 0 ≤ a) (hac : a ≤ c) (hc : c ≤ xs.length)
    (hz : xs.length + ys.length ≤ sizeLine) (h : ∀ s', Inv X pins σ (upd H l (.lst (xs.take a.toNat ++ ys ++ xs.drop c.toNat))) s' → Q () s') :
    wpAny (model X.prog X.w) X.A (setItem (.ref l) (.ref sl) (.ref b)) Q X.xe s := by
  obtain ⟨ta, rfl⟩ := ra
  obtain ⟨tc, rfl⟩ := rc
  obtain ⟨z, its, n, r, hl, e⟩ := I.lstM hH
  obtain ⟨z2, its2, n2, r2, hl2, e2⟩ := I.lstM hB
  obtain ⟨a', rfl⟩ := Int.eq_ofNat_of_zero_le h0
  obtain ⟨c', rfl⟩ := Int.eq_ofNat_of_zero_le (Int.le_trans h0 hac)
  simp only [Int.toNat_natCast] at h
  refine setItem_slice (a := a') (c := c') e e2 hne hs (.int _ _) (.int _ _) (by omega) (by rw [List.size_toArray]; omega) (by rw [List.size_toArray, List.size_toArray]; omega) (h _ ?_)
  refine I.lset (its' := its.take a' ++ its2 ++ its.drop c') (t' := s.toks) hH e ?_ (Vals.append (Vals.append (r.take _) r2) (r.drop _)) ?_
  · exact splice_eq its its2 a' c'
  · rw [List.length_append, List.length_append, List.length_take, List.length_drop]
    omega
end
end L2

namespace Att
open PySem PySem.W PySem.Calls PyProof.Rows

/-! ### the script -/
theorem ints_of_wellAll {P : Params} {h : Heap} : ∀ (ns : List Int) (vs : List Value), WellAll P h vs (ns.map WData.int) → IntsAre vs ns := by
  intro ns
  induction ns with
  | nil =>
    intro vs w
    rw [List.map_nil] at w
    cases w
    exact .nil
  | cons n ns ih =>
    intro vs w
    rw [List.map_cons] at w
    cases w with
    | cons a b =>
      cases a
      exact .cons _ _ (ih _ b)

theorem script_of {l : OpenLaw} {n : Nat} (hn : l.most = some n) {P : Params} {h : Heap} {args : List WData} {vals : List Value}
    (hpre : l.row.toRowW.claim.pre args = true) (hwl : WellAll P h vals args) :
    ∃ a vs ns, vals = [Value.ref a] ∧ args = [WData.list (ns.map WData.int)] ∧ h.get? a = some { cls := .type "list", data := .seq vs.toArray } ∧ IntsAre vs ns ∧ ns.length ≤ n := by
  have hsh : WShape.hasAll [] args [.list .int] = true := (pre_splitW hpre).1
  have hc : l.pre.holds [] { args := args } = true := (pre_splitW hpre).2
  obtain ⟨d, r, rfl, h1, h2⟩ := hasAllW_cons hsh
  obtain rfl := hasAllW_nil h2
  obtain ⟨xs, rfl, h3⟩ := hasW_list h1
  obtain ⟨ns, rfl⟩ := items_int h3
  have hlen : ns.length ≤ n := by
    unfold OpenLaw.pre at hc
    have h4 : (WTm.not (.lt (.lit (.int (n : Int))) (.len (.arg 0)))).holds [] { args := [.list (ns.map .int)] } = true := by
      have h4 := (holds_andW hc).1
      rw [hn] at h4
      exact h4
    have h5 := condW_of h4 (w_not (w_lt w_lit (w_len_list (w_arg rfl))))
    rw [List.length_map] at h5
    refine Nat.le_of_not_lt fun q => ?_
    have q' : (n : Int) < ((ns.length : Nat) : Int) := by omega
    first
      | (rw [decide_eq_true q'] at h5; exact absurd h5 (by decide))
      | (simp at h5; omega)
  cases hwl with
  | cons w1 w2 =>
    cases w2
    cases w1 with
    | list ho hall => exact ⟨_, _, ns, rfl, rfl, ho, ints_of_wellAll ns _ hall, hlen⟩

theorem post_true (l : OpenLaw) (args : List WData) : l.row.toRowW.claim.post args (.bool true) args = true :=
  postW_of (r := l.row.toRowW) (X := (true == true))
    (show WShape.has [] (.bool true) .bool = true by first | rfl | decide | simp [WShape.has, WShape.arms, WShape.armsAll])
    (show (WTm.eq .res (.lit (.bool true))).value [] { args := args, res := some (.bool true), after := args } = some (.bool (true == true)) from w_eq_bool (w_res rfl) w_lit) rfl

/-! ### the attachment: holds_open's last premise (the goal 'hc' behind k_head) from a wpAny of the law's body -/
theorem attach {l : OpenLaw} {n : Nat} {q : Program} {loose : List Str} {XP : (Str → Option Value) → Heap → Prop} {YP : World → Heap → Prop} {d : DefRec} {x : Str}
    (hn : l.most = some n) (hdf : d.params.defaults = [])
    (hbind : ∀ pm cd doc v : Value, bindArgs (docDef d.name d.params d.body d.scope pm cd doc) ⟨[v], []⟩ = pure [(x, v)])
    (hx : d.scope.names.lookup x = some .local ∨ d.scope.names.lookup x = some .cell)
    (hk : d.scope.kind = .function) (hco : d.scope.isCoroutine = false) (hgen : d.scope.isGenerator = false)
    (body : ∀ (w : World) (s₀ s₁ s : Shared) (mg mb : Str → Option Value) (fa : Addr) (o : Obj) (pm cd doc : Value) (a : Addr) (vs : List Value) (ns : List Int),
      Ground q loose [] XP w s₀ mg mb s₁.heap → YP w s₁.heap →
      s₁.heap.get? fa = some o → o.data = .func (docDef d.name d.params d.body d.scope pm cd doc) → s₁.heap.CodeRec cd d.name → mg d.name = some (.ref fa) →
      s₁.heap.get? a = some { cls := .type "list", data := .seq vs.toArray } → IntsAre vs ns → ns.length ≤ n →
      s.gens = #[] → s.os = s₁.os →
      Fr s₁.heap s₁.heap.objs.size s.heap (bindL (envOfC d.name d.scope s₁.heap.objs.size fa cd).kindOf [(x, .ref a)] fun _ => none) →
      Cl s₁.heap.objs.size (cellsFrom (s₁.heap.objs.size + 1) d.scope.names []) s.heap (bindC (envOfC d.name d.scope s₁.heap.objs.size fa cd).kindOf [(x, .ref a)] fun _ => none) →
      wpAny (model l.prog w) (callerA.deeper (envOfC d.name d.scope s₁.heap.objs.size fa cd)) (execs d.body (envOfC d.name d.scope s₁.heap.objs.size fa cd))
        (fun f s' => f = .ret (.bool true) ∧ OldK s₁.heap s'.heap ∧ s'.os = s₁.os ∧ AllBare s'.gens) (fun _ _ => False) s) :
    WalkO q loose XP YP l.row.toRowW d [] (fun f vs => PySem.call f vs) := by
  intro w s₀ s₁ mg mb G Y fa o pm cd doc dV kV ho hd hcd hD hmg hg args vals as hpre hlay hrd hwl hlo
  obtain rfl : dV = .none := Dflts.none hD hdf
  obtain rfl : kV = .none := Dflts.noKw hD
  obtain ⟨a, vs, ns, rfl, rfl, hobj, hints, hlen⟩ := script_of hn hpre hwl
  refine enter_call ?_
  refine call_cells_ret (o := o) (by rw [depth_caller]; decide) ho (fd_plain hd) G.T.nolimit hcd (hbind pm cd doc (.ref a)) (fun y hy => ?_) (fun h₁ tk F X => ?_) hco hgen hk
  · obtain rfl : y = (x, Value.ref a) := List.mem_singleton.mp hy
    rcases hx with e | e
    · exact .inl e
    · exact .inr ⟨e, cellsFrom_some _ _ _ (.inl e)⟩
  · refine wpAny_mono (body w s₀ s₁ { s₁ with heap := h₁, toks := tk } mg mb fa o pm cd doc a vs ns G Y ho (fd_plain hd) hcd hmg hobj hints hlen hg rfl F X) (fun f s' hq => ?_) (fun _ _ hq => hq)
    obtain ⟨rfl, h2, h3, h4⟩ := hq
    exact ⟨.inl ⟨.bool true, .bool true, [], rfl, fun _ => rfl, .bool true, post_true l _, fun _ => ⟨List.Pairwise.nil, fun _ hm => (nomatch hm)⟩⟩, h2, h3, h4⟩

/-- the same from a codeAny of the CALL (for a layer whose function contracts speak of calls) -/
theorem attach_call {l : OpenLaw} {n : Nat} {q : Program} {loose : List Str} {XP : (Str → Option Value) → Heap → Prop} {YP : World → Heap → Prop} {d : DefRec}
    (hn : l.most = some n) (hdf : d.params.defaults = [])
    (call : ∀ (w : World) (s₀ s₁ : Shared) (mg mb : Str → Option Value) (fa : Addr) (o : Obj) (pm cd doc : Value) (a : Addr) (vs : List Value) (ns : List Int),
      Ground q loose [] XP w s₀ mg mb s₁.heap → YP w s₁.heap →
      s₁.heap.get? fa = some o → o.data = .func (docDef d.name d.params d.body d.scope pm cd doc) → s₁.heap.CodeRec cd d.name → mg d.name = some (.ref fa) →
      s₁.heap.get? a = some { cls := .type "list", data := .seq vs.toArray } → IntsAre vs ns → ns.length ≤ n → s₁.gens = #[] →
      codeAny (model l.prog w) callerA (.call (.ref fa) ⟨[.ref a], []⟩) (fun r s' => r = .ok (.ret (.bool true)) ∧ OldK s₁.heap s'.heap ∧ s'.os = s₁.os ∧ AllBare s'.gens) s₁) :
    WalkO q loose XP YP l.row.toRowW d [] (fun f vs => PySem.call f vs) := by
  intro w s₀ s₁ mg mb G Y fa o pm cd doc dV kV ho hd hcd hD hmg hg args vals as hpre hlay hrd hwl hlo
  obtain rfl : dV = .none := Dflts.none hD hdf
  obtain rfl : kV = .none := Dflts.noKw hD
  obtain ⟨a, vs, ns, rfl, rfl, hobj, hints, hlen⟩ := script_of hn hpre hwl
  refine enter_call (codeAny_mono (call w s₀ s₁ mg mb fa o pm cd doc a vs ns G Y ho (fd_plain hd) hcd hmg hobj hints hlen hg) fun r s' hq => ?_)
  obtain ⟨rfl, h2, h3, h4⟩ := hq
  exact ⟨.inl ⟨.bool true, .bool true, [], rfl, fun _ => rfl, .bool true, post_true l _, fun _ => ⟨List.Pairwise.nil, fun _ hm => (nomatch hm)⟩⟩, h2, h3, h4⟩

/-- the same where the top left finished generators (o_head chose holds_openN): nothing may have changed at all and no generator may be left -/
theorem attachN {l : OpenLaw} {n : Nat} {q : Program} {loose : List Str} {XP : (Str → Option Value) → Heap → Prop} {YP : World → Heap → Prop} {d : DefRec} {x : Str}
    (hn : l.most = some n) (hdf : d.params.defaults = [])
    (hbind : ∀ pm cd doc v : Value, bindArgs (docDef d.name d.params d.body d.scope pm cd doc) ⟨[v], []⟩ = pure [(x, v)])
    (hx : d.scope.names.lookup x = some .local ∨ d.scope.names.lookup x = some .cell)
    (hk : d.scope.kind = .function) (hco : d.scope.isCoroutine = false) (hgen : d.scope.isGenerator = false)
    (body : ∀ (w : World) (s₀ s₁ s : Shared) (mg mb : Str → Option Value) (fa : Addr) (o : Obj) (pm cd doc : Value) (a : Addr) (vs : List Value) (ns : List Int),
      Ground q loose [] XP w s₀ mg mb s₁.heap → YP w s₁.heap →
      s₁.heap.get? fa = some o → o.data = .func (docDef d.name d.params d.body d.scope pm cd doc) → s₁.heap.CodeRec cd d.name → mg d.name = some (.ref fa) →
      s₁.heap.get? a = some { cls := .type "list", data := .seq vs.toArray } → IntsAre vs ns → ns.length ≤ n →
      s.gens = #[] → s.os = s₁.os →
      Fr s₁.heap s₁.heap.objs.size s.heap (bindL (envOfC d.name d.scope s₁.heap.objs.size fa cd).kindOf [(x, .ref a)] fun _ => none) →
      Cl s₁.heap.objs.size (cellsFrom (s₁.heap.objs.size + 1) d.scope.names []) s.heap (bindC (envOfC d.name d.scope s₁.heap.objs.size fa cd).kindOf [(x, .ref a)] fun _ => none) →
      wpAny (model l.prog w) (callerA.deeper (envOfC d.name d.scope s₁.heap.objs.size fa cd)) (execs d.body (envOfC d.name d.scope s₁.heap.objs.size fa cd))
        (fun f s' => f = .ret (.bool true) ∧ (∀ b o, s₁.heap.get? b = some o → s'.heap.get? b = some o) ∧ s'.os = s₁.os ∧ s'.gens = #[]) (fun _ _ => False) s) :
    WalkN q loose XP YP l.row.toRowW d [] (fun f vs => PySem.call f vs) := by
  intro w s₀ s₁ mg mb G Y fa o pm cd doc dV kV ho hd hcd hD hmg hg args vals as hpre hlay hrd hwl hlo
  obtain rfl : dV = .none := Dflts.none hD hdf
  obtain rfl : kV = .none := Dflts.noKw hD
  obtain ⟨a, vs, ns, rfl, rfl, hobj, hints, hlen⟩ := script_of hn hpre hwl
  refine enter_callW ?_
  refine call_cells_ret (o := o) (by rw [depth_caller]; decide) ho (fd_plain hd) G.T.nolimit hcd (hbind pm cd doc (.ref a)) (fun y hy => ?_) (fun h₁ tk F X => ?_) hco hgen hk
  · obtain rfl : y = (x, Value.ref a) := List.mem_singleton.mp hy
    rcases hx with e | e
    · exact .inl e
    · exact .inr ⟨e, cellsFrom_some _ _ _ (.inl e)⟩
  · refine wpAny_mono (body w s₀ s₁ { s₁ with heap := h₁, toks := tk } mg mb fa o pm cd doc a vs ns G Y ho (fd_plain hd) hcd hmg hobj hints hlen hg rfl F X) (fun f s' hq => ?_) (fun _ _ hq => hq)
    obtain ⟨rfl, h2, h3, h4⟩ := hq
    exact ⟨.inl ⟨.bool true, .bool true, [], rfl, fun _ => rfl, .bool true, post_true l _, fun _ => ⟨List.Pairwise.nil, fun _ hm => (nomatch hm)⟩⟩, h2, h3, h4⟩

/-! ### rules over ANY heap (no ledger) from facts about the written part K: the library's own take a ledger (News) for what they write -/
section
variable {prog : Program} {w : World} {A : Around} {E : Value → Shared → Prop} {s : Shared} {K : Frag}

/-- a def of the module, or a method (qual 'C.m'), entered: the frame is the next address; cells behind it -/
theorem call_fn {R : Result → Shared → Prop} {name qual : Str} {params : Arguments} {body : List Stmt} {scope : Scope} {dV kV doc pm cdv ct oc : Value} {an od : Option Addr} {osl : Array (Option Value)} {f : Addr} {args : Args} {binds : List (Str × Value)}
    (X : K.In s.heap) (hlim : s.heap.NoLimit) (ho : K.lookup f = some ⟨oc, od, .func (fnOf name qual params body scope dV kV doc pm an cdv ct), osl⟩) (hcd : codeIn K cdv qual = true) (hroom : A.depth < recursionLimit)
    (hbind : BindsTo s (fnOf name qual params body scope dV kV doc pm an cdv ct) args binds)
    (hkind : (binds.all fun y => scope.names.lookup y.1 == some .local || scope.names.lookup y.1 == some .cell) = true)
    (h : ∀ s₁, InCallC s s.heap.objs.size (bindL (envOfC qual scope s.heap.objs.size f cdv).kindOf binds fun _ => none) (cellsFrom (s.heap.objs.size + 1) scope.names [])
        (bindC (envOfC qual scope s.heap.objs.size f cdv).kindOf binds fun _ => none) s₁ →
      wpAny (model prog w) (A.deeper (envOfC qual scope s.heap.objs.size f cdv)) (execs body (envOfC qual scope s.heap.objs.size f cdv))
        (fun fl s' => R (.ok (.ret (match fl with | .ret v => v | _ => .none))) s')
        (fun e s' => wpAny (model prog w) (A.deeper (envOfC qual scope s.heap.objs.size f cdv)) (leaving (envOfC qual scope s.heap.objs.size f cdv) e) (fun _ s'' => R (.error e) s'') (fun e' s'' => R (.error e') s'') s') s₁)
    (hco : scope.isCoroutine = false) (hgen : scope.isGenerator = false) (hk : scope.kind = .function) : codeAny (model prog w) A (.call (.ref f) args) R s := by
  refine codeAny_call_function hroom (X _ _ ho) rfl hco hgen rfl (codeRec_of X hcd) (hbind _ _ _ _ ?_)
  refine wpAny_newFunctionEnv_cells hk (kindsX hkind _) fun env he s₁ x => ?_
  subst he
  exact ⟨hlim.keeps x.toInCall.keep, codeAny_func (h s₁ x)⟩

/-- C(..): dict at size, instance at size + 1, then __init__ -/
theorem make_obj {R : Result → Shared → Prop} {C fI : Addr} {rest : List Value} {kw : List (Str × Value)}
    (X : K.In s.heap) (hm : makesIn K C = true) (hi : findIn K (.ref C) "__init__" = some (some (.ref fI))) (hf : isFn K (.ref fI) = true)
    (h : codeAny (model prog w) (A.under (.builtin "type.__call__" ⟨.ref C :: rest, kw⟩)) (.call (.ref fI) ⟨.ref (s.heap.objs.size + 1) :: rest, kw⟩) (InitBack (s.heap.objs.size + 1) R)
      { s with heap := (s.heap.push emptyDict).push (instObj C s.heap.objs.size) }) : codeAny (model prog w) A (.call (.ref C) ⟨rest, kw⟩) R s := by
  obtain ⟨hh, g, d, t, os⟩ := s
  exact make_core (makes_of X hm) (looks_findIn X hi) (fun self => bind_fn X self (beq_iff_eq.mp hf)) (.inl rfl) h

/-- x.name where the instance's dict holds the name and the class does not -/
theorem get_field {x C : Addr} {ox : Obj} {es : List DictEntry} {n : Nat} {name : Str} {expr : Bool} {v : Value} {Q : Value → Shared → Prop}
    (X : K.In s.heap) (I : PySem.W.InstAt s.heap x ox C (some (dictOf es n))) (hg : plainGet K C name = true) (hh : hasDictIn K C = true) (ha : findIn K (.ref C) name = some none)
    (hl : getL name es = some (some v)) (hv : handedIn v = true) (h : Q v { s with toks := s.toks + 1 }) : wpAny (model prog w) A (getAttr (.ref x) name expr) Q E s :=
  get_value X I (plainGet_of hg).1 (findObj_own hh ha rfl hl) hv h

/-- x.m(..): the method found in the class -/
theorem get_method {x C f : Addr} {ox : Obj} {es : List DictEntry} {n : Nat} {name : Str} {pl : Sem Bool} {Q : Value × List Value → Shared → Prop}
    (X : K.In s.heap) (I : PySem.W.InstAt s.heap x ox C (some (dictOf es n))) (hg : plainGet K C name = true) (hf : findIn K (.ref C) name = some (some (.ref f))) (ht : isFn K (.ref f) = true)
    (hl : getL name es = some none) (h : Q (.ref f, [.ref x]) s) : wpAny (model prog w) A (getMethod (.ref x) name pl) Q E s :=
  method_fn X I (plainGet_of hg).1 (plainGet_of hg).2 hf (beq_iff_eq.mp ht) (by show (lookIn name (dictOf es n)).map _ = _; rw [lookIn_dict, hl]; rfl) h

/-! the whole heap as the ledger: makes every rule that writes through a ledger a rule over any heap -/
def noObjs (h : Heap) : Heap := { h with objs := #[] }
theorem noObjs_get (h : Heap) (b : Addr) : (noObjs h).get? b = none := by
  cases e : (noObjs h).get? b with
  | none => rfl
  | some o => exact absurd (Heap.lt_size e) (Nat.not_lt_zero _)
def ledger (h : Heap) (L d : Addr) : List (Addr × Obj) := (List.range h.objs.size).filterMap fun a => if a = L ∨ a = d then none else (h.get? a).map fun o => (a, o)
theorem mem_ledger {h : Heap} {L d a : Addr} {o : Obj} : (a, o) ∈ ledger h L d ↔ a ≠ L ∧ a ≠ d ∧ h.get? a = some o := by
  unfold ledger
  rw [List.mem_filterMap]
  constructor
  · rintro ⟨b, _, e⟩
    split at e
    · cases e
    · rename_i hb
      obtain ⟨o', ho, e'⟩ := Option.map_eq_some_iff.mp e
      cases e'
      exact ⟨fun q => hb (.inl q), fun q => hb (.inr q), ho⟩
  · rintro ⟨n1, n2, ho⟩
    refine ⟨a, List.mem_range.mpr (Heap.lt_size ho), ?_⟩
    rw [if_neg (show ¬ (a = L ∨ a = d) from fun q => q.elim n1 n2), ho] <;> rfl
theorem news_ledger {h : Heap} {L d : Addr} {od : Obj} (hne : d ≠ L) (ho : h.get? d = some od) : News (noObjs h) L h ([] ++ (d, od) :: ledger h L d) := by
  rintro ⟨a, o⟩ hp
  rcases List.mem_cons.mp hp with e | hp
  · cases e
    exact ⟨ho, hne, noObjs_get _ _⟩
  · obtain ⟨n1, n2, e⟩ := mem_ledger.mp hp
    exact ⟨e, n1, noObjs_get _ _⟩
theorem fr_all {h : Heap} {L : Addr} {m : Str → Option Value} (n : h.Ns L m) : Fr (noObjs h) L h m :=
  ⟨n, fun b o e => (by rw [noObjs_get] at e; cases e), Nat.zero_le _⟩
/-- Upd of the head entry (for append_K, setItem_K ..) -/
theorem upd_ledger {h : Heap} {L d : Addr} {o o' : Obj} : Upd d o o' ((d, o) :: ledger h L d) ((d, o') :: ledger h L d) :=
  .head fun ⟨_, _⟩ hp => (mem_ledger.mp hp).2.1

/-- x.name = v over any heap: L is any namespace of the heap (the frame's, say): its map stays, its object is not told; all else but the dict stays -/
theorem set_field {x C dx L : Addr} {ox : Obj} {m : Str → Option Value} {es es' : List DictEntry} {n n' : Nat} {name : Str} {v : Value} {Q : Unit → Shared → Prop}
    (X : K.In s.heap) (I : PySem.W.InstAt s.heap x ox C (some (dictOf es n))) (hd : ox.dict = some dx) (hL : s.heap.Ns L m) (hne : dx ≠ L)
    (hs : findIn K (.ref C) "__setattr__" = some (some (.builtin "object.__setattr__"))) (hp : plainOver K C = true) (ht : takerIn K C name = some none) (hh : hasDictIn K C = true) (hl : (getL name es).isSome = true)
    (e : (putL name (PyData.keyHash w.params name) (.str name (s.toks + 1)) v es, putN name es n) = (es', n')) (hz : es'.length ≤ 1000)
    (h : ∀ h' : Heap, h'.Ns L m → h'.get? dx = some (dictOf es' n') → (∀ b o, b ≠ dx → b ≠ L → s.heap.get? b = some o → h'.get? b = some o) → Q () { s with heap := h', toks := s.toks + 2 }) :
    wpAny (model prog w) A (setAttr (.ref x) name v) Q E s := by
  obtain ⟨e1, e2⟩ := Prod.mk.inj e
  have hdx : s.heap.get? dx = some (dictOf es n) := by
    have := I.dict
    rw [hd] at this
    exact this
  refine set_plain X I hs (osa_dict (s := { s with toks := s.toks + 1 }) (h₀ := noObjs s.heap) (L := L) (m := m) (od := dictOf es n) (od' := dictOf es' n') (es := es') (n := n') (pre := []) (post := ledger s.heap L dx)
    (fr_all hL) (news_ledger hne hdx) X I hd hp ht hh hl (fun _ q => nomatch q) (fun ⟨_, _⟩ q => (mem_ledger.mp q).2.1) (by rw [putName_dict, e1, e2]) rfl hz fun h' F' N' => ?_)
  exact h h' F'.ns (N'.get (List.Mem.head _)) fun b o n1 n2 ho => N'.get (List.Mem.tail _ (mem_ledger.mpr ⟨n2, n1, ho⟩))
end
end Att

namespace L2
open PySem PySem.Spec PyProof.Rows

theorem vals_ints : ∀ {vs : List Value} {ns : List Int}, IntsAre vs ns → Vals (ns.map V.int) vs
  | _, _, .nil => .nil
  | _, _, .cons n t h => .cons ⟨t, rfl⟩ (vals_ints h)

/-- nothing is tracked but the script, known to the object (or it is an object of the module) -/
def Only (H : Hp) : Prop := ∀ b, H b = none ∨ ∃ o xs, H b = some (.frz o (.lst xs))

/-- THE HEAD: the law's promise, at the heap behind the top. F, the promise of the law's def, may use that base is part of the heap (so K.In base, base.Ns mainGlobals mg stand in Mod) -/
theorem law_call {P : Program} {w : World} {K : PySem.W.Frag} {mg mb : Str → Option Value} {CX : CXT} {k : Nat} {fa a : Addr} {fd : FuncData} {x : Str} {sp : Sp} {s₁ : Shared} {vs : List Value} {ns : List Int}
    (KX : K.In s₁.heap) (hns : s₁.heap.Ns mainGlobals mg) (hb : s₁.heap.Ns builtinsNs mb) (hbb : ∀ x : Str, x ≠ "__name__" → mb x = bootBuiltins x) (hlim : s₁.heap.NoLimit) (hg : s₁.gens = #[])
    (ha : s₁.heap.get? a = some { cls := .type "list", data := .seq vs.toArray }) (hi : IntsAre vs ns) (hl : ns.length ≤ sizeLine) (hr : Room k callerA)
    (F : ∀ base : Heap, K.In base → base.Ns mainGlobals mg → FnOk P w K mg base CX k fa fd [x] sp) (hbind : ∀ (s : Shared) (u : Value), BindsTo s fd ⟨[u], []⟩ [(x, u)])
    (hsp : ∀ H : Hp, Only H → SqL K H a (ns.map V.int) → sp [.ref a] H (fun v _ => v = .bl true) fun _ _ _ => False)
    (hCX : ∀ H e s', CX [] H s₁ (fun _ _ _ => False) e s' → False) :
    codeAny (model P w) callerA (.call (.ref fa) ⟨[.ref a], []⟩) (fun r s' => r = .ok (.ret (.bool true)) ∧ OldK s₁.heap s'.heap ∧ s'.os = s₁.os ∧ AllBare s'.gens) s₁ := by
  have rv := vals_ints hi
  have lenV := hi.length
  -- from an abstract heap in which nothing but the script may be tracked
  have core : ∀ H : Hp, Only H → SqL K H a (ns.map V.int) → HOk P w H s₁.heap → (∀ b, H b ≠ none → b = a) → (H a ≠ none → K.lookup a = none) →
      codeAny (model P w) callerA (.call (.ref fa) ⟨[.ref a], []⟩) (fun r s' => r = .ok (.ret (.bool true)) ∧ OldK s₁.heap s'.heap ∧ s'.os = s₁.os ∧ AllBare s'.gens) s₁ := by
    intro H hO hS hok hA hK
    have base_of : ∀ {b : Addr} {o : Obj}, s₁.heap.get? b = some o → H b = none → (hidT s₁.heap H).get? b = some o := fun e n => hidT_get e n
    have noA : ∀ {b : Addr} {o : Obj} {es : Array DictEntry} {ep : Nat}, s₁.heap.get? b = some o → o.data = .dict es ep → H b = none := fun {b o es ep} e d => by
      cases q : H b with
      | none => rfl
      | some u =>
        have e' : b = a := hA b (by rw [q]; simp)
        subst e'
        rw [ha] at e; cases e
        have d' : Data.seq vs.toArray _ = Data.dict es ep := d
        cases d'
    have nsK : ∀ {b : Addr} {m : Str → Option Value}, s₁.heap.Ns b m → (hidT s₁.heap H).Ns b m := fun {b m} ⟨o, es, ep, e, d, r⟩ => ⟨o, es, ep, base_of e (noA e d), d, r⟩
    have hKb : K.In (hidT s₁.heap H) := fun b o e => base_of (KX b o e) (by
      cases q : H b with
      | none => rfl
      | some u =>
        have e' : b = a := hA b (by rw [q]; simp)
        subst e'
        rw [hK (by rw [q]; simp)] at e; cases e)
    have hM : Mod K mg (hidT s₁.heap H) := ⟨hKb, nsK hns, ⟨mb, nsK hb, hbb⟩, let ⟨mc, h1, h2⟩ := hlim; ⟨mc, nsK h1, h2⟩⟩
    have e0 : Env0 P w K mg (hidT s₁.heap H) callerA [] s₁ H := ⟨rfl, hM, fun b o e => of_hidT e, Nat.le_of_eq (hidT_size _ _), trivial, fun b hb => absurd (show b ∈ ([] : List Addr) from hb) (by simp), hok, .of_eq hg⟩
    refine codeAny_mono ((F _ hKb (nsK hns)).run callerA [] s₁ H ⟨[.ref a], []⟩ [.ref a] [.ref a] _ _ hr e0 (hbind s₁ (.ref a)) (.cons rfl .nil) (hsp H hO hS)) fun r s' h => ?_
    cases r with
    | error e => exact (hCX H e s' h).elim
    | ok fl =>
      cases fl with
      | next => exact False.elim h
      | brk => exact False.elim h
      | cont => exact False.elim h
      | ret u =>
        obtain ⟨v, H', os, bare, un, hok', r', q⟩ := h
        have q' : v = .bl true := q
        subst q'
        obtain rfl : u = Value.bool true := r'
        refine ⟨rfl, OldK.of_keep fun b o e => ?_, os, bare⟩
        cases q : H b with
        | none => exact un.keep b o e q (by intro z; exact absurd (show b ∈ ([] : List Addr) from z) (by simp)) (by simp)
        | some u =>
          rcases hO b with z | ⟨ob, xs, z⟩
          · rw [q] at z; cases z
          · have z2 := un.frzs b ob _ z
            obtain ⟨e1, _⟩ := hok b _ z
            obtain ⟨e2, _⟩ := hok' b _ z2
            rw [e] at e1; cases e1
            exact e2
  cases hk : K.lookup a with
  | some o =>
    -- the script is one of the module's own objects
    have e := KX a o hk
    rw [ha] at e
    cases e
    refine core (fun _ => none) (fun _ => .inl rfl) (.inr ⟨_, vs.toArray, _, hk, rfl, rfl, rfl, by rw [List.size_toArray, lenV]; exact hl, by simpa using rv⟩) (fun b u z => by have z' : (none : Option HO) = some u := z; cases z') (fun b z => absurd rfl z) fun z => absurd rfl z
  | none =>
    refine core (fun b => if b = a then some (.frz { cls := .type "list", data := .seq vs.toArray } (.lst (ns.map V.int))) else none) (fun b => ?_) (.inl (.inr ⟨{ cls := .type "list", data := .seq vs.toArray }, if_pos rfl⟩)) (fun b u z => ?_) (fun b z => ?_) fun _ => hk
    · by_cases hb : b = a
      · exact .inr ⟨_, _, if_pos hb⟩
      · exact .inl (if_neg hb)
    · by_cases hb : b = a
      · have z' := (if_pos hb).symm.trans z
        cases z'
        subst hb
        exact ⟨ha, by rw [List.length_map]; exact hl, vs, _, rv, ha⟩
      · have z' := (if_neg hb).symm.trans z
        cases z'
    · by_cases hb : b = a
      · exact hb
      · exact absurd (if_neg hb) z
end L2

namespace L2
open PySem PySem.Spec PyProof.Rows

abbrev KOf {K : PySem.W.Frag} {h : Heap} (_ : K.In h) : PySem.W.Frag := K

/-- the goal that k_head leaves (case hc), from the law's promise. F gives the function object fd (K's own) once, then the promise over every base -/
theorem walk_of {l : PySem.W.OpenLaw} {n k : Nat} {q : Program} {loose : List Str} {XP : (Str → Option Value) → Heap → Prop} {YP : World → Heap → Prop} {d : DefRec} {K : Params → PySem.W.Frag} {CX : World → CXT} {sp : World → Sp} {x : Str}
    (hn : l.most = some n) (hn2 : n ≤ sizeLine) (hdf : d.params.defaults = []) (hr : Room k callerA)
    (hY : ∀ (w : World) (h : Heap), YP w h → (K w.params).In h)
    (F : ∀ (w : World) (mg : Str → Option Value) (fa : Addr) (h : Heap), (K w.params).In h → h.Ns mainGlobals mg → mg d.name = some (.ref fa) →
      ∃ fd : FuncData, (∀ (s : Shared) (u : Value), BindsTo s fd ⟨[u], []⟩ [(x, u)]) ∧
        ∀ base : Heap, (K w.params).In base → base.Ns mainGlobals mg → FnOk l.prog w (K w.params) mg base (CX w) k fa fd [x] (sp w))
    (hsp : ∀ (w : World) (H : Hp) (a : Addr) (ns : List Int), ns.length ≤ n → Only H → SqL (K w.params) H a (ns.map V.int) → sp w [.ref a] H (fun v _ => v = .bl true) fun _ _ _ => False)
    (hCX : ∀ (w : World) (H : Hp) (s : Shared) (e : Value) (s' : Shared), CX w [] H s (fun _ _ _ => False) e s' → False) :
    PySem.W.WalkO q loose XP YP l.row.toRowW d [] (fun f vs => PySem.call f vs) := by
  refine Att.attach_call hn hdf fun w s₀ s₁ mg mb fa o pm cd doc a vs ns G Y ho hd hcd hmg hobj hints hlen hg => ?_
  have KX := hY w _ Y
  obtain ⟨fd, hb, hF⟩ := F w mg fa _ KX G.T.g hmg
  exact law_call KX G.T.g G.T.b G.T.builtins G.T.nolimit hg hobj hints (Nat.le_trans hlen hn2) hr hF hb (fun H hO hS => hsp w H a ns hlen hO hS) fun H e s' => hCX w H s₁ e s'
/-- the same where the promise hangs on the written part alone: (sp := My.sp_law), no hole under a binder -/
theorem walk_ofK {l : PySem.W.OpenLaw} {n k : Nat} {q : Program} {loose : List Str} {XP : (Str → Option Value) → Heap → Prop} {YP : World → Heap → Prop} {d : DefRec} {K : Params → PySem.W.Frag} {CX : CXT} {sp : PySem.W.Frag → Sp} {x : Str}
    (hn : l.most = some n) (hn2 : n ≤ sizeLine) (hdf : d.params.defaults = []) (hr : Room k callerA)
    (hY : ∀ (w : World) (h : Heap), YP w h → (K w.params).In h)
    (F : ∀ (w : World) (mg : Str → Option Value) (fa : Addr) (h : Heap), (K w.params).In h → h.Ns mainGlobals mg → mg d.name = some (.ref fa) →
      ∃ fd : FuncData, (∀ (s : Shared) (u : Value), BindsTo s fd ⟨[u], []⟩ [(x, u)]) ∧
        ∀ base : Heap, (K w.params).In base → base.Ns mainGlobals mg → FnOk l.prog w (K w.params) mg base CX k fa fd [x] (sp (K w.params)))
    (hsp : ∀ (K : PySem.W.Frag) (H : Hp) (a : Addr) (ns : List Int), ns.length ≤ n → Only H → SqL K H a (ns.map V.int) → sp K [.ref a] H (fun v _ => v = .bl true) fun _ _ _ => False)
    (hCX : ∀ (H : Hp) (s : Shared) (e : Value) (s' : Shared), CX [] H s (fun _ _ _ => False) e s' → False) :
    PySem.W.WalkO q loose XP YP l.row.toRowW d [] (fun f vs => PySem.call f vs) :=
  walk_of (K := K) (CX := fun _ => CX) (sp := fun w => sp (K w.params)) hn hn2 hdf hr hY F (fun w H a ns h1 h2 h3 => hsp (K w.params) H a ns h1 h2 h3) fun _ H s e s' => hCX H s e s'
end L2

/- THE LAST THEOREM (shape; LID, My.* are yours):
   My.Adr: a structure of the addresses that your layer names (classes, functions); My.Txt K t: a structure (Prop) of the equations over K;
   My.txt_mk : {K} {implicit addresses ..} (e1 : nsIn K mainGlobals "law" = some (some (.ref f))) (e2 : K.lookup f = some ⟨oc, od, .func (fnOf "law" "law" params body scope dV kV doc pm an cdv ct), sl⟩) (e3 : codeIn K cdv "law" = true) .. : ∃ t, My.Txt K t

set_option maxRecDepth 100000 in
set_option maxHeartbeats 0 in
theorem PySem.Challenge.cw_LID_holds : PySem.Challenge.rw_LID.Holds := by
  w_on; o_law; k_head; (case hw => w_witness2)
  k_fill
  refine L2.walk_of (l := PySem.Challenge.rw_LID) (n := 63) (k := 40) (x := "script") (CX := fun w => ..) (sp := fun _ => My.sp_law) rfl (by decide) rfl ⟨rfl, by decide, by decide⟩ (fun w h Y => PySem.W.kIn_of Y) ?F ?S ?C
  case F =>
    intro w mg fa h KX G hmg
    have T : ∃ t, My.Txt (L2.KOf KX) t := by
      dsimp only [L2.KOf]                          -- K must stand as «<heap const> w.params» for k_is
      refine' My.txt_mk ?e1 ?e2 ?e3 ..
      (case e1 => PySem.W.k_is)                    -- in the order: a name -> its address -> its object -> its parts
      (case e2 => PySem.W.k_is)
      ..
    obtain ⟨t, T⟩ := T
    have e0 := hmg.symm.trans (PySem.W.mg_of KX G T.law)
    cases e0                                       -- fa is the law's own address
    exact ⟨_, fun s u => .of_eq rfl, fun base kb nb => My.law_fn T kb nb⟩     -- if «.of_eq rfl» comes too early: refine' ⟨_, ?b, fun base kb nb => My.law_fn T kb nb⟩; exact fun s u => .of_eq rfl
  case S => exact fun w H a ns hl hO hS => ..
  case C => exact ..
(the tactic k_is has no namespace: write k_is) -/

/-! SHORT WORDS over the layer: a def of the text, its body, what a loop and a test want. -/
namespace L2
open PySem PySem.Spec PyProof.Rows

/-! ### the text by places -/
/-- the j-th statement of a class's body -/
def inClass (s : Stmt) (j : Nat) : Stmt := match s with
  | .ClassDef _ _ _ body _ _ _ _ _ _ _ => body.getD j (.Pass ⟨0, 0, 0, 0⟩)
  | _ => .Pass ⟨0, 0, 0, 0⟩
def defArgs (s : Stmt) : Arguments := match s with
  | .FunctionDef _ a _ _ _ _ _ _ _ _ => a
  | _ => { posonlyargs := [], args := [], vararg := none, kwonlyargs := [], kw_defaults := [], kwarg := none, defaults := [] }
def defBody (s : Stmt) : List Stmt := match s with
  | .FunctionDef _ _ b _ _ _ _ _ _ _ => b
  | _ => []
def defScope (s : Stmt) : Scope := match s with
  | .FunctionDef _ _ _ _ _ _ sc _ _ _ => sc
  | _ => { kind := .function, names := [], isGenerator := false, isCoroutine := false }

/-! ### no exception leaves a def -/
abbrev CX0 : CXT := fun _ _ _ _ _ _ => False
abbrev E0 : XK := fun _ _ _ => False
theorem pass0 {X : Cx} : Passes CX0 X E0 := fun _ _ _ _ _ _ _ h => h.elim

/-! ### a def (or method) of the text as it stands behind the top -/
structure Fun (K : PySem.W.Frag) (x qual : Str) (st : Stmt) (f : Addr) (fd : FuncData) : Prop where
  ex : ∃ (oc : Value) (od : Option Addr) (kV doc pm : Value) (an : Option Addr) (cdv ct : Value) (osl : Array (Option Value)),
    fd = PySem.W.fnOf x qual (defArgs st) (defBody st) (defScope st) .none kV doc pm an cdv ct ∧ K.lookup f = some ⟨oc, od, .func fd, osl⟩ ∧ PySem.W.codeIn K cdv qual = true
  kp : PySem.W.keepIn K (.ref f) = true
section
variable {P : Program} {w : World} {K : PySem.W.Frag} {mg : Str → Option Value} {base : Heap}
/-- THE RULE for a def: its body as a term of rules, and the reading of that term -/
theorem Fun.ok {x qual : Str} {st : Stmt} {f : Addr} {fd : FuncData} {N ps : List Str} {k : Nat} {sp : Sp} (F : Fun K x qual st f fd) (S : FnScope N ps (defScope st)) (len : ∀ vs H Q E, sp vs H Q E → vs.length = ps.length)
    (hbody : ∀ (cdv : Value) (A : Around) (outer : List Env) (s : Shared) (H : Hp) (vs : List V) (Q : VK) (E : XK), Room k (A.deeper (envOfC qual (defScope st) s.heap.objs.size f cdv)) → sp vs H Q E →
      ∃ t, PSs (cxOf CX0 P w K mg base N qual (defScope st) f cdv A outer s H E).nox (defBody st) t ∧ t { nx := fun _ H' => Q .non H', rt := Q } (start N vs) H) : FnOk P w K mg base CX0 (k + 1) f fd ps sp := by
  obtain ⟨oc, od, kV, doc, pm, an, cdv, ct, osl, rfl, lk, hcd⟩ := F.ex
  refine fn_of lk hcd S len fun A outer s H vs Q E hr hsp => ?_
  obtain ⟨t, h, q⟩ := hbody cdv A outer s H vs Q E hr hsp
  exact ⟨t, h.nox, q⟩
/-- how its arguments bind (no defaults): h is «fun _ _ _ _ _ _ us hl => match us, hl with | [_, _], _ => rfl», one _ a parameter -/
theorem Fun.binds {x qual : Str} {st : Stmt} {f : Addr} {fd : FuncData} {ps : List Str} (F : Fun K x qual st f fd)
    (h : ∀ (kV doc pm : Value) (an : Option Addr) (cdv ct : Value) (us : List Value), us.length = ps.length → bindArgs (PySem.W.fnOf x qual (defArgs st) (defBody st) (defScope st) .none kV doc pm an cdv ct) ⟨us, []⟩ = pure (ps.zip us)) : Binds K fd ps [] := by
  obtain ⟨oc, od, kV, doc, pm, an, cdv, ct, osl, rfl, lk, hcd⟩ := F.ex
  exact .all (h kV doc pm an cdv ct)
theorem fun_mk {x qual : Str} {st : Stmt} {f : Addr} {oc : Value} {od an : Option Addr} {osl : Array (Option Value)} {kV doc pm cdv ct : Value} (l : K.lookup f = some ⟨oc, od, .func (PySem.W.fnOf x qual (defArgs st) (defBody st) (defScope st) .none kV doc pm an cdv ct), osl⟩)
    (c : PySem.W.codeIn K cdv qual = true) (k : PySem.W.keepIn K (.ref f) = true) : Fun K x qual st f (PySem.W.fnOf x qual (defArgs st) (defBody st) (defScope st) .none kV doc pm an cdv ct) := ⟨⟨oc, od, kV, doc, pm, an, cdv, ct, osl, rfl, l, c⟩, k⟩
end
theorem hu_of {A : Around} {k : Nat} (hr : Room k A) : A.units + 1 < cLine := Nat.lt_of_le_of_lt (Nat.add_le_add_left (by decide : 1 ≤ 64) _) hr.units
theorem small1000 {n : Nat} (h : n ≤ 1000) : n < sizeLine := Nat.lt_of_le_of_lt h (by decide)

/-! ### expressions in short: the name that stands in the i-th slot -/
section
variable {X : Cx}
theorem pv (i : Nat) {x : Str} {pos : Pos} (hN : X.N[i]? = some x := by rfl) (hv : Vis X.env.scope x := by first | exact Or.inl rfl | exact Or.inr (Or.inl rfl) | exact Or.inr (Or.inr rfl)) (hd : (x == ("__debug__" : Str)) = false := by decide)
    (hcd : (x == ("__classdict__" : Str)) = false := by decide) : PE X (.Name x pos) (tVar i) := pe_var hN hv hd hcd
end

/-! ### tests -/
theorem iteF {A B : Prop} (h : B) : if false = true then A else B := by
  rw [if_neg Bool.false_ne_true]
  exact h
theorem iteT {A B : Prop} (h : A) : if true = true then A else B := by
  rw [if_pos rfl]
  exact h
theorem ite2 {c A B : Prop} [Decidable c] (h1 : c → A) (h2 : ¬ c → B) : if c then A else B := by
  by_cases h : c
  · rw [if_pos h]
    exact h1 h
  · rw [if_neg h]
    exact h2 h
theorem iteNS {c A B : Prop} [Decidable c] (hc : c) (h : B) : if (!decide c) = true then A else B := by
  rw [decide_eq_true hc]
  exact iteF h

/-! ### heaps -/
/-- all that was tracked is as it was -/
def Same (H H' : Hp) : Prop := ∀ b o, H b = some o → H' b = some o
theorem Same.refl (H : Hp) : Same H H := fun _ _ h => h
theorem Same.trans {H H1 H2 : Hp} (a : Same H H1) (b : Same H1 H2) : Same H H2 := fun c o h => b c o (a c o h)
theorem Same.free {H H' : Hp} (e : Same H H') {l : Addr} (h : H' l = Option.none) : H l = Option.none := by
  cases q : H l with
  | none => rfl
  | some o =>
    rw [e l o q] at h
    cases h
theorem Same.seq {K : PySem.W.Frag} {H H' : Hp} {a : Addr} {xs : List V} (e : Same H H') (h : SqL K H a xs) : SqL K H' a xs := by
  rcases h with (h | ⟨o, h⟩) | h
  · exact .inl (.inl (e _ _ h))
  · exact .inl (.inr ⟨o, e _ _ h⟩)
  · exact .inr h

end L2

section
set_option Elab.async false
set_option linter.all false
set_option maxRecDepth 100000
namespace M
open PySem PySem.Spec PyProof.Rows L2

/-- pure data -/
inductive D where
  | non | bl (b : Bool) | int (i : Int) | str (x : Str) | ty (n : String)
  | tup (l : List D) | lst (l : List D) | rol (l : List D)
  | obj (C : Addr) (ks : List Str) (l : List D)

abbrev AS := Addr → Prop
def KT (K : PySem.W.Frag) (a : Addr) (vs : List V) : Prop :=
  ∃ (o : Obj) (its : Array Value) (n : Nat), K.lookup a = some o ∧ o.cls = .type "tuple" ∧ o.data = .seq its n ∧ its.size ≤ sizeLine ∧ Vals vs its.toList
def KL (K : PySem.W.Frag) (a : Addr) (vs : List V) : Prop :=
  ∃ (o : Obj) (its : Array Value) (n : Nat), K.lookup a = some o ∧ o.cls = .type "list" ∧ o.dict = none ∧ o.data = .seq its n ∧ its.size ≤ sizeLine ∧ Vals vs its.toList

/-- a class whose objects' fields are plain -/
def OkC (K : PySem.W.Frag) (C : Addr) (ks : List Str) : Prop := Cls K C ∧ ∀ f ∈ ks, NoAttr K C f
mutual
def Rep (K : PySem.W.Frag) (A : AS) (H : Hp) : D → V → Prop
  | .non, v => v = .non
  | .bl b, v => v = .bl b
  | .int i, v => v = .int i
  | .str x, v => v = .str x
  | .ty n, v => v = .ty n
  | .tup l, v => ∃ a vs, v = .ref a ∧ ((¬ A a ∧ Rd H a (.tup vs)) ∨ KT K a vs) ∧ RepL K A H l vs
  | .lst l, v => ∃ a vs, v = .ref a ∧ ¬ A a ∧ H a = some (.lst vs) ∧ RepL K A H l vs
  | .rol l, v => ∃ a vs, v = .ref a ∧ ((¬ A a ∧ Rd H a (.lst vs)) ∨ KL K a vs) ∧ RepL K A H l vs
  | .obj C ks l, v => ∃ a dx vs, v = .ref a ∧ ¬ A a ∧ H a = some (.ins C dx (ks.zip vs)) ∧ ks.length = vs.length ∧ RepL K A H l vs ∧ OkC K C ks
def RepL (K : PySem.W.Frag) (A : AS) (H : Hp) : List D → List V → Prop
  | [], vs => vs = []
  | d :: ds, vs => ∃ v vr, vs = v :: vr ∧ Rep K A H d v ∧ RepL K A H ds vr
end

section
variable {K : PySem.W.Frag} {A A' : AS} {H H' : Hp}

/-- what is reached stays reached -/
def Pres (A : AS) (H : Hp) (A' : AS) (H' : Hp) : Prop := ∀ b o, ¬ A b → H b = some o → ¬ A' b ∧ H' b = some o

theorem Rd.pres (p : Pres A H A' H') {a : Addr} {u : HO} (n : ¬ A a) (r : Rd H a u) : ¬ A' a ∧ Rd H' a u := by
  rcases r with r | ⟨o, r⟩
  · exact ⟨(p a _ n r).1, .inl (p a _ n r).2⟩
  · exact ⟨(p a _ n r).1, .inr ⟨o, (p a _ n r).2⟩⟩

mutual
theorem Rep.mono (p : Pres A H A' H') : ∀ {d : D} {v : V}, Rep K A H d v → Rep K A' H' d v
  | .non, _, h => h
  | .bl _, _, h => h
  | .int _, _, h => h
  | .str _, _, h => h
  | .ty _, _, h => h
  | .tup l, v, h => by
    simp only [Rep] at h ⊢
    obtain ⟨a, vs, e, c, r⟩ := h
    refine ⟨a, vs, e, ?_, RepL.mono p r⟩
    rcases c with ⟨n, c⟩ | c
    · exact .inl (Rd.pres p n c)
    · exact .inr c
  | .lst l, v, h => by
    simp only [Rep] at h ⊢
    obtain ⟨a, vs, e, n, c, r⟩ := h
    exact ⟨a, vs, e, (p a _ n c).1, (p a _ n c).2, RepL.mono p r⟩
  | .rol l, v, h => by
    simp only [Rep] at h ⊢
    obtain ⟨a, vs, e, c, r⟩ := h
    refine ⟨a, vs, e, ?_, RepL.mono p r⟩
    rcases c with ⟨n, c⟩ | c
    · exact .inl (Rd.pres p n c)
    · exact .inr c
  | .obj C ks l, v, h => by
    simp only [Rep] at h ⊢
    obtain ⟨a, dx, vs, e, n, c, hl, r, ok⟩ := h
    exact ⟨a, dx, vs, e, (p a _ n c).1, (p a _ n c).2, hl, RepL.mono p r, ok⟩
theorem RepL.mono (p : Pres A H A' H') : ∀ {l : List D} {vs : List V}, RepL K A H l vs → RepL K A' H' l vs
  | [], _, h => by simp only [RepL] at h ⊢; exact h
  | d :: ds, vs, h => by
    simp only [RepL] at h ⊢
    obtain ⟨v, vr, e, r, rs⟩ := h
    exact ⟨v, vr, e, Rep.mono p r, RepL.mono p rs⟩
end

theorem RepL.length : ∀ {l : List D} {vs : List V}, RepL K A H l vs → l.length = vs.length
  | [], _, h => by simp only [RepL] at h; subst h; rfl
  | d :: ds, vs, h => by
    simp only [RepL] at h
    obtain ⟨v, vr, rfl, _, rs⟩ := h
    simp only [List.length_cons, RepL.length rs]
theorem RepL.nil : RepL K A H [] [] := by simp only [RepL]
theorem RepL.cons {d : D} {v : V} {l : List D} {vs : List V} (r : Rep K A H d v) (rs : RepL K A H l vs) : RepL K A H (d :: l) (v :: vs) := by
  simp only [RepL]; exact ⟨v, vs, rfl, r, rs⟩
theorem RepL.uncons {d : D} {l : List D} {vs : List V} (h : RepL K A H (d :: l) vs) : ∃ v vr, vs = v :: vr ∧ Rep K A H d v ∧ RepL K A H l vr := by
  simpa only [RepL] using h
theorem RepL.unnil {vs : List V} (h : RepL K A H [] vs) : vs = [] := by simpa only [RepL] using h
theorem RepL.append : ∀ {l m : List D} {vs ws : List V}, RepL K A H l vs → RepL K A H m ws → RepL K A H (l ++ m) (vs ++ ws)
  | [], _, _, _, h, g => by rw [h.unnil]; exact g
  | d :: l, m, vs, ws, h, g => by
    obtain ⟨v, vr, rfl, r, rs⟩ := h.uncons
    exact .cons r (RepL.append rs g)
theorem RepL.get : ∀ {l : List D} {vs : List V} {i : Nat} {d : D}, RepL K A H l vs → l[i]? = some d → ∃ v, vs[i]? = some v ∧ Rep K A H d v
  | [], _, _, _, _, e => by simp at e
  | d :: l, vs, 0, d', h, e => by
    obtain ⟨v, vr, rfl, r, rs⟩ := h.uncons
    simp at e; subst e
    exact ⟨v, by simp, r⟩
  | d :: l, vs, i + 1, d', h, e => by
    obtain ⟨v, vr, rfl, r, rs⟩ := h.uncons
    obtain ⟨w, h1, h2⟩ := RepL.get (i := i) rs (by simpa using e)
    exact ⟨w, by simpa using h1, h2⟩
theorem RepL.set : ∀ {l : List D} {vs : List V} {d : D} {v : V} (i : Nat), RepL K A H l vs → Rep K A H d v → RepL K A H (l.set i d) (vs.set i v)
  | [], _, _, _, _, h, _ => by rw [h.unnil]; exact .nil
  | d' :: l, vs, d, v, 0, h, g => by
    obtain ⟨w, vr, rfl, r, rs⟩ := h.uncons
    exact .cons g rs
  | d' :: l, vs, d, v, i + 1, h, g => by
    obtain ⟨w, vr, rfl, r, rs⟩ := h.uncons
    exact .cons r (RepL.set i rs g)
theorem RepL.drop : ∀ {l : List D} {vs : List V} (n : Nat), RepL K A H l vs → RepL K A H (l.drop n) (vs.drop n)
  | _, _, 0, h => h
  | [], _, n + 1, h => by rw [h.unnil]; exact .nil
  | d :: l, vs, n + 1, h => by
    obtain ⟨v, vr, rfl, r, rs⟩ := h.uncons
    exact RepL.drop n rs
theorem RepL.take : ∀ {l : List D} {vs : List V} (n : Nat), RepL K A H l vs → RepL K A H (l.take n) (vs.take n)
  | _, _, 0, h => by simp only [List.take_zero]; exact .nil
  | [], _, n + 1, h => by rw [h.unnil]; exact .nil
  | d :: l, vs, n + 1, h => by
    obtain ⟨v, vr, rfl, r, rs⟩ := h.uncons
    exact .cons r (RepL.take n rs)
theorem RepL.rep {l : List D} {vs : List V} (h : RepL K A H l vs) : ∀ k : Nat, RepL K A H (List.replicate k l).flatten (List.replicate k vs).flatten
  | 0 => .nil
  | k + 1 => by
    rw [List.replicate_succ, List.replicate_succ, List.flatten_cons, List.flatten_cons]
    exact .append h (h.rep k)
theorem RepL.reverse : ∀ {l : List D} {vs : List V}, RepL K A H l vs → RepL K A H l.reverse vs.reverse
  | [], _, h => by rw [h.unnil]; exact .nil
  | d :: l, vs, h => by
    obtain ⟨v, vr, rfl, r, rs⟩ := h.uncons
    rw [List.reverse_cons, List.reverse_cons]
    exact .append (RepL.reverse rs) (.cons r .nil)

theorem Pres.same (s : Same H H') : Pres A H A H' := fun b o n e => ⟨n, s b o e⟩
theorem Pres.sub (s : Same H H') (h : ∀ a, A' a → A a) : Pres A H A' H' := fun b o n e => ⟨fun q => n (h b q), s b o e⟩
/-- a new address a -/
theorem Pres.fresh {a : Addr} (s : Same H H') (n : H a = none) : Pres A H (fun b => A b ∨ b = a) H' := fun b o nb e =>
  ⟨fun q => q.elim nb fun z => (by subst z; rw [n] at e; cases e), s b o e⟩
/-- a write at an avoided address -/
theorem Pres.upd {a : Addr} {o : HO} (h : A a) : Pres A H A (upd H a o) := fun b o' nb e => ⟨nb, by rw [upd_ne (fun z => nb (by subst z; exact h))]; exact e⟩
end

/-! ### the frame's values -/
inductive B where
  | pu (d : D) | ow (l : List D) | bo (l : List D)
def B.d : B → D
  | .pu d => d
  | .ow l => .lst l
  | .bo l => .lst l
abbrev Ev := List (Option B)
def Own (ρ : Ev) (σ : L2.St) : AS := fun a => ∃ (i : Nat) (l : List D), ρ[i]? = some (some (.ow l)) ∧ σ[i]? = some (some (.ref a))
/-- what surrounds: the heap that stays, what the caller owns -/
structure C0 where
  H0 : Hp
  A0 : AS
def Av (C : C0) (ρ : Ev) (σ : L2.St) : AS := fun a => C.A0 a ∨ Own ρ σ a

structure EOk (K : PySem.W.Frag) (C : C0) (ρ : Ev) (σ : L2.St) (H : Hp) : Prop where
  len : ρ.length = σ.length
  pu : ∀ (i : Nat) (d : D), ρ[i]? = some (some (.pu d)) → ∃ v, σ[i]? = some (some v) ∧ Rep K (Av C ρ σ) H d v
  ow : ∀ (i : Nat) (l : List D), ρ[i]? = some (some (.ow l)) → ∃ a vs, σ[i]? = some (some (.ref a)) ∧ H a = some (.lst vs) ∧ C.H0 a = none ∧ RepL K (Av C ρ σ) H l vs
  inj : ∀ (i j : Nat) (l l' : List D) (a : Addr), ρ[i]? = some (some (.ow l)) → ρ[j]? = some (some (.ow l')) → σ[i]? = some (some (.ref a)) → σ[j]? = some (some (.ref a)) → i = j
  bo : ∀ (i : Nat) (l : List D), ρ[i]? = some (some (.bo l)) → ∃ a vs, σ[i]? = some (some (.ref a)) ∧ C.A0 a ∧ C.H0 a = some (.lst vs) ∧ RepL K (Av C ρ σ) H l vs
  ext : Same C.H0 H
  a0 : ∀ a, C.A0 a → C.H0 a ≠ none

section
variable {K : PySem.W.Frag} {C : C0} {ρ ρ' : Ev} {σ σ' : L2.St} {H H' : Hp}
theorem EOk.avSome (I : EOk K C ρ σ H) {a : Addr} (h : Av C ρ σ a) : H a ≠ none := by
  rcases h with h | ⟨i, l, h1, h2⟩
  · intro z
    cases e : C.H0 a with
    | none => exact I.a0 a h e
    | some o => rw [I.ext a o e] at z; cases z
  · obtain ⟨b, vs, h3, h4, _⟩ := I.ow i l h1
    rw [h2] at h3; cases h3
    rw [h4]; simp
theorem EOk.same (I : EOk K C ρ σ H) (s : Same H H') : EOk K C ρ σ H' where
  len := I.len
  pu := fun i d h => let ⟨v, h1, h2⟩ := I.pu i d h; ⟨v, h1, h2.mono (.same s)⟩
  ow := fun i l h => let ⟨a, vs, h1, h2, h3, h4⟩ := I.ow i l h; ⟨a, vs, h1, s _ _ h2, h3, h4.mono (.same s)⟩
  inj := I.inj
  bo := fun i l h => let ⟨a, vs, h1, h2, h3, h4⟩ := I.bo i l h; ⟨a, vs, h1, h2, h3, h4.mono (.same s)⟩
  ext := I.ext.trans s
  a0 := I.a0

theorem get_set_ne {α : Type} {l : List α} {i j : Nat} {x : α} (h : i ≠ j) : (l.set i x)[j]? = l[j]? := by
  rw [List.getElem?_set]; simp [h]
theorem get_set_eq {α : Type} {l : List α} {i : Nat} {x : α} (h : i < l.length) : (l.set i x)[i]? = some x := by
  rw [List.getElem?_set]; simp [h]
theorem get_set_cases {α : Type} {l : List α} {i j : Nat} {x y : α} (h : (l.set i x)[j]? = some y) : (i = j ∧ y = x ∧ i < l.length) ∨ (i ≠ j ∧ l[j]? = some y) := by
  by_cases e : i = j
  · subst e
    rw [List.getElem?_set] at h
    by_cases hl : i < l.length
    · simp [hl] at h; exact .inl ⟨rfl, h.symm, hl⟩
    · simp [hl] at h
  · exact .inr ⟨e, by rw [get_set_ne e] at h; exact h⟩

/-- a value's place in the heap: data, or a new list of one's own -/
def RepB (K : PySem.W.Frag) (A : AS) (H H' : Hp) : B → V → Prop
  | .pu d, v => Rep K A H' d v
  | .ow l, v => ∃ a vs, v = .ref a ∧ H a = none ∧ H' a = some (.lst vs) ∧ RepL K (fun b => A b ∨ b = a) H' l vs
  | .bo _, _ => False
theorem RepB.rep {A : AS} (hA : ∀ a, A a → H a ≠ none) : ∀ {b : B} {v : V}, RepB K A H H' b v → Rep K A H' b.d v
  | .pu d, v, h => h
  | .ow l, v, h => by
    obtain ⟨a, vs, e, n, h1, r⟩ := h
    show Rep K A H' (.lst l) v
    simp only [Rep]
    exact ⟨a, vs, e, fun z => hA a z n, h1, r.mono (fun b o nb q => ⟨fun z => nb (.inl z), q⟩)⟩
  | .bo l, v, h => h.elim

/-- a slot is given a value -/
theorem EOk.store (I : EOk K C ρ σ H) {i : Nat} {b : B} {v : V} {H1 : Hp} (s : Same H H1) (r : RepB K (Av C ρ σ) H H1 b v) (hi : i < σ.length) : EOk K C (ρ.set i (some b)) (σ.set i (some v)) H1 := by
  have I1 := I.same s
  have hir : i < ρ.length := by rw [I.len]; exact hi
  cases b with
  | pu d =>
    have sub : ∀ a, Av C (ρ.set i (some (.pu d))) (σ.set i (some v)) a → Av C ρ σ a := by
      rintro a (z | ⟨j, l, h1, h2⟩)
      · exact .inl z
      · rcases get_set_cases h1 with ⟨rfl, h3, _⟩ | ⟨ne, h3⟩
        · cases h3
        · rw [get_set_ne ne] at h2
          exact .inr ⟨j, l, h3, h2⟩
    refine ⟨by rw [List.length_set, List.length_set]; exact I.len, ?_, ?_, ?_, ?_, I1.ext, I.a0⟩
    rotate_right
    · intro j l h
      rcases get_set_cases h with ⟨rfl, h3, _⟩ | ⟨ne, h3⟩
      · cases h3
      · obtain ⟨a, vs, h4, h5, h6, h7⟩ := I1.bo j l h3
        exact ⟨a, vs, by rw [get_set_ne ne]; exact h4, h5, h6, h7.mono (.sub (.refl _) sub)⟩
    · intro j d' h
      rcases get_set_cases h with ⟨rfl, h3, _⟩ | ⟨ne, h3⟩
      · cases h3
        exact ⟨v, get_set_eq hi, Rep.mono (.sub (.refl _) sub) r⟩
      · obtain ⟨v', h4, h5⟩ := I1.pu j d' h3
        exact ⟨v', by rw [get_set_ne ne]; exact h4, h5.mono (.sub (.refl _) sub)⟩
    · intro j l h
      rcases get_set_cases h with ⟨rfl, h3, _⟩ | ⟨ne, h3⟩
      · cases h3
      · obtain ⟨a, vs, h4, h5, h6, h7⟩ := I1.ow j l h3
        exact ⟨a, vs, by rw [get_set_ne ne]; exact h4, h5, h6, h7.mono (.sub (.refl _) sub)⟩
    · intro j k l l' a h1 h2 h3 h4
      rcases get_set_cases h1 with ⟨rfl, z, _⟩ | ⟨ne, z⟩
      · cases z
      · rcases get_set_cases h2 with ⟨rfl, z', _⟩ | ⟨ne', z'⟩
        · cases z'
        · rw [get_set_ne ne] at h3
          rw [get_set_ne ne'] at h4
          exact I.inj j k l l' a z z' h3 h4
  | ow l0 =>
    obtain ⟨a0, vs0, rfl, n0, e0, r0⟩ := r
    have sub : ∀ a, Av C (ρ.set i (some (.ow l0))) (σ.set i (some (.ref a0))) a → Av C ρ σ a ∨ a = a0 := by
      rintro a (z | ⟨j, l, h1, h2⟩)
      · exact .inl (.inl z)
      · rcases get_set_cases h1 with ⟨rfl, h3, _⟩ | ⟨ne, h3⟩
        · rw [get_set_eq hi] at h2
          cases h2; exact .inr rfl
        · rw [get_set_ne ne] at h2
          exact .inl (.inr ⟨j, l, h3, h2⟩)
    have P : Pres (Av C ρ σ) H (Av C (ρ.set i (some (.ow l0))) (σ.set i (some (.ref a0)))) H1 := fun b o nb e =>
      ⟨fun q => (sub b q).elim nb fun z => (by subst z; rw [n0] at e; cases e), s b o e⟩
    refine ⟨by rw [List.length_set, List.length_set]; exact I.len, ?_, ?_, ?_, ?_, I1.ext, I.a0⟩
    rotate_right
    · intro j l h
      rcases get_set_cases h with ⟨rfl, h3, _⟩ | ⟨ne, h3⟩
      · cases h3
      · obtain ⟨a, vs, h4, h5, h6, h7⟩ := I.bo j l h3
        exact ⟨a, vs, by rw [get_set_ne ne]; exact h4, h5, h6, h7.mono P⟩
    · intro j d' h
      rcases get_set_cases h with ⟨rfl, h3, _⟩ | ⟨ne, h3⟩
      · cases h3
      · obtain ⟨v', h4, h5⟩ := I.pu j d' h3
        exact ⟨v', by rw [get_set_ne ne]; exact h4, h5.mono P⟩
    · intro j l h
      rcases get_set_cases h with ⟨rfl, h3, _⟩ | ⟨ne, h3⟩
      · cases h3
        refine ⟨a0, vs0, get_set_eq hi, e0, ?_, r0.mono (fun b o nb q => ⟨fun z => nb (sub b z), q⟩)⟩
        cases e : C.H0 a0 with
        | none => rfl
        | some o => rw [I.ext _ _ e] at n0; cases n0
      · obtain ⟨a, vs, h4, h5, h6, h7⟩ := I.ow j l h3
        exact ⟨a, vs, by rw [get_set_ne ne]; exact h4, s _ _ h5, h6, h7.mono P⟩
    · intro j k l l' a h1 h2 h3 h4
      have old : ∀ {j : Nat} {l : List D}, ρ[j]? = some (some (.ow l)) → σ[j]? ≠ some (some (.ref a0)) := fun {j l} h z => by
        obtain ⟨b, vs, h4, h5, _⟩ := I.ow j l h
        rw [z] at h4; cases h4
        rw [n0] at h5; cases h5
      rcases get_set_cases h1 with ⟨rfl, z, _⟩ | ⟨ne, z⟩
      · rw [get_set_eq hi] at h3; cases h3
        rcases get_set_cases h2 with ⟨rfl, z', _⟩ | ⟨ne', z'⟩
        · rfl
        · rw [get_set_ne ne'] at h4
          exact absurd h4 (old z')
      · rw [get_set_ne ne] at h3
        rcases get_set_cases h2 with ⟨rfl, z', _⟩ | ⟨ne', z'⟩
        · rw [get_set_eq hi] at h4; cases h4
          exact absurd h3 (old z)
        · rw [get_set_ne ne'] at h4
          exact I.inj j k l l' a z z' h3 h4
  | bo l0 => exact r.elim

/-- a list of one's own is read: it is one's own no more -/
theorem EOk.freeze (I : EOk K C ρ σ H) {i : Nat} {l : List D} (h : ρ[i]? = some (some (.ow l))) :
    EOk K C (ρ.set i (some (.pu (.lst l)))) σ H ∧ (∀ a, Own (ρ.set i (some (.pu (.lst l)))) σ a → Own ρ σ a) ∧ ∃ v, σ[i]? = some (some v) ∧ Rep K (Av C (ρ.set i (some (.pu (.lst l)))) σ) H (.lst l) v := by
  have sub : ∀ a, Own (ρ.set i (some (.pu (.lst l)))) σ a → Own ρ σ a := by
    rintro a ⟨j, l', h1, h2⟩
    rcases get_set_cases h1 with ⟨rfl, h3, _⟩ | ⟨ne, h3⟩
    · cases h3
    · exact ⟨j, l', h3, h2⟩
  have subA : ∀ a, Av C (ρ.set i (some (.pu (.lst l)))) σ a → Av C ρ σ a := fun a z => z.imp id (sub a)
  obtain ⟨a, vs, h1, h2, h3, h4⟩ := I.ow i l h
  have na : ¬ Av C (ρ.set i (some (.pu (.lst l)))) σ a := by
    rintro (z | ⟨j, l', g1, g2⟩)
    · exact I.a0 a z h3
    · rcases get_set_cases g1 with ⟨rfl, g3, _⟩ | ⟨ne, g3⟩
      · cases g3
      · exact ne (I.inj i j l l' a h g3 h1 g2)
  have R : Rep K (Av C (ρ.set i (some (.pu (.lst l)))) σ) H (.lst l) (.ref a) := by
    simp only [Rep]
    exact ⟨a, vs, rfl, na, h2, h4.mono (.sub (.refl _) subA)⟩
  refine ⟨⟨by rw [List.length_set]; exact I.len, ?_, ?_, ?_, ?_, I.ext, I.a0⟩, sub, .ref a, h1, R⟩
  rotate_right
  · intro j l' g
    rcases get_set_cases g with ⟨rfl, g3, _⟩ | ⟨ne, g3⟩
    · cases g3
    · obtain ⟨a', vs', g4, g5, g6, g7⟩ := I.bo j l' g3
      exact ⟨a', vs', g4, g5, g6, g7.mono (.sub (.refl _) subA)⟩
  · intro j d' g
    rcases get_set_cases g with ⟨rfl, g3, _⟩ | ⟨ne, g3⟩
    · cases g3
      exact ⟨_, h1, R⟩
    · obtain ⟨v', g4, g5⟩ := I.pu j d' g3
      exact ⟨v', g4, g5.mono (.sub (.refl _) subA)⟩
  · intro j l' g
    rcases get_set_cases g with ⟨rfl, g3, _⟩ | ⟨ne, g3⟩
    · cases g3
    · obtain ⟨a', vs', g4, g5, g6, g7⟩ := I.ow j l' g3
      exact ⟨a', vs', g4, g5, g6, g7.mono (.sub (.refl _) subA)⟩
  · intro j k l1 l2 a' g1 g2 g3 g4
    rcases get_set_cases g1 with ⟨rfl, z, _⟩ | ⟨ne, z⟩
    · cases z
    · rcases get_set_cases g2 with ⟨rfl, z', _⟩ | ⟨ne', z'⟩
      · cases z'
      · exact I.inj j k l1 l2 a' z z' g3 g4

/-- a list of one's own is written -/
theorem EOk.write (I : EOk K C ρ σ H) {i : Nat} {l l' : List D} {a : Addr} {vs' : List V} (h : ρ[i]? = some (some (.ow l))) (hs : σ[i]? = some (some (.ref a))) (r : RepL K (Av C ρ σ) H l' vs') :
    EOk K C (ρ.set i (some (.ow l'))) σ (upd H a (.lst vs')) := by
  have hi : i < ρ.length := (List.getElem?_eq_some_iff.mp h).1
  have sub : ∀ b, Av C (ρ.set i (some (.ow l'))) σ b → Av C ρ σ b := by
    rintro b (z | ⟨j, l2, h1, h2⟩)
    · exact .inl z
    · rcases get_set_cases h1 with ⟨rfl, h3, _⟩ | ⟨ne, h3⟩
      · exact .inr ⟨i, l, h, h2⟩
      · exact .inr ⟨j, l2, h3, h2⟩
  have own : Av C ρ σ a := .inr ⟨i, l, h, hs⟩
  have P : Pres (Av C ρ σ) H (Av C (ρ.set i (some (.ow l'))) σ) (upd H a (.lst vs')) := fun b o nb e => ⟨fun z => nb (sub b z), (Pres.upd own b o nb e).2⟩
  obtain ⟨a1, vs, h1, h2, h3, h4⟩ := I.ow i l h
  rw [hs] at h1; cases h1
  refine ⟨by rw [List.length_set]; exact I.len, ?_, ?_, ?_, ?_, ?_, I.a0⟩
  rotate_left 3
  · intro j l2 g
    rcases get_set_cases g with ⟨rfl, g3, _⟩ | ⟨ne, g3⟩
    · cases g3
    · obtain ⟨a', vs', g4, g5, g6, g7⟩ := I.bo j l2 g3
      exact ⟨a', vs', g4, g5, g6, g7.mono P⟩
  rotate_left 1
  · intro j d' g
    rcases get_set_cases g with ⟨rfl, g3, _⟩ | ⟨ne, g3⟩
    · cases g3
    · obtain ⟨v', g4, g5⟩ := I.pu j d' g3
      exact ⟨v', g4, g5.mono P⟩
  · intro j l2 g
    rcases get_set_cases g with ⟨rfl, g3, _⟩ | ⟨ne, g3⟩
    · cases g3
      exact ⟨a, vs', hs, upd_same, h3, r.mono P⟩
    · obtain ⟨a', vs2, g4, g5, g6, g7⟩ := I.ow j l2 g3
      refine ⟨a', vs2, g4, ?_, g6, g7.mono P⟩
      rw [upd_ne (fun z => ?_)]
      · exact g5
      · subst z
        exact ne (I.inj i j l l2 a' h g3 hs g4)
  · intro j k l1 l2 a' g1 g2 g3 g4
    have old : ∀ {j : Nat} {l1 : List D}, (ρ.set i (some (.ow l')))[j]? = some (some (.ow l1)) → ∃ l3, ρ[j]? = some (some (.ow l3)) := fun {j l1} g => by
      rcases get_set_cases g with ⟨rfl, z, _⟩ | ⟨ne, z⟩
      · exact ⟨l, h⟩
      · exact ⟨l1, z⟩
    obtain ⟨_, q1⟩ := old g1
    obtain ⟨_, q2⟩ := old g2
    exact I.inj j k _ _ a' q1 q2 g3 g4
  · intro b o e
    rw [upd_ne (fun z => ?_)]
    · exact I.ext b o e
    · subst z
      rw [h3] at e; cases e

/-- through a loop all that is not one's own stays -/
def C0.raise (C : C0) (ρ : Ev) (σ : L2.St) (H : Hp) (D : (a : Addr) → Decidable (Own ρ σ a)) : C0 := ⟨fun b => @ite _ (Own ρ σ b) (D b) none (H b), C.A0⟩
open Classical in
theorem EOk.raise (I : EOk K C ρ σ H) : EOk K (C.raise ρ σ H fun _ => inferInstance) ρ σ H ∧ Same C.H0 (C.raise ρ σ H fun _ => inferInstance).H0 := by
  have e1 : ∀ b, Own ρ σ b → (C.raise ρ σ H fun _ => inferInstance).H0 b = none := fun b h => if_pos h
  have e2 : ∀ b, ¬ Own ρ σ b → (C.raise ρ σ H fun _ => inferInstance).H0 b = H b := fun b h => if_neg h
  have no : ∀ b o, C.H0 b = some o → ¬ Own ρ σ b := fun b o e ⟨i, l, h1, h2⟩ => by
    obtain ⟨a, vs, h3, h4, h5, _⟩ := I.ow i l h1
    rw [h2] at h3; cases h3
    rw [h5] at e; cases e
  have s1 : Same C.H0 (C.raise ρ σ H fun _ => inferInstance).H0 := fun b o e => by rw [e2 b (no b o e)]; exact I.ext b o e
  refine ⟨⟨I.len, I.pu, fun i l h => ?_, I.inj, fun i l h => ?_, fun b o e => ?_, fun a h z => ?_⟩, s1⟩
  · obtain ⟨a, vs, h3, h4, h5, h6⟩ := I.ow i l h
    exact ⟨a, vs, h3, h4, e1 a ⟨i, l, h, h3⟩, h6⟩
  · obtain ⟨a, vs, h3, h4, h5, h6⟩ := I.bo i l h
    exact ⟨a, vs, h3, h4, s1 _ _ h5, h6⟩
  · by_cases q : Own ρ σ b
    · rw [e1 b q] at e; cases e
    · rw [e2 b q] at e; exact e
  · cases e : C.H0 a with
    | none => exact I.a0 a h e
    | some o => rw [s1 a o e] at z; cases z
theorem EOk.lower {C C' : C0} (I : EOk K C' ρ σ H) (s : Same C.H0 C'.H0) (e : C'.A0 = C.A0) (ha : ∀ a, C.A0 a → C.H0 a ≠ none) : EOk K C ρ σ H := by
  obtain ⟨H0', A0'⟩ := C'
  obtain ⟨H0, A0⟩ := C
  have e' : A0' = A0 := e
  subst e'
  refine ⟨I.len, I.pu, fun i l h => ?_, I.inj, fun i l h => ?_, s.trans I.ext, ha⟩
  · obtain ⟨a, vs, h3, h4, h5, h6⟩ := I.ow i l h
    exact ⟨a, vs, h3, h4, s.free h5, h6⟩
  · obtain ⟨a, vs, h3, h4, h5, h6⟩ := I.bo i l h
    refine ⟨a, vs, h3, h4, ?_, h6⟩
    cases e : H0 a with
    | none => exact absurd e (ha a h4)
    | some o =>
      have := s a o e
      have h5' : H0' a = some (.lst vs) := h5
      have this' : H0' a = some o := this
      rw [h5'] at this'
      cases this'
      exact e
end
end M

end
section
set_option Elab.async false
set_option linter.all false
set_option maxRecDepth 100000
namespace M
open PySem PySem.Spec PyProof.Rows L2

/-- some lists of one's own were read -/
def Frz (ρ ρ' : Ev) : Prop := ρ'.length = ρ.length ∧ ∀ i : Nat, ρ'[i]? = ρ[i]? ∨ ∃ l : List D, ρ[i]? = some (some (.ow l)) ∧ ρ'[i]? = some (some (.pu (.lst l)))
theorem Frz.refl (ρ : Ev) : Frz ρ ρ := ⟨rfl, fun _ => .inl rfl⟩
theorem Frz.trans {a b c : Ev} (h : Frz a b) (g : Frz b c) : Frz a c := by
  refine ⟨g.1.trans h.1, fun i => ?_⟩
  rcases g.2 i with e | ⟨l, e1, e2⟩
  · rcases h.2 i with e' | ⟨l, e1, e2⟩
    · exact .inl (e.trans e')
    · exact .inr ⟨l, e1, e.trans e2⟩
  · rcases h.2 i with e' | ⟨l', e3, e4⟩
    · exact .inr ⟨l, e' ▸ e1, e2⟩
    · rw [e4] at e1; cases e1
theorem Frz.own {ρ ρ' : Ev} {σ : L2.St} (f : Frz ρ ρ') {a : Addr} (h : Own ρ' σ a) : Own ρ σ a := by
  obtain ⟨i, l, h1, h2⟩ := h
  rcases f.2 i with e | ⟨l', _, e2⟩
  · exact ⟨i, l, e ▸ h1, h2⟩
  · rw [e2] at h1; cases h1
theorem Frz.set {ρ : Ev} {i : Nat} {l : List D} (h : ρ[i]? = some (some (.ow l))) : Frz ρ (ρ.set i (some (.pu (.lst l)))) := by
  refine ⟨List.length_set, fun j => ?_⟩
  by_cases e : i = j
  · subst e
    exact .inr ⟨l, h, get_set_eq (List.getElem?_eq_some_iff.mp h).1⟩
  · exact .inl (get_set_ne e)
section
variable {K : PySem.W.Frag} {C : C0} {ρ ρ' : Ev} {σ : L2.St} {H H' : Hp}
theorem Frz.av (f : Frz ρ ρ') {a : Addr} (h : Av C ρ' σ a) : Av C ρ σ a := h.imp id f.own
theorem EOk.frz (I : EOk K C ρ σ H) (f : Frz ρ ρ') : EOk K C ρ' σ H := by
  have ow' : ∀ {j : Nat} {l : List D}, ρ'[j]? = some (some (.ow l)) → ρ[j]? = some (some (.ow l)) := fun {j l} h => by
    rcases f.2 j with e | ⟨l', _, e2⟩
    · exact e ▸ h
    · rw [e2] at h; cases h
  refine ⟨by rw [f.1]; exact I.len, fun i d h => ?_, fun i l h => ?_, fun i j l l' a h1 h2 => I.inj i j l l' a (ow' h1) (ow' h2), fun i l h => ?_, I.ext, I.a0⟩
  · rcases f.2 i with e | ⟨l, e1, e2⟩
    · obtain ⟨v, h1, h2⟩ := I.pu i d (e ▸ h)
      exact ⟨v, h1, h2.mono (.sub (.refl _) fun a => f.av)⟩
    · rw [e2] at h; cases h
      obtain ⟨a, vs, h1, h2, h3, h4⟩ := I.ow i l e1
      refine ⟨.ref a, h1, ?_⟩
      simp only [Rep]
      refine ⟨a, vs, rfl, ?_, h2, h4.mono (.sub (.refl _) fun a => f.av)⟩
      rintro (z | ⟨j, l', g1, g2⟩)
      · exact I.a0 a z h3
      · have := I.inj i j l l' a e1 (ow' g1) h1 g2
        subst this
        rw [e2] at g1; cases g1
  · obtain ⟨a, vs, h1, h2, h3, h4⟩ := I.ow i l (ow' h)
    exact ⟨a, vs, h1, h2, h3, h4.mono (.sub (.refl _) fun a => f.av)⟩
  · have h' : ρ[i]? = some (some (.bo l)) := by
      rcases f.2 i with e | ⟨l', _, e2⟩
      · exact e ▸ h
      · rw [e2] at h; cases h
    obtain ⟨a, vs, h1, h2, h3, h4⟩ := I.bo i l h'
    exact ⟨a, vs, h1, h2, h3, h4.mono (.sub (.refl _) fun a => f.av)⟩
end

/-! ### readings -/
abbrev UE := Ev → (B → Ev → Prop) → Prop
abbrev UV := Ev → (D → Ev → Prop) → Prop
abbrev UA := Ev → (List D → Ev → Prop) → Prop
abbrev UT := Ev → (Bool → Ev → Prop) → Prop
def lE (K : PySem.W.Frag) (t : UE) : TE := fun σ H Q => ∃ C ρ Q0, EOk K C ρ σ H ∧ t ρ Q0 ∧
  ∀ b ρ' v H', Q0 b ρ' → Frz ρ ρ' → Same H H' → RepB K (Av C ρ' σ) H H' b v → Q v H'
def lA (K : PySem.W.Frag) (t : UA) : TA := fun σ H Q => ∃ C ρ Q0, EOk K C ρ σ H ∧ t ρ Q0 ∧
  ∀ ds ρ' vs H', Q0 ds ρ' → Frz ρ ρ' → Same H H' → RepL K (Av C ρ' σ) H' ds vs → Q vs H'
def lT (K : PySem.W.Frag) (t : UT) : TT := fun σ H Q => ∃ C ρ Q0, EOk K C ρ σ H ∧ t ρ Q0 ∧
  ∀ b ρ' H', Q0 b ρ' → Frz ρ ρ' → Same H H' → Q b H'
/-- data as it lies, its own address aside -/
def Rep1 (K : PySem.W.Frag) (A : AS) (H : Hp) : D → V → Prop
  | .tup l, v => ∃ a vs, v = .ref a ∧ SqT K H a vs ∧ RepL K A H l vs
  | .lst l, v => ∃ a vs, v = .ref a ∧ H a = some (.lst vs) ∧ RepL K A H l vs
  | .rol l, v => ∃ a vs, v = .ref a ∧ SqL K H a vs ∧ RepL K A H l vs
  | d, v => Rep K A H d v
def lV (K : PySem.W.Frag) (t : UV) : TE := fun σ H Q => ∃ C ρ Q0, EOk K C ρ σ H ∧ t ρ Q0 ∧
  ∀ d ρ' v H', Q0 d ρ' → Frz ρ ρ' → Same H H' → Rep1 K (Av C ρ' σ) H' d v → Q v H'
def PU (X : Cx) (e : Expr) (t : UE) : Prop := PE X e (lE X.K t)
def PUV (X : Cx) (e : Expr) (t : UV) : Prop := PE X e (lV X.K t)
def PUA (X : Cx) (es : List Expr) (t : UA) : Prop := PA X es (lA X.K t)
def PUT (X : Cx) (e : Expr) (t : UT) : Prop := PT X e (lT X.K t)
def PUW (X : Cx) (e : Expr) (t : UT) : Prop := PW X e (lT X.K t)

section
variable {K : PySem.W.Frag} {A : AS} {H : Hp}
theorem Rep.one : ∀ {d : D} {v : V}, Rep K A H d v → Rep1 K A H d v
  | .non, _, h => h
  | .bl _, _, h => h
  | .int _, _, h => h
  | .str _, _, h => h
  | .ty _, _, h => h
  | .tup l, v, h => by
    simp only [Rep] at h
    obtain ⟨a, vs, e, c, r⟩ := h
    exact ⟨a, vs, e, c.imp And.right id, r⟩
  | .lst l, v, h => by
    simp only [Rep] at h
    obtain ⟨a, vs, e, n, c, r⟩ := h
    exact ⟨a, vs, e, c, r⟩
  | .rol l, v, h => by
    simp only [Rep] at h
    obtain ⟨a, vs, e, c, r⟩ := h
    exact ⟨a, vs, e, c.imp And.right id, r⟩
  | .obj _ _ _, _, h => h
end

theorem PEimp {X : Cx} {e : Expr} {t t' : TE} (h : PE X e t) (i : ∀ σ H Q, t' σ H Q → t σ H Q) : PE X e t' := fun pins s σ H Q I q => h pins s σ H Q I (i σ H Q q)
theorem PAimp {X : Cx} {es : List Expr} {t t' : TA} (h : PA X es t) (i : ∀ σ H Q, t' σ H Q → t σ H Q) : PA X es t' := fun pos pins s σ H Q I q => h pos pins s σ H Q I (i σ H Q q)
theorem PTimp {X : Cx} {e : Expr} {t t' : TT} (h : PT X e t) (i : ∀ σ H Q, t' σ H Q → t σ H Q) : PT X e t' := fun pins s σ H Q I q => h pins s σ H Q I (i σ H Q q)
theorem PWimp {X : Cx} {e : Expr} {t t' : TT} (h : PW X e t) (i : ∀ σ H Q, t' σ H Q → t σ H Q) : PW X e t' := fun w pins s σ H Q I q => h w pins s σ H Q I (i σ H Q q)

section
variable {X : Cx} {a b c e o : Expr} {es rest : List Expr} {pos : Pos} {ta tb tc : UE}

/-! ### written values, names -/
def uC (d : D) : UE := fun ρ Q => Q (.pu d) ρ
theorem pu_int {i j pos} : PU X (.Constant (.int i) j pos) (uC (.int i)) := PEimp pe_int fun σ H Q ⟨C, ρ, Q0, I, h, k⟩ => k _ ρ _ H h (.refl _) (.refl _) (show Rep _ _ _ _ _ by simp only [Rep])
theorem pu_bl {b j pos} : PU X (.Constant (.bool b) j pos) (uC (.bl b)) := PEimp pe_bl fun σ H Q ⟨C, ρ, Q0, I, h, k⟩ => k _ ρ _ H h (.refl _) (.refl _) (show Rep _ _ _ _ _ by simp only [Rep])
theorem pu_non {j pos} : PU X (.Constant .none j pos) (uC .non) := PEimp pe_non fun σ H Q ⟨C, ρ, Q0, I, h, k⟩ => k _ ρ _ H h (.refl _) (.refl _) (show Rep _ _ _ _ _ by simp only [Rep])
theorem pu_str {x j pos} : PU X (.Constant (.str x) j pos) (uC (.str x)) := PEimp pe_str fun σ H Q ⟨C, ρ, Q0, I, h, k⟩ => k _ ρ _ H h (.refl _) (.refl _) (show Rep _ _ _ _ _ by simp only [Rep])

def slotE (ρ : Ev) (i : Nat) (Q : B → Ev → Prop) : Prop := match ρ[i]? with
  | some (some (.pu d)) => Q (.pu d) ρ
  | some (some (.ow l)) => Q (.pu (.lst l)) (ρ.set i (some (.pu (.lst l))))
  | _ => False
def uVar (i : Nat) : UE := fun ρ Q => slotE ρ i Q
theorem pu_var (i : Nat) {x : Str} {pos : Pos} (h : PE X (.Name x pos) (tVar i)) : PU X (.Name x pos) (uVar i) := PEimp h fun σ H Q ⟨C, ρ, Q0, I, h, k⟩ => by
  unfold uVar slotE at h
  split at h
  · rename_i d e
    obtain ⟨v, h1, h2⟩ := I.pu i d e
    exact ⟨v, h1, k _ ρ v H h (.refl _) (.refl _) h2⟩
  · rename_i l e
    obtain ⟨_, _, v, h1, h2⟩ := I.freeze e
    exact ⟨v, h1, k _ _ v H h (.set e) (.refl _) h2⟩
  · exact h.elim
def slotV (ρ : Ev) (i : Nat) (Q : D → Ev → Prop) : Prop := match ρ[i]? with
  | some (some (.pu d)) => Q d ρ
  | some (some (.ow l)) => Q (.lst l) ρ
  | some (some (.bo l)) => Q (.lst l) ρ
  | _ => False
def uVarV (i : Nat) : UV := fun ρ Q => slotV ρ i Q
theorem pv_var (i : Nat) {x : Str} {pos : Pos} (h : PE X (.Name x pos) (tVar i)) : PUV X (.Name x pos) (uVarV i) := PEimp h fun σ H Q ⟨C, ρ, Q0, I, h, k⟩ => by
  unfold uVarV slotV at h
  split at h
  · rename_i d e
    obtain ⟨v, h1, h2⟩ := I.pu i d e
    exact ⟨v, h1, k _ ρ v H h (.refl _) (.refl _) h2.one⟩
  · rename_i l e
    obtain ⟨a, vs, h1, h2, h3, h4⟩ := I.ow i l e
    exact ⟨_, h1, k _ ρ _ H h (.refl _) (.refl _) ⟨a, vs, rfl, h2, h4⟩⟩
  · rename_i l e
    obtain ⟨a, vs, h1, h2, h3, h4⟩ := I.bo i l e
    exact ⟨_, h1, k _ ρ _ H h (.refl _) (.refl _) ⟨a, vs, rfl, I.ext _ _ h3, h4⟩⟩
  · exact h.elim
def uV (t : UE) : UV := fun ρ Q => t ρ fun b ρ1 => Q b.d ρ1
theorem EOk.avF {K : PySem.W.Frag} {C : C0} {ρ ρ' : Ev} {σ : L2.St} {H : Hp} (I : EOk K C ρ σ H) (f : Frz ρ ρ') {a : Addr} (h : Av C ρ' σ a) : H a ≠ none := I.avSome (f.av h)
theorem pv_of (h : PU X e ta) : PUV X e (uV ta) := PEimp h fun σ H Q ⟨C, ρ, Q0, I, h, k⟩ =>
  ⟨C, ρ, _, I, h, fun b ρ' v H' q f s r => k b.d ρ' v H' q f s (r.rep fun a z => I.avF f z).one⟩
/-- a value of the module -/
theorem pu_glob {x : Str} {v : V} {d : D} {pos : Pos} (h : PE X (.Name x pos) (tC v)) (r : ∀ A H, Rep X.K A H d v) : PU X (.Name x pos) (uC d) := PEimp h fun σ H Q ⟨C, ρ, Q0, I, h, k⟩ => k _ ρ _ H h (.refl _) (.refl _) (r _ _)

/-! ### two-place operations -/
def OpU (X : Cx) (f : Value → Value → Sem Value) (g : D → D → (B → Prop) → Prop) : Prop :=
  ∀ (A : AS) (H : Hp) (d e : D) (v w : V) (Q0 : B → Prop) (Q : VK), (∀ a, A a → H a ≠ none) → Rep X.K A H d v → Rep X.K A H e w → g d e Q0 →
    (∀ b v' H', Q0 b → Same H H' → RepB X.K A H H' b v' → Q v' H') → ∃ r, OpR X f r ∧ r v w H Q
def uOp (g : D → D → (B → Prop) → Prop) (ta tb : UE) : UE := fun ρ Q => ta ρ fun x ρ1 => tb ρ1 fun y ρ2 => g x.d y.d fun b => Q b ρ2
theorem opAny {f : Value → Value → Sem Value} : OpR X f (fun x y H Q => ∃ r, OpR X f r ∧ r x y H Q) := fun pins s σ H x y v u Q I rx ry ⟨r, hr, q⟩ => hr pins s σ H x y v u Q I rx ry q
theorem RepB.from {K : PySem.W.Frag} {A : AS} {H0 H H' : Hp} (s : Same H0 H) : ∀ {b : B} {v : V}, RepB K A H H' b v → RepB K A H0 H' b v
  | .pu _, _, h => h
  | .ow _, _, ⟨a, vs, e, n, h1, r⟩ => ⟨a, vs, e, s.free n, h1, r⟩
  | .bo _, _, h => h.elim
theorem lOp {f : Value → Value → Sem Value} {g : D → D → (B → Prop) → Prop} (ho : OpU X f g) (σ : L2.St) (H : Hp) (Q : VK) (h : lE X.K (uOp g ta tb) σ H Q) :
    tOp (fun x y H Q => ∃ r, OpR X f r ∧ r x y H Q) (lE X.K ta) (lE X.K tb) σ H Q := by
  obtain ⟨C, ρ, Q0, I, h, k⟩ := h
  refine ⟨C, ρ, _, I, h, fun x ρ1 v H1 q1 f1 s1 r1 => ?_⟩
  have I1 := (I.frz f1).same s1
  refine ⟨C, ρ1, _, I1, q1, fun y ρ2 w H2 q2 f2 s2 r2 => ?_⟩
  have I2 := (I1.frz f2).same s2
  have hA : ∀ a, Av C ρ2 σ a → H2 a ≠ none := fun a z => I2.avSome z
  refine ho (Av C ρ2 σ) H2 x.d y.d v w _ Q hA ((r1.rep fun a z => I.avF f1 z).mono (.sub s2 fun a => f2.av)) (r2.rep fun a z => I1.avF f2 z) q2 fun b v' H' q s r => ?_
  exact k b ρ2 v' H' q (f1.trans f2) (s1.trans (s2.trans s)) (r.from (s1.trans s2))
theorem pu_op {op : Operator} {g : D → D → (B → Prop) → Prop} (ho : OpU X (binaryOp op) g) (ha : PU X a ta) (hb : PU X b tb) : PU X (.BinOp a op b pos) (uOp g ta tb) :=
  PEimp (pe_op opAny ha hb) (lOp ho)
theorem pu_cmp {op : CmpOp} {g : D → D → (B → Prop) → Prop} (ho : OpU X (compareOp op) g) (ha : PU X a ta) (hb : PU X b tb) (hm : behindInMarks op b = false) : PU X (.Compare a [op] [b] pos) (uOp g ta tb) :=
  PEimp (pe_cmpR opAny ha hb hm) (lOp ho)
def isB (Q : Bool → Ev → Prop) : B → Ev → Prop := fun b ρ => match b with
  | .pu (.bl k) => Q k ρ
  | _ => False
def uTst (t : UE) : UT := fun ρ Q => t ρ (isB Q)
theorem lTst {t : UE} (σ : L2.St) (H : Hp) (Q : Bool → Hp → Prop) (h : lT X.K (uTst t) σ H Q) : lE X.K t σ H fun x H' => ∃ k, x = .bl k ∧ Q k H' := by
  obtain ⟨C, ρ, Q0, I, h, k⟩ := h
  refine ⟨C, ρ, _, I, h, fun b ρ' v H' q f s r => ?_⟩
  unfold isB at q
  split at q
  · rename_i k'
    refine ⟨k', ?_, k k' ρ' H' q f s⟩
    have r' : Rep X.K (Av C ρ' σ) H' (.bl k') v := r
    simpa only [Rep] using r'
  · exact q.elim
theorem pt_of (h : PU X e ta) (he : ∀ whole, isTrue e X.env whole = (do let v ← whole; standAt e.pos; holding [v] (truthy v)) := by intro _; rfl) : PUT X e (uTst ta) :=
  PTimp (pt_val h he) lTst
theorem pt_cmpU {op : CmpOp} {g : D → D → (B → Prop) → Prop} (ho : OpU X (compareOp op) g) (ha : PU X a ta) (hb : PU X b tb) (hm : behindInMarks op b = false) : PUT X (.Compare a [op] [b] pos) (uTst (uOp g ta tb)) :=
  PTimp (pt_cmpR opAny ha hb hm) fun σ H Q h => lOp ho σ H _ (lTst σ H Q h)

/-! ### and, or, not, if else -/
def uAnd (t u : UT) : UT := fun ρ Q => t ρ fun c ρ1 => if c = true then u ρ1 Q else Q false ρ1
def uOr (t u : UT) : UT := fun ρ Q => t ρ fun c ρ1 => if c = true then Q true ρ1 else u ρ1 Q
def uNot (t : UT) : UT := fun ρ Q => t ρ fun c ρ1 => Q (!c) ρ1
variable {tA tB : UT}
theorem pw_and1U (ha : PUT X a tA) : PUW X (.BoolOp .And [a] pos) tA := pw_and1 ha
theorem pw_or1U (ha : PUT X a tA) : PUW X (.BoolOp .Or [a] pos) tA := pw_or1 ha
theorem pw_andU (ha : PUT X a tA) (hb : PUW X (.BoolOp .And (b :: rest) pos) tB) : PUW X (.BoolOp .And (a :: b :: rest) pos) (uAnd tA tB) :=
  PWimp (pw_and ha hb) fun σ H Q ⟨C, ρ, Q0, I, h, k⟩ => ⟨C, ρ, _, I, h, fun c ρ1 H1 q f s => by
    cases c with
    | true =>
      rw [if_pos rfl] at q ⊢
      exact ⟨C, ρ1, Q0, (I.frz f).same s, q, fun b ρ2 H2 q2 f2 s2 => k b ρ2 H2 q2 (f.trans f2) (s.trans s2)⟩
    | false =>
      rw [if_neg Bool.false_ne_true] at q ⊢
      exact k _ _ _ q f s⟩
theorem pw_orU (ha : PUT X a tA) (hb : PUW X (.BoolOp .Or (b :: rest) pos) tB) : PUW X (.BoolOp .Or (a :: b :: rest) pos) (uOr tA tB) :=
  PWimp (pw_or ha hb) fun σ H Q ⟨C, ρ, Q0, I, h, k⟩ => ⟨C, ρ, _, I, h, fun c ρ1 H1 q f s => by
    cases c with
    | true =>
      rw [if_pos rfl] at q ⊢
      exact k _ _ _ q f s
    | false =>
      rw [if_neg Bool.false_ne_true] at q ⊢
      exact ⟨C, ρ1, Q0, (I.frz f).same s, q, fun b ρ2 H2 q2 f2 s2 => k b ρ2 H2 q2 (f.trans f2) (s.trans s2)⟩⟩
theorem PUW.pt (h : PUW X e tA) : PUT X e tA := PW.pt h
theorem pt_notU (ha : PUT X a tA) : PUT X (.UnaryOp .Not a pos) (uNot tA) :=
  PTimp (pt_not ha) fun σ H Q ⟨C, ρ, Q0, I, h, k⟩ => ⟨C, ρ, _, I, h, fun c ρ1 H1 q f s => k _ ρ1 H1 q f s⟩
/-- .. as values: bools -/
def uAndV (t u : UE) : UE := fun ρ Q => t ρ fun x ρ1 => isB (fun c ρ1 => if c = true then u ρ1 Q else Q (.pu (.bl false)) ρ1) x ρ1
def uOrV (t u : UE) : UE := fun ρ Q => t ρ fun x ρ1 => isB (fun c ρ1 => if c = true then Q (.pu (.bl true)) ρ1 else u ρ1 Q) x ρ1
def uNotV (t : UE) : UE := fun ρ Q => t ρ fun x ρ1 => isB (fun c ρ1 => Q (.pu (.bl (!c))) ρ1) x ρ1
theorem isB_inv {Q : Bool → Ev → Prop} {b : B} {ρ : Ev} {K : PySem.W.Frag} {A : AS} {H H' : Hp} {v : V} (h : isB Q b ρ) (r : RepB K A H H' b v) : ∃ k, v = .bl k ∧ Q k ρ := by
  unfold isB at h
  split at h
  · rename_i k'
    have r' : Rep K A H' (.bl k') v := r
    exact ⟨k', by simpa only [Rep] using r', h⟩
  · exact h.elim
theorem rep_bl {K : PySem.W.Frag} {A : AS} {H H' : Hp} {k : Bool} : RepB K A H H' (.pu (.bl k)) (.bl k) := by
  show Rep K A H' (.bl k) (.bl k)
  simp only [Rep]
theorem pu_one {op} (h : PU X a ta) : PU X (.BoolOp op [a] pos) ta := pe_one h
theorem pu_and (ha : PU X a ta) (hb : PU X (.BoolOp .And (b :: rest) pos) tb) : PU X (.BoolOp .And (a :: b :: rest) pos) (uAndV ta tb) :=
  PEimp (pe_and ha hb) fun σ H Q ⟨C, ρ, Q0, I, h, k⟩ => ⟨C, ρ, _, I, h, fun x ρ1 v H1 q f s r => by
    obtain ⟨c, rfl, q⟩ := isB_inv q r
    refine ⟨c, rfl, ?_⟩
    cases c with
    | true =>
      rw [if_pos rfl] at q ⊢
      exact ⟨C, ρ1, Q0, (I.frz f).same s, q, fun b ρ2 v H2 q2 f2 s2 r2 => k b ρ2 v H2 q2 (f.trans f2) (s.trans s2) (r2.from s)⟩
    | false =>
      rw [if_neg Bool.false_ne_true] at q ⊢
      exact k _ _ _ _ q f s rep_bl⟩
theorem pu_or (ha : PU X a ta) (hb : PU X (.BoolOp .Or (b :: rest) pos) tb) : PU X (.BoolOp .Or (a :: b :: rest) pos) (uOrV ta tb) :=
  PEimp (pe_or ha hb) fun σ H Q ⟨C, ρ, Q0, I, h, k⟩ => ⟨C, ρ, _, I, h, fun x ρ1 v H1 q f s r => by
    obtain ⟨c, rfl, q⟩ := isB_inv q r
    refine ⟨c, rfl, ?_⟩
    cases c with
    | true =>
      rw [if_pos rfl] at q ⊢
      exact k _ _ _ _ q f s rep_bl
    | false =>
      rw [if_neg Bool.false_ne_true] at q ⊢
      exact ⟨C, ρ1, Q0, (I.frz f).same s, q, fun b ρ2 v H2 q2 f2 s2 r2 => k b ρ2 v H2 q2 (f.trans f2) (s.trans s2) (r2.from s)⟩⟩
theorem pu_not (ha : PU X a ta) : PU X (.UnaryOp .Not a pos) (uNotV ta) :=
  PEimp (pe_not ha) fun σ H Q ⟨C, ρ, Q0, I, h, k⟩ => ⟨C, ρ, _, I, h, fun x ρ1 v H1 q f s r => by
    obtain ⟨c, rfl, q⟩ := isB_inv q r
    exact ⟨c, rfl, k _ _ _ _ q f s rep_bl⟩⟩
def uIf (t : UT) (ta tb : UE) : UE := fun ρ Q => t ρ fun c ρ1 => if c = true then ta ρ1 Q else tb ρ1 Q
theorem pu_ifExp (hc : PUT X c tA) (ha : PU X a ta) (hb : PU X b tb) : PU X (.IfExp c a b pos) (uIf tA ta tb) :=
  PEimp (pe_ifExp hc ha hb) fun σ H Q ⟨C, ρ, Q0, I, h, k⟩ => ⟨C, ρ, _, I, h, fun c ρ1 H1 q f s => by
    have I1 := (I.frz f).same s
    cases c with
    | true =>
      dsimp only at q ⊢
      rw [if_pos rfl] at q ⊢
      exact ⟨C, ρ1, Q0, I1, q, fun b ρ2 v H2 q2 f2 s2 r2 => k b ρ2 v H2 q2 (f.trans f2) (s.trans s2) (r2.from s)⟩
    | false =>
      dsimp only at q ⊢
      rw [if_neg Bool.false_ne_true] at q ⊢
      exact ⟨C, ρ1, Q0, I1, q, fun b ρ2 v H2 q2 f2 s2 r2 => k b ρ2 v H2 q2 (f.trans f2) (s.trans s2) (r2.from s)⟩⟩

/-! ### lists of arguments, displays, calls -/
def uNil : UA := fun ρ Q => Q [] ρ
def uCons (t : UE) (u : UA) : UA := fun ρ Q => t ρ fun x ρ1 => u ρ1 fun xs ρ2 => Q (x.d :: xs) ρ2
theorem pua_nil : PUA X [] uNil := PAimp pa_nil fun σ H Q ⟨C, ρ, Q0, I, h, k⟩ => k [] ρ [] H h (.refl _) (.refl _) .nil
theorem pua_cons {t : UA} (ha : PU X e ta) (hr : PUA X es t) (hs : starEach (e :: es) X.env = (false, eval e X.env) :: starEach es X.env := by rfl) : PUA X (e :: es) (uCons ta t) :=
  PAimp (pa_cons ha hr hs) fun σ H Q ⟨C, ρ, Q0, I, h, k⟩ => ⟨C, ρ, _, I, h, fun x ρ1 v H1 q1 f1 s1 r1 => by
    have I1 := (I.frz f1).same s1
    refine ⟨C, ρ1, _, I1, q1, fun xs ρ2 vs H2 q2 f2 s2 r2 => ?_⟩
    exact k _ ρ2 _ H2 q2 (f1.trans f2) (s1.trans s2) (.cons ((r1.rep fun a z => I.avF f1 z).mono (.sub s2 fun a => f2.av)) r2)⟩
def uTup (t : UA) : UE := fun ρ Q => t ρ fun l ρ1 => l.length ≤ sizeLine ∧ Q (.pu (.tup l)) ρ1
def uLst (t : UA) : UE := fun ρ Q => t ρ fun l ρ1 => l.length ≤ sizeLine ∧ Q (.ow l) ρ1
theorem same_new {H : Hp} {p : Addr} (h : H p = none) (o : HO) : Same H (upd H p o) := fun b u q => by rw [upd_ne (ne_of_none q h)]; exact q
theorem rep_new_tup {K : PySem.W.Frag} {A : AS} {H : Hp} {p : Addr} {l : List D} {vs : List V} (hA : ∀ a, A a → H a ≠ none) (n : H p = none) (r : RepL K A H l vs) : Rep K A (upd H p (.tup vs)) (.tup l) (.ref p) := by
  simp only [Rep]
  exact ⟨p, vs, rfl, .inl ⟨fun z => hA p z n, .inl upd_same⟩, r.mono (.same (same_new n _))⟩
theorem rep_new_lst {K : PySem.W.Frag} {A : AS} {H H0 : Hp} {p : Addr} {l : List D} {vs : List V} (s : Same H0 H) (n : H p = none) (r : RepL K A H l vs) : RepB K A H0 (upd H p (.lst vs)) (.ow l) (.ref p) :=
  ⟨p, vs, rfl, s.free n, upd_same, r.mono (.fresh (same_new n _) n)⟩
theorem pu_tup {t : UA} {x1} (h : PUA X es t) : PU X (.Tuple es x1 pos) (uTup t) :=
  PEimp (pe_tup h) fun σ H Q ⟨C, ρ, Q0, I, h, k⟩ => ⟨C, ρ, _, I, h, fun l ρ1 vs H1 q f s r => by
    obtain ⟨hz, q⟩ := q
    refine ⟨by rw [← r.length]; exact hz, fun p n => ?_⟩
    have I1 := (I.frz f).same s
    exact k _ ρ1 _ _ q f (s.trans (same_new n _)) (rep_new_tup (fun a z => I1.avSome z) n r)⟩
theorem pu_lst {t : UA} (h : PUA X es t) : PU X (.List es pos) (uLst t) :=
  PEimp (pe_lst h) fun σ H Q ⟨C, ρ, Q0, I, h, k⟩ => ⟨C, ρ, _, I, h, fun l ρ1 vs H1 q f s r => by
    obtain ⟨hz, q⟩ := q
    refine ⟨by rw [← r.length]; exact hz, fun p n => ?_⟩
    exact k _ ρ1 _ _ q f (s.trans (same_new n _)) (rep_new_lst s n r)⟩

/-! a def's promise over data -/
abbrev Φ := List D → (B → Prop) → Prop
def spP (K : PySem.W.Frag) (φ : Φ) : Sp := fun vs H Q _ => ∃ A ds Q0, (∀ a, A a → H a ≠ none) ∧ RepL K A H ds vs ∧ φ ds Q0 ∧ ∀ b v H', Q0 b → Same H H' → RepB K A H H' b v → Q v H'
def uCall (φ : Φ) (t : UA) : UE := fun ρ Q => t ρ fun ds ρ1 => φ ds fun b => Q b ρ1
theorem lCall {φ : Φ} {t : UA} {E : XK} (σ : L2.St) (H : Hp) (Q : VK) (h : lE X.K (uCall φ t) σ H Q) : tCall (spP X.K φ) [] E (lA X.K t) σ H Q := by
  obtain ⟨C, ρ, Q0, I, h, k⟩ := h
  refine ⟨C, ρ, _, I, h, fun ds ρ1 vs H1 q f s r => ?_⟩
  have I1 := (I.frz f).same s
  show spP X.K φ (vs ++ []) H1 Q E
  rw [List.append_nil]
  exact ⟨Av C ρ1 σ, ds, _, fun a z => I1.avSome z, r, q, fun b v H' q' s' r' => k b ρ1 v H' q' f (s.trans s') (r'.from s)⟩
theorem pu_call {CX : CXT} {k : Nat} {f : Addr} {fd : FuncData} {ps : List Str} {φ : Φ} {E : XK} {x : Str} {p : Pos} {t : UA} (F : FnOk X.prog X.w X.K X.mg X.base CX k f fd ps (spP X.K φ)) (hr : Room k X.A) (hg : Gl X x) (hm : X.mg x = some (.ref f))
    (hk : PySem.W.keepIn X.K (.ref f) = true) (hb : Binds X.K fd ps []) (hx : Passes CX X E) (ha : PUA X (e :: es) t) (hdb : (x == ("__debug__" : Str)) = false := by decide) (he : starEach (e :: es) X.env = (false, eval e X.env) :: starEach es X.env := by rfl)
    (hpl : (backTo pos (starEach es X.env)).any (·.1) = false := by rfl) : PU X (.Call (.Name x p) (e :: es) [] pos) (uCall φ t) :=
  PEimp (pe_call F hr hg hm hk hb .nil hx ha hdb he hpl) lCall
theorem pu_call0 {CX : CXT} {k : Nat} {f : Addr} {fd : FuncData} {ps : List Str} {φ : Φ} {E : XK} {x : Str} {p : Pos} (F : FnOk X.prog X.w X.K X.mg X.base CX k f fd ps (spP X.K φ)) (hr : Room k X.A) (hg : Gl X x) (hm : X.mg x = some (.ref f))
    (hk : PySem.W.keepIn X.K (.ref f) = true) (hb : Binds X.K fd ps []) (hx : Passes CX X E) (hdb : (x == ("__debug__" : Str)) = false := by decide) : PU X (.Call (.Name x p) [] [] pos) (uCall φ uNil) :=
  PEimp (pe_call0 F hr hg hm hk hb .nil hx hdb) fun σ H Q ⟨C, ρ, Q0, I, h, k⟩ => ⟨Av C ρ σ, [], _, fun a z => I.avSome z, .nil, h, fun b v H' q' s' r' => k b ρ v H' q' (.refl _) s' r'⟩

/-- a built-in over values -/
def CallU (X : Cx) (f : Value) (g : List D → (B → Prop) → Prop) : Prop :=
  ∀ (A : AS) (H : Hp) (ds : List D) (vs : List V) (Q0 : B → Prop) (Q : VK), (∀ a, A a → H a ≠ none) → RepL X.K A H ds vs → g ds Q0 →
    (∀ b v' H', Q0 b → Same H H' → RepB X.K A H H' b v' → Q v' H') → ∃ r, CallR X f r ∧ r vs H Q
theorem callAny {f : Value} : CallR X f (fun xs H Q => ∃ r, CallR X f r ∧ r xs H Q) := fun pins s σ H xs us Q I rx ⟨r, hr, q⟩ => hr pins s σ H xs us Q I rx q
theorem lCB {f : Value} {g : List D → (B → Prop) → Prop} {t : UA} (hc : CallU X f g) (σ : L2.St) (H : Hp) (Q : VK) (h : lE X.K (uCall g t) σ H Q) : tCB (fun xs H Q => ∃ r, CallR X f r ∧ r xs H Q) (lA X.K t) σ H Q := by
  obtain ⟨C, ρ, Q0, I, h, k⟩ := h
  refine ⟨C, ρ, _, I, h, fun ds ρ1 vs H1 q f s r => ?_⟩
  have I1 := (I.frz f).same s
  exact hc (Av C ρ1 σ) H1 ds vs _ Q (fun a z => I1.avSome z) r q fun b v H' q' s' r' => k b ρ1 v H' q' f (s.trans s') (r'.from s)
theorem pu_callB {id : String} {g : List D → (B → Prop) → Prop} {x : Str} {p : Pos} {t : UA} (hc : CallU X (.builtin id) g) (hg : Gl X x) (hm : X.mg x = none) (hv : bootBuiltins x = some (.builtin id)) (ha : PUA X (e :: es) t) (hn : x ≠ "__name__" := by decide) (hdb : (x == ("__debug__" : Str)) = false := by decide)
    (he : starEach (e :: es) X.env = (false, eval e X.env) :: starEach es X.env := by rfl) (hpl : (backTo pos (starEach es X.env)).any (·.1) = false := by rfl) : PU X (.Call (.Name x p) (e :: es) [] pos) (uCall g t) :=
  PEimp (pe_callB callAny hg hm hv ha hn hdb he hpl) (lCB hc)
theorem pu_callTy {T : String} {g : List D → (B → Prop) → Prop} {x : Str} {p : Pos} {t : UA} (hc : CallU X (.type T) g) (hg : Gl X x) (hm : X.mg x = none) (hv : bootBuiltins x = some (.type T)) (ha : PUA X (e :: es) t) (hn : x ≠ "__name__" := by decide) (hdb : (x == ("__debug__" : Str)) = false := by decide)
    (he : starEach (e :: es) X.env = (false, eval e X.env) :: starEach es X.env := by rfl) (hpl : (backTo pos (starEach es X.env)).any (·.1) = false := by rfl) : PU X (.Call (.Name x p) (e :: es) [] pos) (uCall g t) :=
  PEimp (pe_callTy callAny hg hm hv ha hn hdb he hpl) (lCB hc)
end
end M

end
section
set_option Elab.async false
set_option linter.all false
set_option maxRecDepth 100000
namespace M
open PySem PySem.Spec PyProof.Rows L2

/-! ### statements -/
structure UD where
  nx : Ev → Prop
  rt : B → Prop
  bk : Ev → Prop := fun _ => False
  ct : Ev → Prop := fun _ => False
abbrev US := UD → Ev → Prop
structure DOk (K : PySem.W.Frag) (C : C0) (D0 : UD) (D : Ends) : Prop where
  nx : ∀ ρ σ H, D0.nx ρ → EOk K C ρ σ H → D.nx σ H
  rt : ∀ b v H, D0.rt b → Same C.H0 H → RepB K C.A0 C.H0 H b v → D.rt v H
  bk : ∀ ρ σ H, D0.bk ρ → EOk K C ρ σ H → D.bk σ H
  ct : ∀ ρ σ H, D0.ct ρ → EOk K C ρ σ H → D.ct σ H
def lS (K : PySem.W.Frag) (t : US) : TS := fun D σ H => ∃ C ρ D0, EOk K C ρ σ H ∧ t D0 ρ ∧ DOk K C D0 D
def PUS (X : Cx) (st : Stmt) (t : US) : Prop := PS X st (lS X.K t)
def PUSs (X : Cx) (sts : List Stmt) (t : US) : Prop := PSs X sts (lS X.K t)
theorem PSimp {X : Cx} {st : Stmt} {t t' : TS} (h : PS X st t) (i : ∀ D σ H, t' D σ H → t D σ H) : PS X st t' := fun pins s σ H D I q => h pins s σ H D I (i D σ H q)
theorem PSsimp {X : Cx} {st : List Stmt} {t t' : TS} (h : PSs X st t) (i : ∀ D σ H, t' D σ H → t D σ H) : PSs X st t' := fun pins s σ H D I q => h pins s σ H D I (i D σ H q)

section
variable {X : Cx} {st : Stmt} {sts : List Stmt} {e : Expr} {pos : Pos} {t u : US} {te : UE} {tc : UT} {K : PySem.W.Frag}
def uNext : US := fun D ρ => D.nx ρ
def uSeq (t u : US) : US := fun D ρ => t { D with nx := u D } ρ
theorem us_nil : PUSs X [] uNext := PSsimp pss_nil fun D σ H ⟨C, ρ, D0, I, h, k⟩ => k.nx ρ σ H h I
theorem us_cons (h1 : PUS X st t) (h2 : PUSs X sts u) : PUSs X (st :: sts) (uSeq t u) :=
  PSsimp (pss_cons h1 h2) fun D σ H ⟨C, ρ, D0, I, h, k⟩ => ⟨C, ρ, { D0 with nx := u D0 }, I, h, ⟨fun ρ' σ' H' q I' => ⟨C, ρ', D0, I', q, k⟩, k.rt, k.bk, k.ct⟩⟩
theorem us_one (h1 : PUS X st t) : PUSs X [st] t := pss_one h1
theorem us_pass : PUS X (.Pass pos) uNext := PSimp ps_pass fun D σ H ⟨C, ρ, D0, I, h, k⟩ => k.nx ρ σ H h I
theorem us_doc {x j pos pos'} : PUS X (.Expr (.Constant (.str x) j pos) pos') uNext := PSimp ps_doc fun D σ H ⟨C, ρ, D0, I, h, k⟩ => k.nx ρ σ H h I
def uBrk : US := fun D ρ => D.bk ρ
def uCnt : US := fun D ρ => D.ct ρ
theorem us_break : PUS X (.Break pos) uBrk := PSimp ps_break fun D σ H ⟨C, ρ, D0, I, h, k⟩ => k.bk ρ σ H h I
theorem us_continue : PUS X (.Continue pos) uCnt := PSimp ps_continue fun D σ H ⟨C, ρ, D0, I, h, k⟩ => k.ct ρ σ H h I
/-- return -/
def uRet (t : UE) : US := fun D ρ => t ρ fun b _ => D.rt b
theorem RepB.back {A A' : AS} {H0 H H' : Hp} (s : Same H0 H) (h : ∀ a, A' a → A a) : ∀ {b : B} {v : V}, RepB K A H H' b v → RepB K A' H0 H' b v
  | .pu _, _, r => Rep.mono (.sub (.refl _) h) r
  | .ow _, _, ⟨a, vs, e, n, h1, r⟩ => ⟨a, vs, e, s.free n, h1, r.mono (fun b o nb q => ⟨fun z => nb (z.imp (h b) id), q⟩)⟩
  | .bo _, _, r => r.elim
theorem us_ret (he : PU X e te) : PUS X (.Return (some e) pos) (uRet te) :=
  PSimp (ps_ret he) fun D σ H ⟨C, ρ, D0, I, h, k⟩ => ⟨C, ρ, _, I, h, fun b ρ' v H' q f s r => k.rt b v H' q (I.ext.trans s) (r.back I.ext fun a z => .inl z)⟩
def uRetN : US := fun D _ => D.rt (.pu .non)
theorem us_retN : PUS X (.Return none pos) uRetN := PSimp ps_retN fun D σ H ⟨C, ρ, D0, I, h, k⟩ => k.rt _ _ H h I.ext (show Rep _ _ _ _ _ by simp only [Rep])
/-- return of a name: a list of one's own goes to the caller -/
def uRetV (i : Nat) : US := fun D ρ => match ρ[i]? with
  | some (some (.pu d)) => D.rt (.pu d)
  | some (some (.ow l)) => D.rt (.ow l)
  | _ => False
theorem us_retV (i : Nat) {x : Str} {p : Pos} (h : PE X (.Name x p) (tVar i)) : PUS X (.Return (some (.Name x p)) pos) (uRetV i) :=
  PSimp (ps_ret h) fun D σ H ⟨C, ρ, D0, I, h, k⟩ => by
    unfold uRetV at h
    split at h
    · rename_i d e
      obtain ⟨v, h1, h2⟩ := I.pu i d e
      exact ⟨v, h1, k.rt _ v H h I.ext (Rep.mono (.sub (.refl _) fun a z => .inl z) h2)⟩
    · rename_i l e
      obtain ⟨a, vs, h1, h2, h3, h4⟩ := I.ow i l e
      refine ⟨_, h1, k.rt _ _ H h I.ext ⟨a, vs, rfl, h3, h2, h4.mono (fun b o nb q => ⟨fun z => nb (z.elim .inl fun z => .inr ?_), q⟩)⟩⟩
      subst z
      exact ⟨i, l, e, h1⟩
    · exact h.elim
def uIfS (c : UT) (t u : US) : US := fun D ρ => c ρ fun b ρ1 => if b = true then t D ρ1 else u D ρ1
theorem us_if {c : Expr} {a b : List Stmt} (hc : PUT X c tc) (ha : PUSs X a t) (hb : PUSs X b u) : PUS X (.If c a b pos) (uIfS tc t u) :=
  PSimp (ps_if hc ha hb) fun D σ H ⟨C, ρ, D0, I, h, k⟩ => ⟨C, ρ, _, I, h, fun c ρ1 H1 q f s => by
    have I1 := (I.frz f).same s
    cases c with
    | true =>
      dsimp only at q ⊢
      rw [if_pos rfl] at q ⊢
      exact ⟨C, ρ1, D0, I1, q, k⟩
    | false =>
      dsimp only at q ⊢
      rw [if_neg Bool.false_ne_true] at q ⊢
      exact ⟨C, ρ1, D0, I1, q, k⟩⟩
theorem us_never : PUS X st (fun _ _ => False) := PSimp ps_never fun D σ H ⟨C, ρ, D0, I, h, k⟩ => h

/-! targets -/
abbrev UG := B → Ev → (Ev → Prop) → Prop
def lG (K : PySem.W.Frag) (T : List Nat) (g : UG) : TG := fun v σ H Q => ∃ C ρ b H00 Q0, EOk K C ρ σ H00 ∧ Same H00 H ∧ RepB K (Av C ρ σ) H00 H b v ∧ g b ρ Q0 ∧ ∀ ρ' σ' H', Q0 ρ' → EOk K C ρ' σ' H' → (∀ j : Nat, j ∉ T → σ'[j]? = σ[j]?) → Q σ' H'
def PUG (X : Cx) (e : Expr) (T : List Nat) (g : UG) : Prop := PG X e (lG X.K T g)
theorem PGimp {t t' : TG} (h : PG X e t) (i : ∀ v σ H Q, t' v σ H Q → t v σ H Q) : PG X e t' := fun pins s σ H v u Q I r q => h pins s σ H v u Q I r (i v σ H Q q)
def uName (i : Nat) : UG := fun b ρ Q => i < ρ.length ∧ Q (ρ.set i (some b))
theorem ug_name (i : Nat) (h : PG X e (gName i)) : PUG X e [i] (uName i) := PGimp h fun v σ H Q ⟨C, ρ, b, H00, Q0, I, s, r, ⟨hi, q⟩, k⟩ =>
  k _ _ _ q (I.store s r (by rw [← I.len]; exact hi)) fun j hj => get_set_ne fun z => hj (by simp [z])
abbrev UGs := List D → Ev → (Ev → Prop) → Prop
def lGs (K : PySem.W.Frag) (T : List Nat) (g : UGs) : TGs := fun vs σ H Q => ∃ C ρ ds Q0, EOk K C ρ σ H ∧ RepL K (Av C ρ σ) H ds vs ∧ g ds ρ Q0 ∧ ∀ ρ' σ' H', Q0 ρ' → EOk K C ρ' σ' H' → (∀ j : Nat, j ∉ T → σ'[j]? = σ[j]?) → Q σ' H'
def PUGs (X : Cx) (es : List Expr) (T : List Nat) (g : UGs) : Prop := PGs X es (lGs X.K T g)
def uGNil : UGs := fun ds ρ Q => ds = [] ∧ Q ρ
theorem Av.store_pu {C : C0} {ρ : Ev} {σ : L2.St} {i : Nat} {d : D} {v : V} {a : Addr} (h : Av C (ρ.set i (some (.pu d))) (σ.set i (some v)) a) : Av C ρ σ a := by
  rcases h with z | ⟨j, l, h1, h2⟩
  · exact .inl z
  · rcases get_set_cases h1 with ⟨rfl, h3, _⟩ | ⟨ne, h3⟩
    · cases h3
    · rw [get_set_ne ne] at h2
      exact .inr ⟨j, l, h3, h2⟩
theorem PGsimp {es : List Expr} {t t' : TGs} (h : PGs X es t) (i : ∀ v σ H Q, t' v σ H Q → t v σ H Q) : PGs X es t' := fun pins s σ H v u Q I r q => h pins s σ H v u Q I r (i v σ H Q q)
theorem ugs_nil : PUGs X [] [] uGNil := PGsimp pgs_nil fun vs σ H Q ⟨C, ρ, ds, Q0, I, r, ⟨e, q⟩, k⟩ => by
  subst e
  exact ⟨r.unnil, k ρ σ H q I fun _ _ => rfl⟩
def uGCons (i : Nat) (u : UGs) : UGs := fun ds ρ Q => match ds with
  | d :: r => i < ρ.length ∧ u r (ρ.set i (some (.pu d))) Q
  | [] => False
theorem ugs_cons {es : List Expr} {u : UGs} {T : List Nat} (i : Nat) (h1 : PG X e (gName i)) (h2 : PUGs X es T u)
    (hs : (assignEach (e :: es) X.env).map (·.2) = assign e X.env :: (assignEach es X.env).map (·.2) := by rfl) : PUGs X (e :: es) (i :: T) (uGCons i u) :=
  PGsimp (pgs_cons h1 h2 hs) fun vs σ H Q ⟨C, ρ, ds, Q0, I, r, g, k⟩ => by
    cases ds with
    | nil => exact (show False from g).elim
    | cons d dr =>
      obtain ⟨hi, g⟩ : i < ρ.length ∧ u dr (ρ.set i (some (.pu d))) Q0 := g
      obtain ⟨v, vr, rfl, rv, rr⟩ := r.uncons
      have I1 : EOk X.K C (ρ.set i (some (.pu d))) (σ.set i (some v)) H := I.store (b := .pu d) (.refl _) rv (by rw [← I.len]; exact hi)
      exact ⟨v, vr, rfl, C, _, dr, Q0, I1, rr.mono (.sub (.refl _) fun a z => Av.store_pu z), g, fun ρ' σ' H' q I' hT => k ρ' σ' H' q I' fun j hj => (hT j fun z => hj (List.mem_cons_of_mem _ z)).trans (get_set_ne fun z => hj (by simp [z]))⟩
def uTupG (u : UGs) : UG := fun b ρ Q => match b.d with
  | .tup ds => u ds ρ Q
  | _ => False
theorem ug_tup {es : List Expr} {u : UGs} {T : List Nat} {n k : Nat} (hc : X.calm = true) (h : PUGs X es T u) (hu : ∀ ds ρ Q, u ds ρ Q → ds.length = n)
    (hn : (assignEach es X.env).length = n := by rfl) (hst : (assignEach es X.env).findIdx? (·.1) = none := by rfl) : PUG X (.Tuple es k pos) T (uTupG u) :=
  PGimp (pg_tup hc h hn hst) fun v σ H Q ⟨C, ρ, b, H00, Q0, I, s, r, g, k⟩ => by
    have R := r.rep fun a z => I.avSome z
    unfold uTupG at g
    split at g
    · rename_i ds e
      rw [e] at R
      simp only [Rep] at R
      obtain ⟨a, vs, rfl, c, rs⟩ := R
      exact ⟨a, vs, rfl, c.imp And.right id, by rw [← rs.length]; exact hu _ _ _ g, C, ρ, ds, Q0, I.same s, rs, g, k⟩
    · exact g.elim
def uAsg (t : UE) (g : UG) : US := fun D ρ => t ρ fun b ρ1 => g b ρ1 D.nx
theorem us_asg {tg : Expr} {g : UG} {T : List Nat} (he : PU X e te) (hg : PUG X tg T g) (hs : swapsWithSole [tg] e pos.line X.env = pure false := by rfl) (hw : swappedStores [tg] e X.env = pure none := by rfl)
    (h1 : (assignEach [tg] X.env).map (·.2) = [assign tg X.env] := by rfl) : PUS X (.Assign [tg] e pos) (uAsg te g) :=
  PSimp (ps_asg he hg hs hw h1) fun D σ H ⟨C, ρ, D0, I, h, k⟩ => ⟨C, ρ, _, I, h, fun b ρ1 v H1 q f s r => ⟨C, ρ1, b, H, D0.nx, I.frz f, s, r, q, fun ρ' σ' H' q I' _ => k.nx ρ' σ' H' q I'⟩⟩
/-- x = e -/
def uSet (i : Nat) (t : UE) : US := fun D ρ => t ρ fun b ρ1 => D.nx (ρ1.set i (some b))
theorem us_set {x : Str} {pos' : Pos} (i : Nat) (hN : X.N.Nodup) (hi : X.N[i]? = some x) (hx : Loc X.env.scope x) (he : PU X e te) (hs : swapsWith e (some (.Name x pos')) pos.line X.env = pure false := by rfl) (hf : X.fn x = true ∨ X.env.scope.names.lookup x = some .local := by first | exact .inl rfl | exact .inr rfl | assumption)
    (hl : ∀ pins σ H s, Inv X pins σ H s → i < σ.length := by intro pins σ H s I; rw [I.len]; decide) : PUS X (.Assign [.Name x pos'] e pos) (uSet i te) := by
  intro pins s σ H D I q
  refine ps_set hN hi hx he hs hf pins s σ H D I ?_
  obtain ⟨C, ρ, D0, J, h, k⟩ := q
  exact ⟨C, ρ, _, J, h, fun b ρ1 v H1 q f s1 r => k.nx _ _ _ q ((J.frz f).store s1 r (hl pins σ H s I))⟩
/-- x, y = a, b -/
def uPar (i j : Nat) (ta : UA) : US := fun D ρ => ta ρ fun ds ρ1 => match ds with
  | [d, d'] => D.nx ((ρ1.set i (some (.pu d))).set j (some (.pu d')))
  | _ => False
theorem us_par {x y : Str} {a b : Expr} {ta : UA} {px py pt : Pos} {kt k2 pt2} (i j : Nat) (hc : X.calm = true) (hN : X.N.Nodup) (hi : X.N[i]? = some x) (hj : X.N[j]? = some y) (hij : i ≠ j)
    (hx : X.env.scope.names.lookup x = some .local) (hy : X.env.scope.names.lookup y = some .local) (ha : PUA X [a, b] ta)
    (hw : swappedStores [.Tuple [.Name x px, .Name y py] kt pt] (.Tuple [a, b] k2 pt2) X.env = pure (some [x, y]))
    (hs : swapsWithSole [.Tuple [.Name x px, .Name y py] kt pt] (.Tuple [a, b] k2 pt2) pos.line X.env = pure false := by rfl)
    (hl : ∀ pins σ H s, Inv X pins σ H s → i < σ.length ∧ j < σ.length := by intro pins σ H s I; rw [I.len]; decide) :
    PUS X (.Assign [.Tuple [.Name x px, .Name y py] kt pt] (.Tuple [a, b] k2 pt2) pos) (uPar i j ta) := by
  intro pins s σ H D I q
  refine ps_par hc hN hi hj hij hx hy ha hw hs pins s σ H D I ?_
  obtain ⟨C, ρ, D0, J, h, k⟩ := q
  obtain ⟨l1, l2⟩ := hl pins σ H s I
  refine ⟨C, ρ, _, J, h, fun ds ρ1 vs H1 q f s1 r => ?_⟩
  split at q
  · rename_i d d'
    obtain ⟨v, vr, rfl, rv, rr⟩ := r.uncons
    obtain ⟨w, wr, rfl, rw', rr'⟩ := rr.uncons
    have e := rr'.unnil
    subst e
    have J1 : EOk X.K C (ρ1.set i (some (.pu d))) (σ.set i (some v)) H1 := ((J.frz f).same s1).store (b := .pu d) (.refl _) rv l1
    have J2 : EOk X.K C ((ρ1.set i (some (.pu d))).set j (some (.pu d'))) ((σ.set i (some v)).set j (some w)) H1 := J1.store (b := .pu d') (.refl _) (Rep.mono (.sub (.refl _) fun a z => Av.store_pu z) rw') (by rw [List.length_set]; exact l2)
    exact ⟨v, w, rfl, k.nx _ _ _ q J2⟩
  · exact q.elim
/-- x op= e -/
def IpU (X : Cx) (op : Operator) (g : D → D → (B → Prop) → Prop) : Prop :=
  ∀ (A : AS) (H : Hp) (d e : D) (v w : V) (Q0 : B → Prop) (Q : VK), (∀ a, A a → H a ≠ none) → Rep X.K A H d v → Rep X.K A H e w → g d e Q0 →
    (∀ b v' H', Q0 b → Same H H' → RepB X.K A H H' b v' → Q v' H') → ∃ r, PIp X op r ∧ r v w H Q
theorem ipAny {op : Operator} : PIp X op (fun x y H Q => ∃ r, PIp X op r ∧ r x y H Q) := fun pins s σ H x y v u Q I rx ry ⟨r, hr, q⟩ => hr pins s σ H x y v u Q I rx ry q
def uAug (i : Nat) (g : D → D → (B → Prop) → Prop) (te : UE) : US := fun D ρ => slotE ρ i fun x ρ0 => te ρ0 fun y ρ1 => g x.d y.d fun b => D.nx (ρ1.set i (some b))
theorem us_aug {x : Str} {pos' : Pos} {op : Operator} {g : D → D → (B → Prop) → Prop} (i : Nat) (hN : X.N.Nodup) (hi : X.N[i]? = some x) (hx : Loc X.env.scope x) (he : PU X e te) (ho : IpU X op g) (hf : X.fn x = true ∨ X.env.scope.names.lookup x = some .local := by first | exact .inl rfl | exact .inr rfl | assumption)
    (hl : ∀ pins σ H s, Inv X pins σ H s → i < σ.length := by intro pins σ H s I; rw [I.len]; decide) : PUS X (.AugAssign (.Name x pos') op e pos) (uAug i g te) := by
  intro pins s σ H D I q
  refine ps_aug hN hi hx he ipAny hf pins s σ H D I ?_
  obtain ⟨C, ρ, D0, J, h, k⟩ := q
  have go : ∀ (d : M.D) (ρ0 : Ev) (v : V), Frz ρ ρ0 → σ[i]? = some (some v) → Rep X.K (Av C ρ0 σ) H d v → (te ρ0 fun y ρ1 => g d y.d fun b => D0.nx (ρ1.set i (some b))) →
      tAug i (lE X.K te) (fun x y H Q => ∃ r, PIp X op r ∧ r x y H Q) D σ H := fun d ρ0 v f0 h1 r0 h => by
    have J0 := J.frz f0
    refine ⟨v, h1, C, ρ0, _, J0, h, fun y ρ1 w H1 q1 f1 s1 r1 => ?_⟩
    have J1 := (J0.frz f1).same s1
    refine ho (Av C ρ1 σ) H1 d y.d v w _ _ (fun a z => J1.avSome z) (r0.mono (.sub s1 fun a => f1.av)) (r1.rep fun a z => J0.avF f1 z) q1 fun b v' H' q s r => ?_
    exact k.nx _ _ _ q (J1.store s r (hl pins σ _ _ I))
  unfold uAug slotE at h
  split at h
  · rename_i d e
    obtain ⟨v, h1, h2⟩ := J.pu i d e
    exact go d ρ v (.refl _) h1 h2 h
  · rename_i l e
    obtain ⟨_, _, v, h1, h2⟩ := J.freeze e
    exact go (.lst l) _ v (.set e) h1 h2 h
  · exact h.elim
/-! while -/
def uWhile (c : UT) (tb : US) : US := fun D ρ => ∃ W : Nat → Ev → Prop, (∃ m, W m ρ) ∧ ∀ m ρ, W m ρ →
  c ρ fun b ρ1 => if b = true then tb { D with nx := fun ρ' => ∃ m', m' < m ∧ W m' ρ', ct := fun ρ' => ∃ m', m' < m ∧ W m' ρ', bk := D.nx } ρ1 else D.nx ρ1
theorem us_while {c : Expr} {body : List Stmt} {tb : US} (hp : PassesOwn (model X.prog X.w) X.A X.env X.xe) (hc : PUT X c tc) (hb : PUSs X body tb) : PUS X (.While c body [] pos) (uWhile tc tb) :=
  PSimp (ps_while hp hc hb) fun D σ H ⟨C, ρ, D0, I, ⟨W, ⟨m0, w0⟩, turn⟩, k⟩ => by
    refine ⟨fun m σ H => ∃ ρ, EOk X.K C ρ σ H ∧ W m ρ, ⟨m0, ρ, I, w0⟩, ?_⟩
    rintro m σ H ⟨ρ, I, w⟩
    refine ⟨C, ρ, _, I, turn m ρ w, fun b ρ1 H1 q f s => ?_⟩
    have I1 := (I.frz f).same s
    cases b with
    | true =>
      dsimp only at q ⊢
      rw [if_pos rfl] at q ⊢
      refine ⟨fun σ' H' => ∃ m', m' < m ∧ ∃ ρ', EOk X.K C ρ' σ' H' ∧ W m' ρ', fun σ' H' z => z, C, ρ1, _, I1, q, ⟨?_, k.rt, k.nx, ?_⟩⟩
      · rintro ρ' σ' H' ⟨m', hm, w'⟩ I'
        exact ⟨m', hm, ρ', I', w'⟩
      · rintro ρ' σ' H' ⟨m', hm, w'⟩ I'
        exact ⟨m', hm, ρ', I', w'⟩
    | false =>
      dsimp only at q ⊢
      rw [if_neg Bool.false_ne_true] at q ⊢
      exact k.nx _ _ _ q I1
end
end M

end
section
set_option Elab.async false
set_option linter.all false
set_option maxRecDepth 100000
namespace M
open PySem PySem.Spec PyProof.Rows L2

/-! ### for -/
abbrev UI := Ev → (Nat → (Nat → D) → Ev → Prop) → Prop
structure ItOk (K : PySem.W.Frag) (A : AS) (H : Hp) (J : It) (n : Nat) (it : Nat → D) : Prop where
  go : ∀ A' H' i, Pres A H A' H' → i < n → J.go i H'
  yld : ∀ A' H' i x H'', Pres A H A' H' → (∀ a, A' a → H' a ≠ none) → i < n → J.yld i H' x H'' → Same H' H'' ∧ Rep K A' H'' (it i) x
  stop : ∀ A' H', Pres A H A' H' → J.stop n H'
def lI (K : PySem.W.Frag) (t : UI) : TI := fun σ H R => ∃ C ρ Q0, EOk K C ρ σ H ∧ t ρ Q0 ∧
  ∀ n it ρ' J H', Q0 n it ρ' → Frz ρ ρ' → Same H H' → ItOk K (Av C ρ' σ) H' J n it → R J H'
def PUI (X : Cx) (tg iter : Expr) (t : UI) : Prop := PI X tg iter (lI X.K t)
def uFor (ui : UI) (g : UG) (tb : US) : US := fun D ρ => ui ρ fun n it ρ1 => ∃ Pv : Nat → Ev → Prop, Pv 0 ρ1 ∧
  (∀ i ρ, i < n → Pv i ρ → g (.pu (it i)) ρ fun ρ2 => tb { D with nx := Pv (i + 1), ct := Pv (i + 1), bk := D.nx } ρ2) ∧ ∀ ρ, Pv n ρ → D.nx ρ
noncomputable def C0.rz (C : C0) (ρ : Ev) (σ : L2.St) (H : Hp) : C0 := C.raise ρ σ H fun _ => Classical.propDecidable _
section
variable {X : Cx} {e : Expr} {pos : Pos} {te : UE} {K : PySem.W.Frag} {C : C0} {ρ ρ' : Ev} {σ σ' : L2.St} {H H' : Hp}
theorem EOk.rz (I : EOk K C ρ σ H) : EOk K (C.rz ρ σ H) ρ σ H ∧ Same C.H0 (C.rz ρ σ H).H0 := I.raise
theorem rz_pres (I' : EOk K (C.rz ρ σ H) ρ' σ' H') : Pres (Av C ρ σ) H (Av (C.rz ρ σ H) ρ' σ') H' := fun b o nb e => by
  have e0 : (C.rz ρ σ H).H0 b = some o := by
    show @ite _ (Own ρ σ b) (Classical.propDecidable _) none (H b) = some o
    rw [if_neg (fun z => nb (.inr z))]
    exact e
  refine ⟨?_, I'.ext b o e0⟩
  rintro (z | ⟨i, l, h1, h2⟩)
  · exact nb (.inl z)
  · obtain ⟨a, vs, h3, h4, h5, _⟩ := I'.ow i l h1
    rw [h2] at h3; cases h3
    rw [e0] at h5; cases h5
theorem us_for {tg iter : Expr} {body : List Stmt} {ui : UI} {g : UG} {T : List Nat} {tb : US} (hp : PassesOwn (model X.prog X.w) X.A X.env X.xe) (hc : X.calm = true) (hi : PUI X tg iter ui) (hg : PUG X tg T g) (hb : PUSs X body tb)
    (hs : ∀ x, foldedSetIterable iter X.env x = pure x := by intro _; rfl) : PUS X (.For tg iter body [] pos) (uFor ui g tb) :=
  PSimp (ps_for hp hc hi hg hb hs) fun D σ H ⟨C, ρ, D0, I, h, k⟩ => ⟨C, ρ, _, I, h, fun n it ρ1 J H1 q f s ok => by
    obtain ⟨Pv, p0, turn, fin⟩ := q
    have I1 := (I.frz f).same s
    obtain ⟨Ir, sub⟩ := I1.rz
    refine ⟨fun i m σ' H' => m = n - i ∧ i ≤ n ∧ ∃ ρ', EOk X.K (C.rz ρ1 σ H1) ρ' σ' H' ∧ Pv i ρ', ⟨n, rfl, Nat.zero_le _, ρ1, Ir, p0⟩, ?_⟩
    rintro i m σ' H' ⟨rfl, hi, ρ', I', p'⟩
    have P := rz_pres I'
    have lo : ∀ ρ2 σ2 H2, EOk X.K (C.rz ρ1 σ H1) ρ2 σ2 H2 → EOk X.K C ρ2 σ2 H2 := fun ρ2 σ2 H2 J2 => J2.lower sub rfl I.a0
    by_cases hlt : i < n
    · refine .inr ⟨ok.go _ _ i P hlt, fun σ2 H2 => ∃ ρ2, EOk X.K (C.rz ρ1 σ H1) ρ2 σ2 H2 ∧ Pv (i + 1) ρ2, fun σ2 H2 z => ⟨n - (i + 1), by omega, rfl, hlt, z⟩, fun x H2 y => ?_⟩
      obtain ⟨s2, r2⟩ := ok.yld _ _ i x H2 P (fun a z => I'.avSome z) hlt y
      refine ⟨C.rz ρ1 σ H1, ρ', .pu (it i), H', _, I', s2, r2, turn i ρ' hlt p', fun ρ2 σ2 H3 q I3 _ => ⟨C.rz ρ1 σ H1, ρ2, _, I3, q, ⟨?_, ?_, ?_, ?_⟩⟩⟩
      · exact fun ρ3 σ3 H4 q I4 => ⟨ρ3, I4, q⟩
      · exact fun b v H4 q s4 r4 => k.rt b v H4 q (sub.trans s4) (r4.from sub)
      · exact fun ρ3 σ3 H4 q I4 => k.nx ρ3 σ3 H4 q (lo _ _ _ I4)
      · exact fun ρ3 σ3 H4 q I4 => ⟨ρ3, I4, q⟩
    · have e : i = n := by omega
      subst e
      exact .inl ⟨ok.stop _ _ P, k.nx _ _ _ (fin ρ' p') (lo _ _ _ I')⟩⟩

/-! what is walked -/
def seqOf : D → Option (List D)
  | .tup l => some l
  | .lst l => some l
  | .rol l => some l
  | _ => none
def uSeqI (t : UE) : UI := fun ρ Q => t ρ fun b ρ1 => match seqOf b.d with
  | some l => Q l.length (fun i => l.getD i .non) ρ1
  | none => False
theorem pi_any {l : Expr} {tl : TE} {tg : Expr} (hl : PE X l tl) : PI X tg l (fun σ H R => tl σ H fun x H1 => ∃ a, x = .ref a ∧ ((∃ xs, SqL X.K H1 a xs ∧ R (Itl X.K a) H1) ∨ ∃ xs, SqT X.K H1 a xs ∧ R (Itt X.K a) H1)) := by
  intro pins s σ H R I h
  refine thn (hl pins s σ H _ I h) fun v s1 ⟨x, H1, I1, r1, q1⟩ => ?_
  obtain ⟨a, e, q⟩ := q1
  subst e
  cases r1
  rcases q with ⟨xs, hq, q⟩ | ⟨xs, hq, q⟩
  · obtain ⟨its, rv, p, hz⟩ := I1.list hq
    refine wpAny_pyIter_list p.isList ?_
    refine ⟨s1.heap.objs.size, [s1.heap.objs.size], _, _, H1, rfl, I1.kept (t' := s1.toks) fun b o e => Heap.get?_push_of_some _ e, turn_list a _, ⟨_, Heap.get?_push_size _ rfl, rfl, rfl⟩, fun b hb => ?_, q⟩
    have e : b = s1.heap.objs.size := by simpa using hb
    subst e
    exact I1.fpOk (Nat.le_refl _) (I1.hok.fresh (Nat.le_refl _))
  · obtain ⟨its, rv, p, hz⟩ := I1.tuple hq
    refine wpAny_pyIter_tuple (show s1.heap.IsTuple a its.toArray from p) ?_
    refine ⟨s1.heap.objs.size, [s1.heap.objs.size], _, _, H1, rfl, I1.kept (t' := s1.toks) fun b o e => Heap.get?_push_of_some _ e, turn_tuple a _, ⟨_, Heap.get?_push_size _ rfl, rfl, rfl⟩, fun b hb => ?_, q⟩
    have e : b = s1.heap.objs.size := by simpa using hb
    subst e
    exact I1.fpOk (Nat.le_refl _) (I1.hok.fresh (Nat.le_refl _))
theorem PIimp {tg iter : Expr} {t t' : TI} (h : PI X tg iter t) (i : ∀ σ H R, t' σ H R → t σ H R) : PI X tg iter t' := fun pins s σ H R I q => h pins s σ H R I (i σ H R q)
theorem itok_list {A : AS} {a : Addr} {vs : List V} {l : List D} (c : (¬ A a ∧ Rd H a (.lst vs)) ∨ KL K a vs) (r : RepL K A H l vs) : ItOk K A H (Itl K a) l.length (fun i => l.getD i .non) := by
  have sq : ∀ A' H', Pres A H A' H' → SqL K H' a vs := fun A' H' P => by
    rcases c with ⟨n, c⟩ | c
    · exact .inl (Rd.pres P n c).2
    · exact .inr c
  have get : ∀ i, i < l.length → ∃ x, vs[i]? = some x ∧ Rep K A H (l.getD i .non) x := fun i hi => r.get (by rw [List.getD_eq_getElem?_getD, List.getElem?_eq_getElem hi]; rfl)
  refine ⟨fun A' H' i P hi => ?_, fun A' H' i x H'' P hA hi y => ?_, fun A' H' P => ⟨vs, sq _ _ P, by rw [r.length]; exact Nat.le_refl _⟩⟩
  · obtain ⟨x, e, _⟩ := get i hi
    exact ⟨vs, x, sq _ _ P, e⟩
  · obtain ⟨x', e, r'⟩ := get i hi
    obtain ⟨rfl, y⟩ := y
    have := y vs (sq _ _ P)
    rw [e] at this; cases this
    exact ⟨.refl _, r'.mono P⟩
theorem itok_tup {A : AS} {a : Addr} {vs : List V} {l : List D} (c : (¬ A a ∧ Rd H a (.tup vs)) ∨ KT K a vs) (r : RepL K A H l vs) : ItOk K A H (Itt K a) l.length (fun i => l.getD i .non) := by
  have sq : ∀ A' H', Pres A H A' H' → SqT K H' a vs := fun A' H' P => by
    rcases c with ⟨n, c⟩ | c
    · exact .inl (Rd.pres P n c).2
    · exact .inr c
  have get : ∀ i, i < l.length → ∃ x, vs[i]? = some x ∧ Rep K A H (l.getD i .non) x := fun i hi => r.get (by rw [List.getD_eq_getElem?_getD, List.getElem?_eq_getElem hi]; rfl)
  refine ⟨fun A' H' i P hi => ?_, fun A' H' i x H'' P hA hi y => ?_, fun A' H' P => ⟨vs, sq _ _ P, by rw [r.length]; exact Nat.le_refl _⟩⟩
  · obtain ⟨x, e, _⟩ := get i hi
    exact ⟨vs, x, sq _ _ P, e⟩
  · obtain ⟨x', e, r'⟩ := get i hi
    obtain ⟨rfl, y⟩ := y
    have := y vs (sq _ _ P)
    rw [e] at this; cases this
    exact ⟨.refl _, r'.mono P⟩
theorem ui_seq {tg : Expr} (h : PU X e te) : PUI X tg e (uSeqI te) := PIimp (pi_any h) fun σ H R ⟨C, ρ, Q0, I, h, k⟩ => ⟨C, ρ, _, I, h, fun b ρ1 v H1 q f s r => by
  have rr := r.rep fun a z => I.avF f z
  generalize b.d = d at q rr
  cases d with
  | tup l =>
    simp only [Rep] at rr
    obtain ⟨a, vs, rfl, c, rs⟩ := rr
    exact ⟨a, rfl, .inr ⟨vs, c.imp And.right id, k _ _ ρ1 _ H1 q f s (itok_tup c rs)⟩⟩
  | lst l =>
    simp only [Rep] at rr
    obtain ⟨a, vs, rfl, n, c, rs⟩ := rr
    exact ⟨a, rfl, .inl ⟨vs, .inl (.inl c), k _ _ ρ1 _ H1 q f s (itok_list (.inl ⟨n, .inl c⟩) rs)⟩⟩
  | rol l =>
    simp only [Rep] at rr
    obtain ⟨a, vs, rfl, c, rs⟩ := rr
    exact ⟨a, rfl, .inl ⟨vs, c.imp And.right id, k _ _ ρ1 _ H1 q f s (itok_list c rs)⟩⟩
  | _ => exact (show False from q).elim⟩
theorem itok_range {A : AS} {lo : Int} {n : Nat} : ItOk K A H (Itr lo n) n (fun i => .int (lo + i)) :=
  ⟨fun _ _ _ _ h => h, fun _ _ i x H'' _ _ _ ⟨e, y⟩ => by subst e; subst y; exact ⟨.refl _, by simp only [Rep]⟩, fun _ _ _ => Nat.le_refl n⟩
def uRng1 (ta : UA) : UI := fun ρ Q => ta ρ fun ds ρ1 => match ds with
  | [.int j] => (-(2 ^ 62) ≤ j ∧ j < 2 ^ 62) ∧ Q j.toNat (fun i => .int (0 + i)) ρ1
  | _ => False
def uRng2 (ta : UA) : UI := fun ρ Q => ta ρ fun ds ρ1 => match ds with
  | [.int i, .int j] => (-(2 ^ 62) ≤ i ∧ i < 2 ^ 62 ∧ -(2 ^ 62) ≤ j ∧ j < 2 ^ 62) ∧ Q (j - i).toNat (fun k => .int (i + k)) ρ1
  | _ => False
theorem rep_int {A : AS} {i : Int} {v : V} (h : Rep K A H (.int i) v) : v = .int i := by simpa only [Rep] using h
theorem ui_range1 {tg a : Expr} {ta : UA} {p : Pos} (hg : Gl X "range") (hm : X.mg "range" = none) (ha : PUA X [a] ta) (hs : starEach [a] X.env = [(false, eval a X.env)] := by rfl) : PUI X tg (.Call (.Name "range" p) [a] [] pos) (uRng1 ta) :=
  PIimp (pi_range1 hg hm ha hs) fun σ H R ⟨C, ρ, Q0, I, h, k⟩ => ⟨C, ρ, _, I, h, fun ds ρ1 vs H1 q f s r => by
    split at q
    · rename_i j
      obtain ⟨v, vr, rfl, rv, rr⟩ := r.uncons
      have := rr.unnil
      subst this
      have := rep_int rv
      subst this
      obtain ⟨⟨h1, h2⟩, q⟩ := q
      exact ⟨j, rfl, h1, h2, k _ _ ρ1 _ H1 q f s itok_range⟩
    · exact q.elim⟩
theorem ui_range2 {tg a b : Expr} {ta : UA} {p : Pos} (hg : Gl X "range") (hm : X.mg "range" = none) (ha : PUA X [a, b] ta) (hs : starEach [a, b] X.env = [(false, eval a X.env), (false, eval b X.env)] := by rfl) (hs2 : starEach [b] X.env = [(false, eval b X.env)] := by rfl) :
    PUI X tg (.Call (.Name "range" p) [a, b] [] pos) (uRng2 ta) :=
  PIimp (pi_range2 hg hm ha hs hs2) fun σ H R ⟨C, ρ, Q0, I, h, k⟩ => ⟨C, ρ, _, I, h, fun ds ρ1 vs H1 q f s r => by
    split at q
    · rename_i i j
      obtain ⟨v, vr, rfl, rv, rr⟩ := r.uncons
      obtain ⟨w, wr, rfl, rw', rr'⟩ := rr.uncons
      have := rr'.unnil
      subst this
      have := rep_int rv
      subst this
      have := rep_int rw'
      subst this
      obtain ⟨hb, q⟩ := q
      exact ⟨i, j, rfl, hb, k _ _ ρ1 _ H1 q f s itok_range⟩
    · exact q.elim⟩
end
end M

end
section
set_option Elab.async false
set_option linter.all false
set_option maxRecDepth 100000
namespace M
open PySem PySem.Spec PyProof.Rows L2

section
variable {X : Cx} {a b e o : Expr} {es : List Expr} {pos : Pos} {ta tb te ti : UE} {K : PySem.W.Frag} {C : C0} {ρ ρ' : Ev} {σ σ' : L2.St} {H H' : Hp} {A : AS}

/-! ### lists of one's own: append, xs[i] = e, xs[i] op= e -/
theorem Frz.ow {i : Nat} {l : List D} (f : Frz ρ ρ') (h : ρ'[i]? = some (some (.ow l))) : ρ[i]? = some (some (.ow l)) := by
  rcases f.2 i with q | ⟨l', _, q⟩
  · exact q ▸ h
  · rw [q] at h; cases h
def ownAt (ρ : Ev) (i : Nat) (Q : List D → Prop) : Prop := match ρ[i]? with
  | some (some (.ow l)) => Q l
  | _ => False
theorem ownAt_inv {i : Nat} {Q : List D → Prop} (h : ownAt ρ i Q) : ∃ l, ρ[i]? = some (some (.ow l)) ∧ Q l := by
  unfold ownAt at h
  split at h
  · rename_i l e
    exact ⟨l, e, h⟩
  · exact h.elim
def uApp (i : Nat) (t : UE) : US := fun D ρ => ownAt ρ i fun _ => t ρ fun b ρ1 => ownAt ρ1 i fun l => l.length < sizeLine ∧ D.nx (ρ1.set i (some (.ow (l ++ [b.d]))))
theorem us_append {x : Str} {p apos cpos : Pos} (i : Nat) (hx : PE X (.Name x p) (tVar i)) (he : PU X e te)
    (hbase : attributeBase (.Name x p) "append" X.env (eval (.Name x p) X.env) = eval (.Name x p) X.env := by rfl)
    (hfew : ((backTo cpos (starEach [e] X.env)).all (fun x => !x.1) && (backToKw cpos (keywordEach [] X.env)).all (fun x => x.1.isSome)
      && decide ([e].length + ([] : List Keyword).length + (if ([] : List Keyword).isEmpty then 0 else 1) < 30)) = true := by rfl)
    (hline : (apos.endLine == cpos.line) = true := by rfl) (hs : starEach [e] X.env = (false, eval e X.env) :: starEach [] X.env := by rfl) (hplain : (backTo cpos (starEach [] X.env)).any (·.1) = false := by rfl)
    (hw : swapsWith (.Call (.Attribute (.Name x p) "append" apos) [e] [] cpos) none pos.line X.env = pure false := by rfl) :
    PUS X (.Expr (.Call (.Attribute (.Name x p) "append" apos) [e] [] cpos) pos) (uApp i te) :=
  PSimp (ps_expr (pe_bm PySem.F.plainAttrs_list PySem.F.slot_list_append PySem.F.type_list_append mt_append hx (pa_cons he pa_nil hs) hbase hfew hline hs hplain) hw) fun D σ H ⟨C, ρ, D0, I, h, k⟩ => by
    obtain ⟨l, hl, h⟩ := ownAt_inv h
    obtain ⟨a, vs, h1, h2, h3, h4⟩ := I.ow i l hl
    refine ⟨.ref a, h1, .inl ⟨rfl, vs, SqL.of h2⟩, C, ρ, _, I, h, fun b ρ1 v H1 q f s r => ?_⟩
    obtain ⟨l', hl', hz, q⟩ := ownAt_inv q
    have e := f.ow hl'
    rw [hl] at e; cases e
    have I1 := (I.frz f).same s
    obtain ⟨a', vs', g1, g2, g3, g4⟩ := I1.ow i l hl'
    rw [h1] at g1; cases g1
    refine ⟨a, vs', v, rfl, rfl, g2, by rw [← g4.length]; exact hz, k.nx _ _ _ q ?_⟩
    exact I1.write hl' h1 (g4.append (.cons (r.rep fun a z => I.avF f z) .nil))
/-- xs[k] = e -/
def uSetI (i : Nat) (t ti : UE) : US := fun D ρ => t ρ fun b ρ1 => ownAt ρ1 i fun _ => ti ρ1 fun j ρ2 => ownAt ρ2 i fun l => match j.d with
  | .int k => (match ixN l.length k with
    | some n => D.nx (ρ2.set i (some (.ow (l.set n b.d))))
    | none => False)
  | _ => False
theorem us_setItem {x : Str} {p tpos : Pos} {ix : Expr} (i : Nat) (hx : PE X (.Name x p) (tVar i)) (he : PU X e te) (hi : PU X ix ti)
    (ha : ∀ v, assign (.Subscript (.Name x p) ix tpos) X.env v = (do
      let ov ← holding [v] (eval (.Name x p) X.env)
      let iv ← holding [v, ov] (eval ix X.env)
      standAt tpos
      holding [v, ov, iv] (setItem ov iv v)
      release [v, ov, iv] []) := by intro _; rfl)
    (hs : swapsWithSole [.Subscript (.Name x p) ix tpos] e pos.line X.env = pure false := by rfl) (hw : swappedStores [.Subscript (.Name x p) ix tpos] e X.env = pure none := by rfl)
    (h1 : (assignEach [.Subscript (.Name x p) ix tpos] X.env).map (·.2) = [assign (.Subscript (.Name x p) ix tpos) X.env] := by rfl) : PUS X (.Assign [.Subscript (.Name x p) ix tpos] e pos) (uSetI i te ti) :=
  PSimp (ps_asg he (pg_sub hx hi set_list ha) hs hw h1) fun D σ H ⟨C, ρ, D0, I, h, k⟩ => ⟨C, ρ, _, I, h, fun b ρ1 v H1 q f s r => by
    obtain ⟨l, hl, q⟩ := ownAt_inv q
    have I1 := (I.frz f).same s
    obtain ⟨a, vs, h1, h2, h3, h4⟩ := I1.ow i l hl
    refine ⟨.ref a, h1, C, ρ1, _, I1, q, fun j ρ2 w H2 q2 f2 s2 r2 => ?_⟩
    obtain ⟨l', hl', q2⟩ := ownAt_inv q2
    have e := f2.ow hl'
    rw [hl] at e; cases e
    have I2 := (I1.frz f2).same s2
    obtain ⟨a', vs', g1, g2, g3, g4⟩ := I2.ow i l hl'
    rw [h1] at g1; cases g1
    have rj := r2.rep fun a z => I1.avF f2 z
    generalize j.d = dj at q2 rj
    split at q2
    · rename_i kk
      have := rep_int rj
      subst this
      split at q2
      · rename_i n hn
        refine ⟨a, vs', kk, n, rfl, rfl, g2, by rw [← g4.length]; exact hn, k.nx _ _ _ q2 ?_⟩
        exact I2.write hl' h1 (g4.set n ((r.rep fun a z => I.avF f z).mono (.sub s2 fun a => f2.av)))
      · exact q2.elim
    · exact q2.elim⟩

/-! ### a[i] -/
def gIx (d i : D) (Q : D → Prop) : Prop := match seqOf d, i with
  | some l, .int k => (match atI l k with
    | some x => Q x
    | none => False)
  | _, _ => False
def uIx (t : UV) (ti : UE) : UE := fun ρ Q => t ρ fun d ρ1 => ti ρ1 fun i ρ2 => gIx d i.d fun x => Q (.pu x) ρ2
theorem RepL.atI {l : List D} {vs : List V} {k : Int} {x : D} (r : RepL K A H l vs) (h : atI l k = some x) : ∃ v, L2.atI vs k = some v ∧ Rep K A H x v := by
  unfold L2.atI at h ⊢
  cases e : ixN l.length k with
  | none => rw [e] at h; cases h
  | some j =>
    rw [e] at h
    rw [← r.length, e]
    exact r.get h
theorem Rep1.mono {A' : AS} (s : Same H H') (h : ∀ a, A' a → A a) : ∀ {d : D} {v : V}, Rep1 K A H d v → Rep1 K A' H' d v
  | .non, _, r => Rep.mono (.sub s h) r
  | .bl _, _, r => Rep.mono (.sub s h) r
  | .int _, _, r => Rep.mono (.sub s h) r
  | .str _, _, r => Rep.mono (.sub s h) r
  | .ty _, _, r => Rep.mono (.sub s h) r
  | .tup _, _, ⟨a, vs, e, c, r⟩ => ⟨a, vs, e, c.imp (fun c => c.imp (s _ _) fun ⟨o, z⟩ => ⟨o, s _ _ z⟩) id, r.mono (.sub s h)⟩
  | .lst _, _, ⟨a, vs, e, c, r⟩ => ⟨a, vs, e, s _ _ c, r.mono (.sub s h)⟩
  | .rol _, _, ⟨a, vs, e, c, r⟩ => ⟨a, vs, e, s.seq c, r.mono (.sub s h)⟩
  | .obj _ _ _, _, r => Rep.mono (.sub s h) r
/-- any sequence that is looked at -/
theorem Rep1.seq {d : D} {v : V} {l : List D} (r : Rep1 K A H d v) (h : seqOf d = some l) : ∃ a vs, v = .ref a ∧ (SqL K H a vs ∨ SqT K H a vs) ∧ RepL K A H l vs := by
  cases d with
  | tup l' => cases h; obtain ⟨a, vs, e, c, r⟩ := r; exact ⟨a, vs, e, .inr c, r⟩
  | lst l' => cases h; obtain ⟨a, vs, e, c, r⟩ := r; exact ⟨a, vs, e, .inl (SqL.of c), r⟩
  | rol l' => cases h; obtain ⟨a, vs, e, c, r⟩ := r; exact ⟨a, vs, e, .inl c, r⟩
  | _ => cases h
theorem gIx_inv {d i : D} {Q : D → Prop} (h : gIx d i Q) : ∃ l k x, seqOf d = some l ∧ i = .int k ∧ atI l k = some x ∧ Q x := by
  unfold gIx at h
  split at h
  · rename_i l k e
    split at h
    · rename_i x ex
      exact ⟨l, k, x, e, rfl, ex, h⟩
    · exact h.elim
  · exact h.elim
theorem pu_ix {t : UV} (ha : PUV X a t) (hb : PU X b ti) (hs : PlainIx b) : PU X (.Subscript a b pos) (uIx t ti) :=
  PEimp (pe_ix ix_seq ha hb hs) fun σ H Q ⟨C, ρ, Q0, I, h, k⟩ => ⟨C, ρ, _, I, h, fun d ρ1 v H1 q f s r => by
    have I1 := (I.frz f).same s
    refine ⟨C, ρ1, _, I1, q, fun i ρ2 w H2 q2 f2 s2 r2 => ?_⟩
    obtain ⟨l, kk, x, e1, e2, e3, q2⟩ := gIx_inv q2
    have ri := r2.rep fun a z => I1.avF f2 z
    rw [e2] at ri
    have := rep_int ri
    subst this
    obtain ⟨a, vs, rfl, c, rs⟩ := (r.mono (A' := Av C ρ2 σ) s2 fun a => f2.av).seq e1
    obtain ⟨u, e4, r4⟩ := rs.atI e3
    have fin := k (.pu x) ρ2 u H2 q2 (f.trans f2) (s.trans s2) r4
    rcases c with c | c
    · exact .inl ⟨a, vs, kk, u, rfl, rfl, c, e4, fin⟩
    · exact .inr (.inl ⟨a, vs, kk, u, rfl, rfl, c, e4, fin⟩)⟩

/-! ### a[lo:hi] -/
abbrev UO := Ev → (Option Int → Ev → Prop) → Prop
def lO (K : PySem.W.Frag) (t : UO) : TO := fun σ H Q => ∃ C ρ Q0, EOk K C ρ σ H ∧ t ρ Q0 ∧ ∀ i ρ' H', Q0 i ρ' → Frz ρ ρ' → Same H H' → Q i H'
def PUO (X : Cx) (e : Option Expr) (t : UO) : Prop := PO X e (lO X.K t)
theorem POimp {e : Option Expr} {t t' : TO} (h : PO X e t) (i : ∀ σ H Q, t' σ H Q → t σ H Q) : PO X e t' := fun pins s σ H Q I q => h pins s σ H Q I (i σ H Q q)
def uNoPart : UO := fun ρ Q => Q none ρ
def uPart (t : UE) : UO := fun ρ Q => t ρ fun b ρ1 => match b.d with
  | .int i => Q (some i) ρ1
  | _ => False
theorem puo_none : PUO X none uNoPart := POimp po_none fun σ H Q ⟨C, ρ, Q0, I, h, k⟩ => k _ _ _ h (.refl _) (.refl _)
theorem puo_some (h : PU X e te) : PUO X (some e) (uPart te) := POimp (po_some h) fun σ H Q ⟨C, ρ, Q0, I, h, k⟩ => ⟨C, ρ, _, I, h, fun b ρ1 v H1 q f s r => by
  have r' := r.rep fun a z => I.avF f z
  generalize b.d = d at q r'
  split at q
  · exact ⟨_, rep_int r', k _ _ _ q f s⟩
  · exact q.elim⟩
def cutD (l : List D) (lo hi : Option Int) : List D := (l.drop (HT.sIx l.length 0 lo)).take (HT.sIx l.length l.length hi - HT.sIx l.length 0 lo)
theorem RepL.cut {l : List D} {vs : List V} (r : RepL K A H l vs) (lo hi : Option Int) : RepL K A H (cutD l lo hi) (cutV vs lo hi) := by
  unfold cutD cutV
  rw [r.length]
  exact (r.drop _).take _
def gSl (d : D) (lo hi : Option Int) (Q : B → Prop) : Prop := match d with
  | .tup l => ¬ (HT.sIx l.length 0 lo = 0 ∧ HT.sIx l.length l.length hi = l.length) ∧ Q (.pu (.tup (cutD l lo hi)))
  | .lst l => Q (.ow (cutD l lo hi))
  | .rol l => Q (.ow (cutD l lo hi))
  | _ => False
def uSl (t : UV) (tl th : UO) : UE := fun ρ Q => t ρ fun d ρ1 => tl ρ1 fun lo ρ2 => th ρ2 fun hi ρ3 => gSl d lo hi fun b => Q b ρ3
theorem pu_slice {t : UV} {tl th : UO} {lo hi : Option Expr} {p2 : Pos} (he : PUV X e t) (hl : PUO X lo tl) (hu : PUO X hi th) : PU X (.Subscript e (.Slice lo hi none p2) pos) (uSl t tl th) :=
  PEimp (pe_slice (sl_list.or sl_tup) he hl hu) fun σ H Q ⟨C, ρ, Q0, I, h, k⟩ => ⟨C, ρ, _, I, h, fun d ρ1 v H1 q f s r => by
    have I1 := (I.frz f).same s
    refine ⟨C, ρ1, _, I1, q, fun l2 ρ2 H2 q2 f2 s2 => ?_⟩
    have I2 := (I1.frz f2).same s2
    refine ⟨C, ρ2, _, I2, q2, fun h3 ρ3 H3 q3 f3 s3 => ?_⟩
    have I3 := (I2.frz f3).same s3
    have s13 := s2.trans s3
    have sAll := s.trans s13
    have fAll := f.trans (f2.trans f3)
    have r' := r.mono (A' := Av C ρ3 σ) s13 fun a z => f2.av (f3.av z)
    cases d with
    | tup l =>
      obtain ⟨hw, q3⟩ := q3
      obtain ⟨a, vs, rfl, c, rs⟩ := r'
      exact .inr ⟨a, vs, rfl, c, by rw [← rs.length]; exact hw, fun p n => k _ ρ3 _ _ q3 fAll (sAll.trans (same_new n _)) (rep_new_tup (fun a z => I3.avSome z) n (rs.cut l2 h3))⟩
    | lst l =>
      obtain ⟨a, vs, rfl, c, rs⟩ := r'
      exact .inl ⟨a, vs, rfl, SqL.of c, fun p n => k _ ρ3 _ _ q3 fAll (sAll.trans (same_new n _)) (rep_new_lst sAll n (rs.cut l2 h3))⟩
    | rol l =>
      obtain ⟨a, vs, rfl, c, rs⟩ := r'
      exact .inl ⟨a, vs, rfl, c, fun p n => k _ ρ3 _ _ q3 fAll (sAll.trans (same_new n _)) (rep_new_lst sAll n (rs.cut l2 h3))⟩
    | _ => exact (show False from q3).elim⟩

/-! ### operations -/
def Sm (i : Int) : Prop := i.natAbs < 2 ^ 9000
theorem Sm.log {i : Int} (h : Sm i) : i.natAbs.log2 < 9000 := by
  by_cases z : i.natAbs = 0
  · rw [z]; decide
  · exact (Nat.log2_lt z).mpr h
def gAdd (d e : D) (Q : B → Prop) : Prop := match d, e with
  | .int i, .int j => Q (.pu (.int (i + j)))
  | .lst l, .lst m => l.length + m.length ≤ sizeLine ∧ Q (.ow (l ++ m))
  | .tup l, .tup m => l.length + m.length ≤ sizeLine ∧ Q (.pu (.tup (l ++ m)))
  | _, _ => False
theorem op_catT0 : OpR X (binaryOp .Add) (fun x y H Q => ∃ a b ys, x = .ref a ∧ y = .ref b ∧ SqT X.K H a [] ∧ SqT X.K H b ys ∧ Q (.ref b) H) := by
  intro pins s σ H x y v u Q I rx ry h
  obtain ⟨a, b, ys, rfl, rfl, ha, hb, q⟩ := h
  cases rx
  cases ry
  obtain ⟨its, r1, p1, _⟩ := I.tuple ha
  obtain ⟨its2, r2, p2, _⟩ := I.tuple hb
  have e : its = [] := by
    have := r1.length
    exact List.length_eq_zero_iff.mp this.symm
  subst e
  obtain ⟨⟨cls, dd, data, sl⟩, ho, hc, n, hd⟩ := id p1
  obtain ⟨⟨cls2, dd2, data2, sl2⟩, ho2, hc2, n2, hd2⟩ := id p2
  simp only at hc hd hc2 hd2
  subst hc hd hc2 hd2
  exact concat_meets ⟨_, ho, rfl⟩ ⟨_, ho2, rfl⟩ noFill_tuple_add seq_tuple_add PySem.F.slot_tuple_add PySem.F.entry_tuple_add (PySem.F.args_tuple_add_2 _ _) (tuple_addW0 a b _ its2.toArray n n2 dd dd2 sl sl2 rfl) ⟨ho, ho2, ⟨.ref b, H, I, rfl, q⟩⟩
theorem repI {i : Int} : RepB K A H H' (.pu (.int i)) (.int i) := by
  show Rep K A H' (.int i) (.int i)
  simp only [Rep]
theorem ou_add : OpU X (binaryOp .Add) gAdd := by
  intro A H d e v w Q0 Q hA r1 r2 g k
  unfold gAdd at g
  split at g
  · rename_i i j
    exact ⟨_, op_add, i, j, rep_int r1, rep_int r2, k _ _ H g (.refl _) repI⟩
  · rename_i l m
    simp only [Rep] at r1 r2
    obtain ⟨a, vs, rfl, n1, c1, rs1⟩ := r1
    obtain ⟨b, ws, rfl, n2, c2, rs2⟩ := r2
    exact ⟨_, op_cat, a, b, vs, ws, rfl, rfl, c1, c2, by rw [← rs1.length, ← rs2.length]; exact g.1, fun p n => k _ _ _ g.2 (same_new n _) (rep_new_lst (.refl _) n (rs1.append rs2))⟩
  · rename_i l m
    simp only [Rep] at r1 r2
    obtain ⟨a, vs, rfl, c1, rs1⟩ := r1
    obtain ⟨b, ws, rfl, c2, rs2⟩ := r2
    obtain ⟨hz, g⟩ := g
    by_cases hn : l = []
    · subst hn
      have e1 : vs = [] := rs1.unnil
      subst e1
      refine ⟨_, op_catT0, a, b, ws, rfl, rfl, c1.imp And.right id, c2.imp And.right id, k _ _ H g (.refl _) ?_⟩
      show Rep X.K A H (.tup m) (.ref b)
      simp only [Rep]
      exact ⟨b, ws, rfl, c2, rs2⟩
    refine ⟨_, op_catT, a, b, vs, ws, rfl, rfl, c1.imp And.right id, c2.imp And.right id, fun z => hn ?_, by rw [← rs1.length, ← rs2.length]; exact hz, fun z => ?_, fun z p n => ?_⟩
    · have := rs1.length
      rw [z] at this
      exact List.length_eq_zero_iff.mp this
    · have e2 := rs2.length
      rw [z] at e2
      have e3 : m = [] := List.length_eq_zero_iff.mp e2
      subst e3
      rw [List.append_nil] at g
      refine k _ _ H g (.refl _) ?_
      show Rep X.K A H (.tup l) (.ref a)
      simp only [Rep]
      exact ⟨a, vs, rfl, c1, rs1⟩
    · exact k _ _ _ g (same_new n _) (rep_new_tup hA n (rs1.append rs2))
  · exact g.elim
def gI2 (f : Int → Int → (B → Prop) → Prop) (d e : D) (Q : B → Prop) : Prop := match d, e with
  | .int i, .int j => f i j Q
  | _, _ => False
theorem gI2_inv {f : Int → Int → (B → Prop) → Prop} {d e : D} {Q : B → Prop} (h : gI2 f d e Q) : ∃ i j, d = .int i ∧ e = .int j ∧ f i j Q := by
  unfold gI2 at h
  split at h
  · exact ⟨_, _, rfl, rfl, h⟩
  · exact h.elim
def gSub : D → D → (B → Prop) → Prop := gI2 fun i j Q => Q (.pu (.int (i - j)))
theorem ou_sub : OpU X (binaryOp .Sub) gSub := by
  intro A H d e v w Q0 Q hA r1 r2 g k
  obtain ⟨i, j, rfl, rfl, g⟩ := gI2_inv g
  exact ⟨_, op_sub, i, j, rep_int r1, rep_int r2, k _ _ H g (.refl _) repI⟩
theorem bits_of {i : Int} (h : Sm i) : Builtin.Int.intBits i ≤ 2 ^ 20 := Nat.le_trans (PyProof.Rows.intBits_le h) (by decide)
def gMul (d e : D) (Q : B → Prop) : Prop := match d, e with
  | .int i, .int j => (CMul i j ∨ (Sm i ∧ Sm j)) ∧ Q (.pu (.int (i * j)))
  | .lst l, .int k => (-(2 ^ 63) ≤ k ∧ k < 2 ^ 63 ∧ l.length * k.toNat ≤ sizeLine) ∧ Q (.ow (List.replicate k.toNat l).flatten)
  | _, _ => False
theorem op_mulS : OpR X (binaryOp .Mult) (rI (fun i j => CMul i j ∨ (Sm i ∧ Sm j)) fun i j => .int (i * j)) := opI fun _ _ _ _ _ _ _ hc q => mul_int q (hc.elim CMul.ok fun h => .of_bits (bits_of h.1) (bits_of h.2))
theorem ou_mul : OpU X (binaryOp .Mult) gMul := by
  intro A H d e v w Q0 Q hA r1 r2 g k
  unfold gMul at g
  split at g
  · rename_i i j
    exact ⟨_, op_mulS, i, j, rep_int r1, rep_int r2, g.1, k _ _ H g.2 (.refl _) repI⟩
  · rename_i l kk
    have := rep_int r2
    subst this
    simp only [Rep] at r1
    obtain ⟨a, vs, rfl, n1, c1, rs1⟩ := r1
    obtain ⟨⟨h1, h2, h3⟩, g⟩ := g
    exact ⟨_, op_rep, a, kk, vs, rfl, rfl, c1, h1, h2, by rw [← rs1.length]; exact h3, fun p n => k _ _ _ g (same_new n _) (rep_new_lst (.refl _) n (rs1.rep _))⟩
  · exact g.elim
/-- // and % -/
def gDiv : D → D → (B → Prop) → Prop := gI2 fun i j Q => (j ≠ 0 ∧ Sm j) ∧ Q (.pu (.int (i.fdiv j)))
def gMod : D → D → (B → Prop) → Prop := gI2 fun i j Q => j ≠ 0 ∧ Q (.pu (.int (i.fmod j)))
theorem op_divS : OpR X (binaryOp .FloorDiv) (rI (fun _ j => j ≠ 0 ∧ Sm j) fun i j => .int (i.fdiv j)) := opI fun _ _ _ _ _ _ _ hc q => floordiv_int hc.1 q (.inl (PyProof.noPylong_of_log2 hc.2.log))
theorem ou_div : OpU X (binaryOp .FloorDiv) gDiv := by
  intro A H d e v w Q0 Q hA r1 r2 g k
  obtain ⟨i, j, rfl, rfl, g⟩ := gI2_inv g
  exact ⟨_, op_divS, i, j, rep_int r1, rep_int r2, g.1, k _ _ H g.2 (.refl _) repI⟩
theorem ou_mod : OpU X (binaryOp .Mod) gMod := by
  intro A H d e v w Q0 Q hA r1 r2 g k
  obtain ⟨i, j, rfl, rfl, g⟩ := gI2_inv g
  exact ⟨_, op_modN, i, j, rep_int r1, rep_int r2, g.1, k _ _ H g.2 (.refl _) repI⟩
def gPow : D → D → (B → Prop) → Prop := gI2 fun i j Q => CPow i j ∧ Q (.pu (.int (i ^ j.toNat)))
theorem ou_pow : OpU X (binaryOp .Pow) gPow := by
  intro A H d e v w Q0 Q hA r1 r2 g k
  obtain ⟨i, j, rfl, rfl, g⟩ := gI2_inv g
  exact ⟨_, op_pow, i, j, rep_int r1, rep_int r2, g.1, k _ _ H g.2 (.refl _) repI⟩
def gCmp (p : Int → Int → Bool) : D → D → (B → Prop) → Prop := gI2 fun i j Q => Q (.pu (.bl (p i j)))
theorem ou_cmp {op : CmpOp} {p : Int → Int → Bool} (ho : OpR X (compareOp op) (rI0 fun i j => .bl (p i j))) : OpU X (compareOp op) (gCmp p) := by
  intro A H d e v w Q0 Q hA r1 r2 g k
  obtain ⟨i, j, rfl, rfl, g⟩ := gI2_inv g
  exact ⟨_, ho, i, j, rep_int r1, rep_int r2, k _ _ H g (.refl _) rep_bl⟩
theorem ou_lt : OpU X (compareOp .Lt) (gCmp fun i j => decide (i < j)) := ou_cmp op_lt
theorem ou_le : OpU X (compareOp .LtE) (gCmp fun i j => decide (i ≤ j)) := ou_cmp op_le
theorem ou_gt : OpU X (compareOp .Gt) (gCmp fun i j => decide (j < i)) := ou_cmp op_gt
theorem ou_ge : OpU X (compareOp .GtE) (gCmp fun i j => decide (j ≤ i)) := ou_cmp op_ge
/-- == and != of scalars -/
def scalD : D → Option V
  | .non => some .non
  | .bl b => some (.bl b)
  | .int i => some (.int i)
  | .str x => some (.str x)
  | _ => none
def gEqB (neg : Bool) (d e : D) (Q : B → Prop) : Prop := match d, e with
  | .int i, .int j => Q (.pu (.bl (neg ^^ decide (i = j))))
  | .bl i, .bl j => Q (.pu (.bl (neg ^^ decide (i = j))))
  | .str i, .str j => Q (.pu (.bl (neg ^^ decide (i = j))))
  | _, _ => False
theorem rep_blv {b : Bool} {v : V} (h : Rep K A H (.bl b) v) : v = .bl b := by simpa only [Rep] using h
theorem rep_strv {b : Str} {v : V} (h : Rep K A H (.str b) v) : v = .str b := by simpa only [Rep] using h
theorem ou_eq : OpU X (compareOp .Eq) (gEqB false) := by
  intro A H d e v w Q0 Q hA r1 r2 g k
  unfold gEqB at g
  split at g
  · rw [rep_int r1, rep_int r2]
    exact ⟨_, op_eq, rfl, k _ _ H g (.refl _) (by rw [dec_int, Bool.false_xor, Bool.beq_eq_decide_eq]; exact rep_bl)⟩
  · rw [rep_blv r1, rep_blv r2]
    exact ⟨_, op_eq, rfl, k _ _ H g (.refl _) (by rw [dec_bl, Bool.false_xor, Bool.beq_eq_decide_eq]; exact rep_bl)⟩
  · rw [rep_strv r1, rep_strv r2]
    exact ⟨_, op_eq, rfl, k _ _ H g (.refl _) (by rw [dec_str, Bool.false_xor, Bool.beq_eq_decide_eq]; exact rep_bl)⟩
  · exact g.elim
theorem ou_ne : OpU X (compareOp .NotEq) (gEqB true) := by
  intro A H d e v w Q0 Q hA r1 r2 g k
  unfold gEqB at g
  split at g
  · rw [rep_int r1, rep_int r2]
    exact ⟨_, op_ne, rfl, k _ _ H g (.refl _) (by rw [dec_int, Bool.true_xor, Bool.beq_eq_decide_eq]; exact rep_bl)⟩
  · rw [rep_blv r1, rep_blv r2]
    exact ⟨_, op_ne, rfl, k _ _ H g (.refl _) (by rw [dec_bl, Bool.true_xor, Bool.beq_eq_decide_eq]; exact rep_bl)⟩
  · rw [rep_strv r1, rep_strv r2]
    exact ⟨_, op_ne, rfl, k _ _ H g (.refl _) (by rw [dec_str, Bool.true_xor, Bool.beq_eq_decide_eq]; exact rep_bl)⟩
  · exact g.elim
end
end M

end
section
set_option Elab.async false
set_option linter.all false
set_option maxRecDepth 100000
namespace M
open PySem PySem.Spec PyProof.Rows L2

section
variable {X : Cx} {a b e o : Expr} {es : List Expr} {pos : Pos} {ta tb te ti : UE} {K : PySem.W.Frag} {C : C0} {ρ ρ' : Ev} {σ σ' : L2.St} {H H' : Hp} {A : AS}

/-! ### - x -/
def uNeg (t : UE) : UE := fun ρ Q => t ρ fun b ρ1 => match b.d with
  | .int i => Q (.pu (.int (-i))) ρ1
  | _ => False
theorem pu_neg (h : PU X a ta) : PU X (.UnaryOp .USub a pos) (uNeg ta) :=
  PEimp (pe_un un_neg h) fun σ H Q ⟨C, ρ, Q0, I, h, k⟩ => ⟨C, ρ, _, I, h, fun b ρ1 v H1 q f s r => by
    have r' := r.rep fun a z => I.avF f z
    generalize b.d = d at q r'
    split at q
    · exact ⟨_, rep_int r', k _ _ _ _ q f s repI⟩
    · exact q.elim⟩
/-! ### op= -/
theorem iu_add : IpU X .Add (gI2 fun i j Q => Q (.pu (.int (i + j)))) := by
  intro A H d e v w Q0 Q hA r1 r2 g k
  obtain ⟨i, j, rfl, rfl, g⟩ := gI2_inv g
  exact ⟨_, ip_add, i, j, rep_int r1, rep_int r2, k _ _ H g (.refl _) repI⟩
theorem iu_sub : IpU X .Sub (gI2 fun i j Q => Q (.pu (.int (i - j)))) := by
  intro A H d e v w Q0 Q hA r1 r2 g k
  obtain ⟨i, j, rfl, rfl, g⟩ := gI2_inv g
  exact ⟨_, ip_sub, i, j, rep_int r1, rep_int r2, k _ _ H g (.refl _) repI⟩
/-! ### built-ins -/
def g1 (f : D → (B → Prop) → Prop) (ds : List D) (Q : B → Prop) : Prop := match ds with
  | [d] => f d Q
  | _ => False
def g2 (f : D → D → (B → Prop) → Prop) (ds : List D) (Q : B → Prop) : Prop := match ds with
  | [d, e] => f d e Q
  | _ => False
theorem g1_inv {f : D → (B → Prop) → Prop} {ds : List D} {Q : B → Prop} {vs : List V} (h : g1 f ds Q) (r : RepL K A H ds vs) : ∃ d v, ds = [d] ∧ vs = [v] ∧ Rep K A H d v ∧ f d Q := by
  unfold g1 at h
  split at h
  · obtain ⟨v, vr, rfl, rv, rr⟩ := r.uncons
    have := rr.unnil
    subst this
    exact ⟨_, v, rfl, rfl, rv, h⟩
  · exact h.elim
theorem g2_inv {f : D → D → (B → Prop) → Prop} {ds : List D} {Q : B → Prop} {vs : List V} (h : g2 f ds Q) (r : RepL K A H ds vs) : ∃ d e v w, ds = [d, e] ∧ vs = [v, w] ∧ Rep K A H d v ∧ Rep K A H e w ∧ f d e Q := by
  unfold g2 at h
  split at h
  · obtain ⟨v, vr, rfl, rv, rr⟩ := r.uncons
    obtain ⟨w, wr, rfl, rw', rr'⟩ := rr.uncons
    have := rr'.unnil
    subst this
    exact ⟨_, _, v, w, rfl, rfl, rv, rw', h⟩
  · exact h.elim
def gInt (f : Int → (B → Prop) → Prop) (d : D) (Q : B → Prop) : Prop := match d with
  | .int i => f i Q
  | _ => False
theorem gInt_inv {f : Int → (B → Prop) → Prop} {d : D} {Q : B → Prop} (h : gInt f d Q) : ∃ i, d = .int i ∧ f i Q := by
  unfold gInt at h
  split at h
  · exact ⟨_, rfl, h⟩
  · exact h.elim
def gAbs : List D → (B → Prop) → Prop := g1 (gInt fun i Q => Q (.pu (.int (if i < 0 then -i else i))))
theorem cu_abs : CallU X (.builtin "abs") gAbs := by
  intro A H ds vs Q0 Q hA r g k
  obtain ⟨d, v, rfl, rfl, rv, g⟩ := g1_inv g r
  obtain ⟨i, rfl, g⟩ := gInt_inv g
  exact ⟨_, call_abs, i, by rw [rep_int rv], k _ _ H g (.refl _) repI⟩
def gMax : List D → (B → Prop) → Prop := g2 (gI2 fun i j Q => Q (.pu (.int (if j > i then j else i))))
theorem cu_max (hc : X.calm = true) : CallU X (.builtin "max") gMax := by
  intro A H ds vs Q0 Q hA r g k
  obtain ⟨d, e, v, w, rfl, rfl, rv, rw', g⟩ := g2_inv g r
  obtain ⟨i, j, rfl, rfl, g⟩ := gI2_inv g
  exact ⟨_, call_max2 hc, i, j, by rw [rep_int rv, rep_int rw'], k _ _ H g (.refl _) repI⟩
def gMin : List D → (B → Prop) → Prop := g2 (gI2 fun i j Q => Q (.pu (.int (if j < i then j else i))))
theorem cu_min (hc : X.calm = true) : CallU X (.builtin "min") gMin := by
  intro A H ds vs Q0 Q hA r g k
  obtain ⟨d, e, v, w, rfl, rfl, rv, rw', g⟩ := g2_inv g r
  obtain ⟨i, j, rfl, rfl, g⟩ := gI2_inv g
  exact ⟨_, call_min2 hc, i, j, by rw [rep_int rv, rep_int rw'], k _ _ H g (.refl _) repI⟩
def gToInt : List D → (B → Prop) → Prop := g1 fun d Q => match d with
  | .int i => Q (.pu (.int i))
  | .bl k => Q (.pu (.int (if k then 1 else 0)))
  | _ => False
theorem cu_int : CallU X (.type "int") gToInt := by
  intro A H ds vs Q0 Q hA r g k
  obtain ⟨d, v, rfl, rfl, rv, g⟩ := g1_inv g r
  cases d with
  | int i => exact ⟨_, call_int1, .inl ⟨i, by rw [rep_int rv], k _ _ H g (.refl _) repI⟩⟩
  | bl c => exact ⟨_, call_int1, .inr ⟨c, by rw [rep_blv rv], k _ _ H g (.refl _) repI⟩⟩
  | _ => exact (show False from g).elim
def gTupleOf : List D → (B → Prop) → Prop := g1 fun d Q => match seqOf d with
  | some l => Q (.pu (.tup l))
  | none => False
theorem cu_tuple : CallU X (.type "tuple") gTupleOf := by
  intro A H ds vs Q0 Q hA r g k
  obtain ⟨d, v, rfl, rfl, rv, g⟩ := g1_inv g r
  cases d with
  | tup l =>
    have rv' := rv
    simp only [Rep] at rv
    obtain ⟨a, vs, rfl, c, rs⟩ := rv
    exact ⟨_, call_tuple_of, a, vs, rfl, .inr ⟨c.imp And.right id, k _ _ H g (.refl _) rv'⟩⟩
  | lst l =>
    simp only [Rep] at rv
    obtain ⟨a, vs, rfl, n, c, rs⟩ := rv
    exact ⟨_, call_tuple_of, a, vs, rfl, .inl ⟨SqL.of c, fun p n => k _ _ _ g (same_new n _) (rep_new_tup hA n rs)⟩⟩
  | rol l =>
    simp only [Rep] at rv
    obtain ⟨a, vs, rfl, c, rs⟩ := rv
    exact ⟨_, call_tuple_of, a, vs, rfl, .inl ⟨c.imp And.right id, fun p n => k _ _ _ g (same_new n _) (rep_new_tup hA n rs)⟩⟩
  | _ => exact (show False from g).elim
def gListOf : List D → (B → Prop) → Prop := g1 fun d Q => match seqOf d with
  | some l => Q (.ow l)
  | none => False
theorem cu_list : CallU X (.type "list") gListOf := by
  intro A H ds vs Q0 Q hA r g k
  obtain ⟨d, v, rfl, rfl, rv, g⟩ := g1_inv g r
  cases e : seqOf d with
  | none => simp only [e] at g
  | some l =>
    simp only [e] at g
    obtain ⟨a, vs, rfl, c, rs⟩ := rv.one.seq e
    exact ⟨_, call_list_of, a, vs, rfl, c, fun p n => k _ _ _ g (same_new n _) (rep_new_lst (.refl _) n rs)⟩
/-- len(x), x only looked at -/
def uLen (t : UV) : UE := fun ρ Q => t ρ fun d ρ1 => match seqOf d with
  | some l => Q (.pu (.int l.length)) ρ1
  | none => False
theorem pu_len {t : UV} {p : Pos} (ha : PUV X e t) (hg : Gl X "len") (hm : X.mg "len" = none) (hs : starEach [e] X.env = (false, eval e X.env) :: starEach [] X.env := by rfl)
    (hpl : (backTo pos (starEach [] X.env)).any (·.1) = false := by rfl) : PU X (.Call (.Name "len" p) [e] [] pos) (uLen t) :=
  PEimp (pe_callB call_len_seq hg hm PySem.boot_len (pa_cons ha pa_nil hs) (by decide) (by decide) hs hpl) fun σ H Q ⟨C, ρ, Q0, I, h, k⟩ => ⟨C, ρ, _, I, h, fun d ρ1 v H1 q f s r => by
    cases e : seqOf d with
    | none => simp only [e] at q
    | some l =>
      simp only [e] at q
      obtain ⟨a, vs, rfl, c, rs⟩ := r.seq e
      exact ⟨a, vs, rfl, c, k _ _ _ _ q f s (by rw [rs.length]; exact repI)⟩⟩
/-! isinstance -/
def isI : D → String → Option Bool
  | .int _, "int" => some true
  | .int _, "bool" => some false
  | .int _, "tuple" => some false
  | .int _, "list" => some false
  | .bl _, "bool" => some true
  | .bl _, "int" => some true
  | .tup _, "tuple" => some true
  | .tup _, "int" => some false
  | .tup _, "list" => some false
  | .lst _, "list" => some true
  | .lst _, "tuple" => some false
  | .lst _, "int" => some false
  | _, _ => none
theorem isi_no {x : Value} {T : String} {prog : Program} {w : World} {A : Around} {E : Value → Shared → Prop} {s : Shared} {Q : Value → Shared → Prop}
    {P : (Result → Shared → Prop) → Shared → Prop} (hm : Meets (Builtin.«isinstance» ⟨[x, .type T], []⟩) (fun _ R s => P R s)) (h : P (fun r s' => match r with | .ok (.ret v) => Q v s' | .ok _ => False | .error e => E e s') s) :
    wpAny (model prog w) A (call (.builtin "isinstance") [x, .type T]) Q E s :=
  call_function_any kind_isinstance plain_isinstance entry_isinstance (args_isinstance _ _) (hm _ _ _ _ _ h)
theorem rep_ty {T : String} {v : V} (h : Rep K A H (.ty T) v) : v = .ty T := by simpa only [Rep] using h
/-- isinstance of a value by a type -/
def rIsi (K : PySem.W.Frag) : List V → Hp → VK → Prop := fun xs H Q => ∃ x T k, xs = [x, .ty T] ∧ Q (.bl k) H ∧
  ((∃ i, x = .int i ∧ ((T = "int" ∧ k = true) ∨ ((T = "bool" ∨ T = "tuple" ∨ T = "list") ∧ k = false))) ∨ (∃ c, x = .bl c ∧ (T = "int" ∨ T = "bool") ∧ k = true) ∨
   (∃ a ys, x = .ref a ∧ SqT K H a ys ∧ ((T = "tuple" ∧ k = true) ∨ ((T = "int" ∨ T = "list") ∧ k = false))) ∨ (∃ a ys, x = .ref a ∧ SqL K H a ys ∧ ((T = "list" ∧ k = true) ∨ ((T = "int" ∨ T = "tuple") ∧ k = false))))
theorem tyT (T : String) (h : T = "int" ∨ T = "bool" ∨ T = "tuple" ∨ T = "list") : typeOf (.type T) = pure (.type "type") := by
  rcases h with rfl | rfl | rfl | rfl <;> first | rfl | decide
theorem call_isi : CallR X (.builtin "isinstance") (rIsi X.K) := by
  intro pins s σ H xs us Q I r h
  obtain ⟨x, T, k, rfl, q, h⟩ := h
  obtain ⟨u, w', rfl, rx, ry⟩ := vals2 r
  have e : w' = Value.type T := ry
  subst e
  rcases h with ⟨i, rfl, h⟩ | ⟨c, rfl, h, rfl⟩ | ⟨a, ys, rfl, hs, h⟩ | ⟨a, ys, rfl, hs, h⟩
  · obtain ⟨t, rfl⟩ := rx
    rcases h with ⟨rfl, rfl⟩ | ⟨h, rfl⟩
    · exact call_isinstance_yes (typeIs_int s i t) (tyT _ (by simp)) PyProof.Rows.sub_int_int ⟨.bl true, H, I, rfl, q⟩
    · rcases h with rfl | rfl | rfl
      · exact isi_no (isinstance_false_int (by decide) (tyT _ (by simp)) PyProof.Rows.sub_int_bool) ⟨.bl false, H, I.tok _, rfl, q⟩
      · exact isi_no (isinstance_false_int (by decide) (tyT _ (by simp)) PyProof.Rows.sub_int_tuple) ⟨.bl false, H, I.tok _, rfl, q⟩
      · exact isi_no (isinstance_false_int (by decide) (tyT _ (by simp)) PyProof.Rows.sub_int_list) ⟨.bl false, H, I.tok _, rfl, q⟩
  · cases rx
    rcases h with rfl | rfl
    · exact call_isinstance_yes (PySem.typeIs_bool s c) (tyT _ (by simp)) PyProof.Rows.sub_bool_int ⟨.bl true, H, I, rfl, q⟩
    · exact call_isinstance_yes (PySem.typeIs_bool s c) (tyT _ (by simp)) PyProof.Rows.sub_bool_bool ⟨.bl true, H, I, rfl, q⟩
  · cases rx
    obtain ⟨its, rv, p, hz⟩ := I.tuple hs
    obtain ⟨o, ho, hc, _⟩ := id p
    rcases h with ⟨rfl, rfl⟩ | ⟨h, rfl⟩
    · exact call_isinstance_yes p.typeIs (tyT _ (by simp)) PyProof.Rows.sub_tuple_tuple ⟨.bl true, H, I, rfl, q⟩
    · rcases h with rfl | rfl
      · exact isi_no (isinstance_false_tuple (by decide) (tyT _ (by simp)) PyProof.Rows.sub_tuple_int) ⟨⟨o, ho, hc⟩, .bl false, H, I.tok _, rfl, q⟩
      · exact isi_no (isinstance_false_tuple (by decide) (tyT _ (by simp)) PyProof.Rows.sub_tuple_list) ⟨⟨o, ho, hc⟩, .bl false, H, I.tok _, rfl, q⟩
  · cases rx
    obtain ⟨its, rv, p, hz⟩ := I.list hs
    obtain ⟨o, n, ho, hc, _⟩ := id p
    rcases h with ⟨rfl, rfl⟩ | ⟨h, rfl⟩
    · exact call_isinstance_yes p.isList.typeIs (tyT _ (by simp)) PyProof.Rows.sub_list_list ⟨.bl true, H, I, rfl, q⟩
    · rcases h with rfl | rfl
      · exact isi_no (isinstance_false_list (by decide) (tyT _ (by simp)) PyProof.Rows.sub_list_int) ⟨⟨o, ho, hc⟩, .bl false, H, I.tok _, rfl, q⟩
      · exact isi_no (isinstance_false_list (by decide) (tyT _ (by simp)) PyProof.Rows.sub_list_tuple) ⟨⟨o, ho, hc⟩, .bl false, H, I.tok _, rfl, q⟩
def gIsi : List D → (B → Prop) → Prop := g2 fun d e Q => match e with
  | .ty T => (match d with
    | .int _ => if T = "int" then Q (.pu (.bl true)) else if T = "bool" ∨ T = "tuple" ∨ T = "list" then Q (.pu (.bl false)) else False
    | .bl _ => if T = "int" ∨ T = "bool" then Q (.pu (.bl true)) else False
    | .tup _ => if T = "tuple" then Q (.pu (.bl true)) else if T = "int" ∨ T = "list" then Q (.pu (.bl false)) else False
    | .lst _ => if T = "list" then Q (.pu (.bl true)) else if T = "int" ∨ T = "tuple" then Q (.pu (.bl false)) else False
    | _ => False)
  | _ => False
theorem cu_isi : CallU X (.builtin "isinstance") gIsi := by
  intro A H ds vs Q0 Q hA r g k
  obtain ⟨d, e, v, w, rfl, rfl, rv, rw', g⟩ := g2_inv g r
  have no : ∀ {c : Bool}, Q0 (.pu (.bl c)) → Q (.bl c) H := fun z => k _ _ H z (.refl _) rep_bl
  cases e with
  | ty T =>
    rw [rep_ty rw']
    cases d with
    | int i =>
      rw [rep_int rv]
      by_cases h1 : T = "int"
      · simp only [h1, if_true] at g
        exact ⟨_, call_isi, _, T, true, rfl, no g, .inl ⟨i, rfl, .inl ⟨h1, rfl⟩⟩⟩
      · by_cases h2 : T = "bool" ∨ T = "tuple" ∨ T = "list"
        · simp only [h1, h2, if_true, if_false] at g
          exact ⟨_, call_isi, _, T, false, rfl, no g, .inl ⟨i, rfl, .inr ⟨h2, rfl⟩⟩⟩
        · simp only [h1, h2, if_false] at g
    | bl c =>
      rw [rep_blv rv]
      by_cases h1 : T = "int" ∨ T = "bool"
      · simp only [h1, if_true] at g
        exact ⟨_, call_isi, _, T, true, rfl, no g, .inr (.inl ⟨c, rfl, h1, rfl⟩)⟩
      · simp only [h1, if_false] at g
    | tup l =>
      obtain ⟨a, vs, rfl, c, rs⟩ := rv.one
      by_cases h1 : T = "tuple"
      · simp only [h1, if_true] at g
        exact ⟨_, call_isi, _, T, true, rfl, no g, .inr (.inr (.inl ⟨a, vs, rfl, c, .inl ⟨h1, rfl⟩⟩))⟩
      · by_cases h2 : T = "int" ∨ T = "list"
        · simp only [h1, h2, if_true, if_false] at g
          exact ⟨_, call_isi, _, T, false, rfl, no g, .inr (.inr (.inl ⟨a, vs, rfl, c, .inr ⟨h2, rfl⟩⟩))⟩
        · simp only [h1, h2, if_false] at g
    | lst l =>
      obtain ⟨a, vs, rfl, c, rs⟩ := rv.one
      by_cases h1 : T = "list"
      · simp only [h1, if_true] at g
        exact ⟨_, call_isi, _, T, true, rfl, no g, .inr (.inr (.inr ⟨a, vs, rfl, SqL.of c, .inl ⟨h1, rfl⟩⟩))⟩
      · by_cases h2 : T = "int" ∨ T = "tuple"
        · simp only [h1, h2, if_true, if_false] at g
          exact ⟨_, call_isi, _, T, false, rfl, no g, .inr (.inr (.inr ⟨a, vs, rfl, SqL.of c, .inr ⟨h2, rfl⟩⟩))⟩
        · simp only [h1, h2, if_false] at g
    | _ => exact (show False from g).elim
  | _ => exact (show False from g).elim
/-- a built-in type as a value -/
theorem pu_ty {x : Str} {T : String} {p : Pos} (hg : Gl X x) (hm : X.mg x = none) (hv : bootBuiltins x = some (.type T)) (hn : x ≠ "__name__" := by decide) (hd : (x == ("__debug__" : Str)) = false := by decide) : PU X (.Name x p) (uC (.ty T)) :=
  pu_glob (pe_bltn (v := .ty T) hg hm hv rfl hn hd) fun A H => by simp only [Rep]

/-! ### a def by its body -/
def init (N : List Str) (ds : List D) : Ev := ds.map (fun d => some (.pu d)) ++ List.replicate (N.length - ds.length) none
theorem init_get {N : List Str} {ds : List D} {i : Nat} {z : B} (h : (init N ds)[i]? = some (some z)) : ∃ d, z = .pu d ∧ ds[i]? = some d := by
  unfold init at h
  by_cases hi : i < ds.length
  · rw [List.getElem?_append_left (by simpa using hi), List.getElem?_map] at h
    cases e : ds[i]? with
    | none => rw [e] at h; cases h
    | some d => rw [e] at h; cases h; exact ⟨d, rfl, rfl⟩
  · rw [List.getElem?_append_right (by simpa using hi), List.getElem?_replicate] at h
    split at h <;> cases h
theorem init_ok {N : List Str} {ds : List D} {vs : List V} (hA : ∀ a, A a → H a ≠ none) (r : RepL K A H ds vs) : EOk K ⟨H, A⟩ (init N ds) (L2.start N vs) H := by
  have own : ∀ a, ¬ Own (init N ds) (L2.start N vs) a := fun a ⟨i, l, h1, _⟩ => by
    obtain ⟨d, e, _⟩ := init_get h1
    cases e
  refine ⟨?_, fun i d h => ?_, fun i l h => ?_, fun i j l l' a h => ?_, fun i l h => ?_, .refl _, hA⟩
  · unfold init L2.start
    simp [r.length]
  · obtain ⟨d', e, e2⟩ := init_get h
    cases e
    obtain ⟨v, h1, h2⟩ := r.get e2
    refine ⟨v, ?_, h2.mono (.sub (.refl _) fun a z => z.elim id fun z => absurd z (own a))⟩
    unfold L2.start
    have hv : i < vs.length := (List.getElem?_eq_some_iff.mp h1).1
    rw [List.getElem?_append_left (by simpa using hv), List.getElem?_map, h1]
    rfl
  · obtain ⟨d', e, _⟩ := init_get h
    cases e
  · obtain ⟨d', e, _⟩ := init_get h
    cases e
  · obtain ⟨d', e, _⟩ := init_get h
    cases e
theorem fn_pure {P : Program} {w : World} {K : PySem.W.Frag} {mg : Str → Option Value} {base : Heap} {x qual : Str} {st : Stmt} {f : Addr} {fd : FuncData} {N ps : List Str} {k : Nat} {φ : Φ} (F : Fun K x qual st f fd) (S : FnScope N ps (defScope st))
    (len : ∀ ds Q, φ ds Q → ds.length = ps.length)
    (body : ∀ (cdv : Value) (A : Around) (outer : List Env) (s : Shared) (H : Hp) (E : XK), Room k (A.deeper (envOfC qual (defScope st) s.heap.objs.size f cdv)) →
      ∃ t, PUSs (cxOf CX0 P w K mg base N qual (defScope st) f cdv A outer s H E).nox (defBody st) t ∧ ∀ ds Q, φ ds Q → t { nx := fun _ => Q (.pu .non), rt := Q } (init N ds)) :
    FnOk P w K mg base CX0 (k + 1) f fd ps (spP K φ) := by
  refine F.ok S (fun vs H Q E h => ?_) (fun cdv A outer s H vs Q E hr h => ?_)
  · obtain ⟨A, ds, Q0, _, r, h, _⟩ := h
    rw [← r.length]
    exact len ds Q0 h
  · obtain ⟨A', ds, Q0, hA, r, h, q⟩ := h
    obtain ⟨t, ht, hq⟩ := body cdv A outer s H E hr
    refine ⟨_, ht, ⟨H, A'⟩, init N ds, _, init_ok hA r, hq ds Q0 h, ⟨fun ρ σ H' z I => ?_, fun b v H' z s r => q b v H' z s r, fun _ _ _ z => z.elim, fun _ _ _ z => z.elim⟩⟩
    exact q _ _ H' z I.ext (show Rep _ _ _ _ _ by simp only [Rep])
end
end M

end
section
set_option Elab.async false
set_option linter.all false
set_option maxRecDepth 100000
namespace M
open PySem PySem.Spec PyProof.Rows L2

/-- a def of the text with its promise over data -/
structure Fn (P : Program) (w : World) (K : PySem.W.Frag) (mg : Str → Option Value) (base : Heap) (x : Str) (ps : List Str) (k : Nat) (φ : Φ) : Prop where
  ex : ∃ f fd, FnOk P w K mg base CX0 k f fd ps (spP K φ) ∧ Binds K fd ps [] ∧ PySem.W.keepIn K (.ref f) = true ∧ mg x = some (.ref f)
section
variable {X : Cx} {e : Expr} {es : List Expr} {pos : Pos}
theorem pu_fn {k k' : Nat} {ps : List Str} {φ : Φ} {x : Str} {p : Pos} {t : UA} (F : Fn X.prog X.w X.K X.mg X.base x ps k φ) (hr : Room k' X.A) (hk : k ≤ k') (hg : Gl X x) (ha : PUA X (e :: es) t) (hdb : (x == ("__debug__" : Str)) = false := by decide)
    (he : starEach (e :: es) X.env = (false, eval e X.env) :: starEach es X.env := by rfl) (hpl : (backTo pos (starEach es X.env)).any (·.1) = false := by rfl) : PU X (.Call (.Name x p) (e :: es) [] pos) (uCall φ t) := by
  obtain ⟨f, fd, G, b, kp, m⟩ := F.ex
  exact pu_call (E := E0) G (hr.mono hk) hg m kp b (fun _ _ _ _ _ _ _ h => h.elim) ha hdb he hpl
theorem pu_fn0 {k k' : Nat} {ps : List Str} {φ : Φ} {x : Str} {p : Pos} (F : Fn X.prog X.w X.K X.mg X.base x ps k φ) (hr : Room k' X.A) (hk : k ≤ k') (hg : Gl X x) (hdb : (x == ("__debug__" : Str)) = false := by decide) : PU X (.Call (.Name x p) [] [] pos) (uCall φ uNil) := by
  obtain ⟨f, fd, G, b, kp, m⟩ := F.ex
  exact pu_call0 (E := E0) G (hr.mono hk) hg m kp b (fun _ _ _ _ _ _ _ h => h.elim) hdb
theorem il {n i : Nat} (hn : X.N.length = n) (h : i < n) : ∀ pins σ H s, Inv X pins σ H s → i < σ.length := fun _ _ _ _ I => by rw [I.len, hn]; exact h
theorem il2 {n i j : Nat} (hn : X.N.length = n) (h : i < n) (h' : j < n) : ∀ pins σ H s, Inv X pins σ H s → i < σ.length ∧ j < σ.length := fun _ _ _ _ I => by rw [I.len, hn]; exact ⟨h, h'⟩
end
theorem Fn.mk' {P : Program} {w : World} {K : PySem.W.Frag} {mg : Str → Option Value} {base : Heap} {x qual : Str} {st : Stmt} {f : Addr} {fd : FuncData} {N ps : List Str} {k : Nat} {φ : Φ} (F : Fun K x qual st f fd) (m : mg x = some (.ref f)) (b : Binds K fd ps []) (S : FnScope N ps (defScope st))
    (len : ∀ ds Q, φ ds Q → ds.length = ps.length) {t : US}
    (der : ∀ (cdv : Value) (A : Around) (outer : List Env) (s : Shared) (H : Hp) (E : XK), Room k (A.deeper (envOfC qual (defScope st) s.heap.objs.size f cdv)) → PUSs (cxOf CX0 P w K mg base N qual (defScope st) f cdv A outer s H E).nox (defBody st) t)
    (rd : ∀ ds Q, φ ds Q → t { nx := fun _ => Q (.pu .non), rt := Q } (init N ds)) : Fn P w K mg base x ps (k + 1) φ :=
  ⟨f, fd, fn_pure F S len fun cdv A outer s H E hr => ⟨t, der cdv A outer s H E hr, rd⟩, b, F.kp, m⟩
/-- law(script) -/
def φLaw : Φ := fun ds Q => ∃ ns : List Int, ds = [.rol (ns.map .int)] ∧ ns.length ≤ 63 ∧ Q (.pu (.bl true))
theorem repL_ints {K : PySem.W.Frag} {A : AS} {H : Hp} : ∀ ns : List Int, RepL K A H (ns.map .int) (ns.map V.int)
  | [] => .nil
  | n :: ns => .cons (by simp only [Rep]) (repL_ints ns)
theorem law_sp {K : PySem.W.Frag} {H : Hp} {a : Addr} {ns : List Int} (hl : ns.length ≤ 63) (hS : SqL K H a (ns.map V.int)) : spP K φLaw [.ref a] H (fun v _ => v = .bl true) (fun _ _ _ => False) := by
  refine ⟨fun _ => False, [.rol (ns.map .int)], fun b => b = .pu (.bl true), fun _ z => z.elim, .cons ?_ .nil, ⟨ns, rfl, hl, rfl⟩, fun b v H' q s r => ?_⟩
  · simp only [Rep]
    exact ⟨a, _, rfl, hS.imp (fun z => ⟨fun z => z, z⟩) id, repL_ints ns⟩
  · subst q
    have r' : Rep K (fun _ => False) H' (.bl true) v := r
    exact rep_blv r'
theorem walkM {l : PySem.W.OpenLaw} {k : Nat} {x : Str} {q : Program} {loose : List Str} {XP : (Str → Option Value) → Heap → Prop} {YP : World → Heap → Prop} {d : DefRec} {K : Params → PySem.W.Frag} (hn : l.most = some 63) (hdf : d.params.defaults = []) (hr : Room k callerA)
    (hY : ∀ (w : World) (h : Heap), YP w h → (K w.params).In h)
    (F : ∀ (w : World) (mg : Str → Option Value) (fa : Addr) (h : Heap), (K w.params).In h → h.Ns mainGlobals mg → mg d.name = some (.ref fa) →
      ∃ fd : FuncData, (∀ (s : Shared) (u : Value), BindsTo s fd ⟨[u], []⟩ [(x, u)]) ∧ ∀ base : Heap, (K w.params).In base → base.Ns mainGlobals mg → FnOk l.prog w (K w.params) mg base CX0 k fa fd [x] (spP (K w.params) φLaw)) :
    PySem.W.WalkO q loose XP YP l.row.toRowW d [] (fun f vs => PySem.call f vs) :=
  L2.walk_of (n := 63) (k := k) (x := x) (CX := fun _ => CX0) (sp := fun w => spP (K w.params) φLaw) hn (by decide) hdf hr hY F (fun _ _ a ns hl _ hS => law_sp hl hS) fun _ _ _ _ _ z => z
end M

end
section
set_option Elab.async false
set_option linter.all false
set_option maxRecDepth 100000
namespace L2
open PySem PySem.Spec PyProof.Rows

/-! ### comprehensions: the block -/
def blockCx (X : Cx) (N : List Str) (scope : Scope) (cl : List (Str × Addr)) (C : Addr) (s : Shared) (H : Hp) (fp : List Addr) (pins : List (Addr × Obj)) : Cx where
  prog := X.prog
  w := X.w
  K := X.K
  mg := X.mg
  base := X.base
  A := X.A
  N := N
  s₀ := s
  H₀ := H
  env := compEnvC scope cl C X.env
  outer := X.stack
  stack := X.stack
  ex := fp
  fn := fun x => scope.names.lookup x == some .cell
  calm := X.calm
  pn := X.pn ++ pins
  xe := fun _ _ => False

theorem closure_some {env : Env} : ∀ (names : List (Str × NameKind)), (∀ y ∈ names, y.2 = .free → ∃ c, env.cells.lookup y.1 = some c) → ∀ cs : List (Str × Addr), (∀ x c, cs.lookup x = some c → env.cells.lookup x = some c) →
    ∃ cl, (forIn names cs fun (x : Str × NameKind) r => (do if (x.2 == NameKind.free) = true then do let c ← cellOf env x.1; pure (ForInStep.yield ((x.1, c) :: r)) else pure (ForInStep.yield r)) : Sem (List (Str × Addr))) = pure cl ∧
      (∀ x c, cl.lookup x = some c → env.cells.lookup x = some c) ∧ (∀ x c, cs.lookup x = some c → ∃ c', cl.lookup x = some c') ∧ ∀ y ∈ names, y.2 = .free → ∃ c, cl.lookup y.1 = some c
  | [], _, cs, hcs => ⟨cs, rfl, hcs, fun x c h => ⟨c, h⟩, fun y hy => by simp at hy⟩
  | (n, k) :: r, h, cs, hcs => by
    have hr : ∀ y ∈ r, y.2 = .free → ∃ c, env.cells.lookup y.1 = some c := fun y hy => h y (List.mem_cons_of_mem _ hy)
    by_cases hk : k = .free
    · subst hk
      obtain ⟨c, hc⟩ := h (n, .free) List.mem_cons_self rfl
      have e1 : cellOf env n = pure c := by unfold cellOf; rw [hc]
      have hcs' : ∀ x c', List.lookup x ((n, c) :: cs) = some c' → env.cells.lookup x = some c' := fun x c' q => by
        rw [List.lookup_cons] at q
        split at q
        · rename_i e
          have : x = n := by simpa using e
          subst this
          cases q; exact hc
        · exact hcs x c' q
      obtain ⟨cl, h1, h2, h3, h4⟩ := closure_some r hr ((n, c) :: cs) hcs'
      have hn : ∃ c', cl.lookup n = some c' := h3 n c (by rw [List.lookup_cons]; simp)
      refine ⟨cl, ?_, h2, fun x c' q => ?_, fun y hy hf => ?_⟩
      · rw [List.forIn_cons]
        show (do let c ← cellOf env n; pure (ForInStep.yield ((n, c) :: cs))) >>= _ = _
        rw [e1]
        exact h1
      · by_cases z : x = n
        · subst z; exact hn
        · refine h3 x c' ?_
          rw [List.lookup_cons]
          have : (x == n) = false := by simpa using z
          rw [this]; exact q
      · rcases List.mem_cons.mp hy with rfl | hy
        · exact hn
        · exact h4 y hy hf
    · obtain ⟨cl, h1, h2, h3, h4⟩ := closure_some r hr cs hcs
      refine ⟨cl, ?_, h2, h3, fun y hy hf => ?_⟩
      · rw [List.forIn_cons]
        have : (k == NameKind.free) = false := by simpa using hk
        show (if (k == NameKind.free) = true then _ else _) >>= _ = _
        rw [this]
        exact h1
      · rcases List.mem_cons.mp hy with rfl | hy
        · exact absurd hf hk
        · exact h4 y hy hf

structure BlockScope (env : Env) (XN N : List Str) (cap : List (Option Nat)) (scope : Scope) : Prop where
  kind : scope.kind = .function
  owns : ∀ y ∈ scope.names, y.2 = .cell → scope.names.lookup y.1 = some .cell
  freeK : ∀ y ∈ scope.names, y.2 = .free → scope.names.lookup y.1 = some .free
  names : ∀ y ∈ scope.names, y.2 = .local → scope.names.lookup y.1 = some .local
  frees : ∀ y ∈ scope.names, y.2 = .free → env.kindOf y.1 = some .cell ∨ env.kindOf y.1 = some .free
  caps : ∀ (i j : Nat) (x : Str), N[i]? = some x → cap[i]? = some (some j) → XN[j]? = some x ∧ (x, NameKind.free) ∈ scope.names ∧ scope.names.lookup x = some .free
  len : cap.length = N.length

/-- the block's values at its entry -/
def capSt (σ : L2.St) (cap : List (Option Nat)) (last : Nat) (D : Addr) : L2.St := (cap.map fun c => c.bind fun j => (σ[j]?).join).set last (some (.ref D))
theorem relabel_lookup {env : Env} {x : Str} {k : NameKind} : ∀ {names : List (Str × NameKind)}, names.lookup x = some k →
    (names.map fun (n, k) => if (k == NameKind.free && env.scope.kind == .function && env.kindOf n == some .cell) then (n, NameKind.cell) else (n, k)).lookup x =
      some (if (k == NameKind.free && env.scope.kind == .function && env.kindOf x == some .cell) then NameKind.cell else k)
  | [], h => by simp at h
  | (n, k') :: r, h => by
    rw [List.map_cons]
    rw [List.lookup_cons] at h
    dsimp only
    by_cases e : (x == n) = true
    · have e' : x = n := by simpa using e
      subst e'
      rw [e] at h
      cases h
      split <;> simp
    · have e2 : (x == n) = false := by simpa using e
      rw [e2] at h
      have ih := relabel_lookup (env := env) h
      split
      · rw [List.lookup_cons, e2]; exact ih
      · rw [List.lookup_cons, e2]; exact ih
theorem relabel_back {env : Env} {x : Str} {k : NameKind} : ∀ {names : List (Str × NameKind)}, (names.map fun (n, k) => if (k == NameKind.free && env.scope.kind == .function && env.kindOf n == some .cell) then (n, NameKind.cell) else (n, k)).lookup x = some k →
    ∃ k', names.lookup x = some k' ∧ (x, k') ∈ names ∧ (k = k' ∨ k' = .free)
  | [], h => by simp at h
  | (n, k') :: r, h => by
    rw [List.map_cons] at h
    dsimp only at h
    by_cases e : (x == n) = true
    · have e' : x = n := by simpa using e
      subst e'
      refine ⟨k', by rw [List.lookup_cons, e], List.mem_cons_self, ?_⟩
      split at h
      · rename_i c
        right
        simp only [Bool.and_eq_true, beq_iff_eq] at c
        exact c.1.1
      · rw [List.lookup_cons, e] at h
        cases h; exact .inl rfl
    · have e2 : (x == n) = false := by simpa using e
      have h' : (r.map fun (n, k) => if (k == NameKind.free && env.scope.kind == .function && env.kindOf n == some .cell) then (n, NameKind.cell) else (n, k)).lookup x = some k := by
        split at h
        · rw [List.lookup_cons, e2] at h; exact h
        · rw [List.lookup_cons, e2] at h; exact h
      obtain ⟨k2, h1, h2, h3⟩ := relabel_back h'
      exact ⟨k2, by rw [List.lookup_cons, e2]; exact h1, List.mem_cons_of_mem _ h2, h3⟩

/-! own cells of a block -/
theorem cells_src {x : Str} {c : Addr} : ∀ (names : List (Str × NameKind)) (h : Heap) (acc : List (Str × Addr)), (cellsFrom h.objs.size names acc).lookup x = some c →
    acc.lookup x = some c ∨ (h.objs.size ≤ c ∧ (x, NameKind.cell) ∈ names ∧ (pushCells h names).IsCell c none)
  | [], _, _, e => .inl e
  | (y, k) :: r, h, acc, e => by
    unfold cellsFrom at e
    unfold pushCells
    by_cases hk : (k == NameKind.cell) = true
    · rw [if_pos hk] at e ⊢
      have hk' : k = .cell := by simpa using hk
      have sz : (h.push { cls := .type "cell", data := .cell none }).objs.size = h.objs.size + 1 := Heap.size_push ..
      rw [← sz] at e
      rcases cells_src r _ _ e with q | ⟨q1, q2, q3⟩
      · rw [List.lookup_cons] at q
        split at q
        · rename_i e1
          have : x = y := by simpa using e1
          subst this
          cases q
          exact .inr ⟨Nat.le_refl _, by rw [hk']; exact List.mem_cons_self, ⟨_, pushCells_keeps _ _ _ _ (Heap.get?_push_size _ rfl), rfl⟩⟩
        · exact .inl q
      · exact .inr ⟨by omega, List.mem_cons_of_mem _ q2, q3⟩
    · rw [if_neg hk] at e ⊢
      rcases cells_src r h acc e with q | ⟨q1, q2, q3⟩
      · exact .inl q
      · exact .inr ⟨q1, List.mem_cons_of_mem _ q2, q3⟩
theorem cells_inj : ∀ (names : List (Str × NameKind)) (n : Nat) (acc : List (Str × Addr)), (∀ x c, acc.lookup x = some c → c < n) → (∀ x y c, acc.lookup x = some c → acc.lookup y = some c → x = y) →
    ∀ x y c, (cellsFrom n names acc).lookup x = some c → (cellsFrom n names acc).lookup y = some c → x = y
  | [], _, _, _, hi => hi
  | (z, k) :: r, n, acc, hl, hi => by
    unfold cellsFrom
    by_cases hk : (k == NameKind.cell) = true
    · rw [if_pos hk]
      refine cells_inj r (n + 1) _ (fun x c e => ?_) (fun x y c e1 e2 => ?_)
      · rw [List.lookup_cons] at e
        split at e
        · cases e; exact Nat.lt_succ_self n
        · exact Nat.lt_succ_of_lt (hl x c e)
      · rw [List.lookup_cons] at e1 e2
        split at e1
        · rename_i q1
          cases e1
          split at e2
          · rename_i q2
            exact (by simpa using q1 : x = z).trans (by simpa using q2 : y = z).symm
          · exact absurd (hl y _ e2) (Nat.lt_irrefl _)
        · split at e2
          · cases e2
            exact absurd (hl x _ e1) (Nat.lt_irrefl _)
          · exact hi x y c e1 e2
    · rw [if_neg hk]
      exact cells_inj r n acc hl hi
theorem cells_own {x : Str} {c : Addr} : ∀ (names : List (Str × NameKind)) (n : Nat) (acc : List (Str × Addr)), ((x, NameKind.cell) ∈ names ∨ ∀ c, acc.lookup x = some c → n ≤ c) → (cellsFrom n names acc).lookup x = some c → n ≤ c
  | [], _, _, h, e => by
    rcases h with h | h
    · simp at h
    · exact h c e
  | (z, k) :: r, n, acc, h, e => by
    unfold cellsFrom at e
    by_cases hk : (k == NameKind.cell) = true
    · rw [if_pos hk] at e
      have hk' : k = .cell := by simpa using hk
      rcases h with h | h
      · rcases List.mem_cons.mp h with h | h
        · cases h
          have : n ≤ c := by
            by_cases q : ∃ c', (cellsFrom (n + 1) r ((x, n) :: acc)).lookup x = some c' ∧ (x, NameKind.cell) ∈ r
            · obtain ⟨c', e', m⟩ := q
              have := cells_own (c := c) r (n + 1) _ (.inl m) e
              omega
            · have nm : (x, NameKind.cell) ∉ r := fun m => q ⟨c, e, m⟩
              have := cells_keep r (n + 1) ((x, n) :: acc) nm
              rw [this, List.lookup_cons] at e
              simp at e
              exact Nat.le_of_eq e
          exact this
        · have := cells_own (c := c) r (n + 1) _ (.inl h) e
          omega
      · by_cases q : (x, NameKind.cell) ∈ r
        · have := cells_own (c := c) r (n + 1) _ (.inl q) e
          omega
        · have := cells_keep r (n + 1) ((z, n) :: acc) q
          rw [this, List.lookup_cons] at e
          split at e
          · cases e; exact Nat.le_refl _
          · exact h c e
    · rw [if_neg hk] at e
      refine cells_own (c := c) r n acc (h.imp (fun m => ?_) id) e
      rcases List.mem_cons.mp m with m | m
      · cases m; exact absurd (by decide) hk
      · exact m
where
  cells_keep {x : Str} : ∀ (names : List (Str × NameKind)) (n : Nat) (acc : List (Str × Addr)), (x, NameKind.cell) ∉ names → (cellsFrom n names acc).lookup x = acc.lookup x
  | [], _, _, _ => rfl
  | (z, k) :: r, n, acc, h => by
    unfold cellsFrom
    by_cases hk : (k == NameKind.cell) = true
    · rw [if_pos hk]
      have hk' : k = .cell := by simpa using hk
      rw [cells_keep r (n + 1) _ fun m => h (List.mem_cons_of_mem _ m), List.lookup_cons]
      split
      · rename_i e
        have : x = z := by simpa using e
        subst this
        exact absurd (by rw [hk']; exact List.mem_cons_self) h
      · rfl
    · rw [if_neg hk]
      exact cells_keep r n acc fun m => h (List.mem_cons_of_mem _ m)
theorem cells_keep {x : Str} (names : List (Str × NameKind)) (n : Nat) (acc : List (Str × Addr)) (h : (x, NameKind.cell) ∉ names) : (cellsFrom n names acc).lookup x = acc.lookup x := cells_own.cells_keep names n acc h
theorem newEnv_block {M : Model} {A : Around} {E : Value → Shared → Prop} {s : Shared} {scope : Scope} {globals : Addr} {cl : List (Str × Addr)} {qual : Str} {env0 : Env} {Q : Env → Shared → Prop}
    (hQ : Q { scope := scope, locals := s.heap.objs.size, globals := globals, cells := cellsFrom (s.heap.objs.size + 1) scope.names cl, qual := qual, func := none, code := env0.code, frame := env0.frame, builtins := env0.builtins } { s with heap := pushCells (s.heap.push { cls := .type "dict", data := .dict #[] }) scope.names }) :
    wpAny M A (newFunctionEnv scope globals cl [] qual none .none (some env0)) Q E s := by
  simp only [newFunctionEnv, Option.isSome_some, if_true]
  refine wpAny_bind (wpAny_alloc ?_)
  refine wpAny_bind (wpAny_layCells _ (fun name kind cells => by cases hkc : kind == NameKind.cell <;> simp [hkc]) _ _ _ _ ?_)
  rw [show ({ s with heap := s.heap.push { cls := .type "dict", data := .dict #[] } } : Shared).heap.objs.size = s.heap.objs.size + 1 from Heap.size_push ..]
  rw [List.forIn_nil]
  exact wpAny_bind (wpAny_pure (wpAny_pure hQ))
section
variable {X : Cx} {pins : List (Addr × Obj)} {σ : L2.St} {H : Hp} {s : Shared} {N : List Str} {cap : List (Option Nat)} {scope : Scope}
/-- the block's entry -/
theorem block_start {fp : List Addr} {last : Nat} {D : Addr} {cl0 cl : List (Str × Addr)} {h1 : Heap} {m0 : Str → Option Value} {tk : Nat} (S : BlockScope X.env X.N N cap scope) (I : Inv X pins σ H s) (hf : ∀ b ∈ fp, FpOk X pins H b) (hfs : ∀ b ∈ fp, b < s.heap.objs.size)
    (hcl : ∀ x c, cl0.lookup x = some c → X.env.cells.lookup x = some c) (hcl2 : ∀ y ∈ scope.names, y.2 = .free → ∃ c, cl0.lookup y.1 = some c) (hN : ∀ x, N[last]? = some x → scope.names.lookup x = none)
    (hns : h1.Ns s.heap.objs.size m0) (hk : ∀ b o, s.heap.get? b = some o → h1.get? b = some o)
    (c1 : ∀ x c, cl.lookup x = some c → cl0.lookup x = some c ∨ (s.heap.objs.size < c ∧ h1.IsCell c none)) (c2 : ∀ x y c, cl.lookup x = some c → cl.lookup y = some c → x = y)
    (c3 : ∀ x, (x, NameKind.free) ∈ scope.names → cl.lookup x = cl0.lookup x) (c4 : ∀ x, scope.names.lookup x = some .cell → ∃ c, cl.lookup x = some c) (c5 : ∀ x c, scope.names.lookup x = some .cell → cl.lookup x = some c → s.heap.objs.size ≤ c) :
    Inv (blockCx X N scope cl s.heap.objs.size s H fp pins) [] (capSt σ cap last D) H { s with heap := h1, toks := tk } := by
  have sz : X.base.objs.size ≤ s.heap.objs.size := Nat.le_trans I.ok.bsz I.sz
  have kindF : ∀ x, (blockCx X N scope cl s.heap.objs.size s H fp pins).env.kindOf x = some .cell ∨ (blockCx X N scope cl s.heap.objs.size s H fp pins).env.kindOf x = some .free → (x, NameKind.free) ∈ scope.names ∨ scope.names.lookup x = some .cell := fun x h => by
    have : ∃ k, (k = .cell ∨ k = .free) ∧ (relabel scope X.env).names.lookup x = some k := by
      rcases h with h | h
      · exact ⟨_, .inl rfl, h⟩
      · exact ⟨_, .inr rfl, h⟩
    obtain ⟨k, hk, h⟩ := this
    obtain ⟨k', h1, h2, h3⟩ := relabel_back h
    rcases h3 with rfl | rfl
    · rcases hk with rfl | rfl
      · exact .inr (S.owns _ h2 rfl)
      · exact .inl h2
    · exact .inl h2
  have cne : ∀ x c, cl.lookup x = some c → ∀ b ∈ fp, c ≠ b := fun x c h b hb => by
    rcases c1 x c h with q | ⟨q, _⟩
    · exact (hf b hb).2.2.2.2.1 x c (hcl x c q)
    · exact fun z => by subst z; exact absurd (Nat.lt_trans q (hfs c hb)) (Nat.lt_irrefl _)
  refine ⟨⟨I.ok.mod, S.kind, I.ok.glob, I.ok.blt, Nat.le_refl _, c2, fun x h => ?_, fun x c h e => ?_, I.ok.hd, I.ok.frames, .inl rfl, fun b hb => ?_, I.bs, sz, fun b o e hb => ?_, fun b hb => ?_, I.stack, I.stkFree⟩,
    rfl, I.bare, Un.kept hk, ⟨m0, hns, fun i x v e1 e2 e3 => ?_⟩, fun x c h => ?_, I.hok.fresh (Nat.le_refl _), fun x c h => ?_, fun p hp => ?_, I.hok.kept hk, ?_⟩
  · rcases kindF x h with q | q
    · obtain ⟨c, e⟩ := hcl2 _ q rfl
      exact ⟨c, (c3 x q).trans e⟩
    · exact c4 x q
  · exact c5 x c (by simpa using (show (scope.names.lookup x == some NameKind.cell) = true from h)) e
  · exact ⟨Nat.ne_of_lt (hfs b hb), fun x c h => cne x c h b hb⟩
  · rcases (hf b hb).2.2.2.1 with z | z
    · exact I.ok.noex b o e z
    · have := Heap.lt_size e
      exact absurd (Nat.lt_of_lt_of_le this (Nat.le_trans I.ok.bsz z)) (Nat.lt_irrefl _)
  · intro z
    rcases List.mem_cons.mp (I.stkSub b z) with z | z
    · exact (hf b hb).2.1 z
    · exact (hf b hb).2.2.1 z
  · have e1' : N[i]? = some x := e1
    unfold capSt at e2
    by_cases hl : last = i
    · subst hl
      have z := hN x e1'
      rcases e3 with e3 | e3 | e3
      · obtain ⟨k', h1, _⟩ := relabel_back (show (relabel scope X.env).names.lookup x = _ from e3)
        rw [z] at h1; cases h1
      · obtain ⟨k', h1, _⟩ := relabel_back (show (relabel scope X.env).names.lookup x = _ from e3)
        rw [z] at h1; cases h1
      · obtain ⟨k', h1, _⟩ := relabel_back (show (relabel scope X.env).names.lookup x = _ from e3)
        rw [z] at h1; cases h1
    · rw [M.get_set_ne hl, List.getElem?_map] at e2
      cases e4 : cap[i]? with
      | none => rw [e4] at e2; cases e2
      | some c =>
        rw [e4] at e2
        cases c with
        | none => cases e2
        | some j =>
          have e2' : (σ[j]?).join = some v := by simpa using e2
          have e5 : σ[j]? = some (some v) := by
            cases q : σ[j]? with
            | none => rw [q] at e2'; cases e2'
            | some w => rw [q] at e2'; cases w with
              | none => cases e2'
              | some w' => cases e2'; rfl
          obtain ⟨a1, a2, a3⟩ := S.caps i j x e1' e4
          have kx := S.frees _ a2 rfl
          obtain ⟨m, hn, hl'⟩ := I.loc
          have vis : Vis X.env.scope x := by
            rcases kx with kx | kx
            · exact .inr (.inl kx)
            · exact .inr (.inr kx)
          obtain ⟨u, r, l⟩ := hl' j x v a1 e5 vis
          refine ⟨u, r, .inr ⟨?_, ?_⟩⟩
          · have q := relabel_lookup (env := X.env) a3
            show (relabel scope X.env).names.lookup x = _ ∨ (relabel scope X.env).names.lookup x = _
            unfold relabel
            dsimp only
            rw [q]
            split
            · exact .inl rfl
            · exact .inr rfl
          · rcases l with ⟨l, _⟩ | ⟨_, c, hc, hcell⟩
            · rcases kx with kx | kx <;> · rw [kx] at l; cases l
            · obtain ⟨c', hc'⟩ := hcl2 _ a2 rfl
              have := hcl x c' hc'
              rw [hc] at this; cases this
              obtain ⟨o, ho, hd⟩ := hcell
              exact ⟨c, (c3 x a2).trans hc', o, hk _ _ ho, hd⟩
  · rcases c1 x c h with q | ⟨_, q⟩
    · obtain ⟨v, o, ho, hd⟩ := I.cell x c (hcl x c q)
      exact ⟨v, o, hk _ _ ho, hd⟩
    · exact ⟨_, q⟩
  · rcases c1 x c h with q | ⟨q, _⟩
    · exact I.freeC x c (hcl x c q)
    · exact I.hok.fresh (Nat.le_of_lt q)
  · have hp' : p ∈ X.pn ++ pins := by
      have : p ∈ (X.pn ++ pins) ++ [] := hp
      simpa using this
    obtain ⟨a1, a2, a3, a4, a5⟩ := I.pin p hp'
    refine ⟨hk _ _ a1, a2, Nat.ne_of_lt (Heap.lt_size a1), fun z => ?_, a5⟩
    rcases List.mem_cons.mp (I.stkSub p.1 z) with z | z
    · exact a3 z
    · exact a4 z
  · unfold capSt
    rw [List.length_set, List.length_map]
    exact S.len
/-- the block's end: back in the frame -/
theorem block_end {fp : List Addr} {cl : List (Str × Addr)} {C : Addr} {σ' : L2.St} {H' : Hp} {s' : Shared} {h2 : Heap} {pins' : List (Addr × Obj)} (I : Inv X pins σ H s) (hf : ∀ b ∈ fp, FpOk X pins H b) (hC : s.heap.objs.size ≤ C)
    (I' : Inv (blockCx X N scope cl C s H fp pins) pins' σ' H' s') (hs : Heap.SameBut C s'.heap h2) : Inv X pins σ H' { s' with heap := h2 } := by
  have nC : ∀ b o, s.heap.get? b = some o → b ≠ C := fun b o e z => by
    subst z
    exact absurd (Nat.lt_of_lt_of_le (Heap.lt_size e) hC) (Nat.lt_irrefl _)
  have get : ∀ b, b ≠ C → h2.get? b = s'.heap.get? b := fun b hb => hs.2 b hb
  have U := I'.base
  have u : Un (frs X.stack) fp H H' s.heap h2 := by
    refine ⟨fun b o e n h1 hx => ?_, fun b o e n h1 hx => ?_, U.free, fun b o e hx => ?_, U.tups, U.frzs, U.tbls⟩
    · rw [get b (nC b o e)]; exact U.keep b o e n h1 hx
    · rw [get b (nC b o e)]; exact U.slot b o e n h1 hx
    · rw [get b (nC b o e)]; exact U.there b o e hx
  have fC : H' C = none := I'.free
  have hok : HOk X.prog X.w H' h2 := fun a o e => by
    have na : a ≠ C := fun z => by subst z; rw [fC] at e; cases e
    refine (I'.hok a o e).stay (fun b u hb q => ?_) (fun _ q => q) fun _ _ q => q
    have nb : b ≠ C := by
      rcases hb with rfl | hb
      · exact na
      · exact fun z => by subst z; rw [fC] at hb; cases hb
    rw [get b nb]; exact q
  obtain ⟨hh, gg, dd, tt, oo⟩ := s'
  have eo : oo = s.os := I'.os
  subst eo
  have fin := I.call (h' := h2) (g' := gg) (d' := dd) (t' := tt) (ch := fp) u hok I'.bare fun b hb => ⟨(hf b hb).2.2.2.1, (hf b hb).2.1, (hf b hb).2.2.2.2.1, (hf b hb).2.2.2.2.2⟩
  exact fin
end
theorem codeAny_compLoop_any {prog : Program} {w : World} {A : Around} {R : Result → Shared → Prop} {s : Shared} {elt target iter : Expr} {ifs : List Expr} {scope : Scope} {pos : Pos} {it acc : Value} {env : Env} (I : Nat → Shared → Prop)
    (turn : ∀ n s, I n s → wpAny (model prog w) A (pyNext it) (fun r s₁ => match r with
      | none => R (.ok .next) s₁
      | some v => wpAny (model prog w) A (letOwnedTupleGo target it v) (fun _ s₂ => wpAny (model prog w) A (assign target env v) (fun _ s₂ =>
          wpAny (model prog w) A (forIn ifs true fun c r => if r = true then do let ok ← isTrue c env (eval c env); pure (ForInStep.yield ok) else pure (ForInStep.yield r)) (fun ok s₃ =>
            if ok = true then wpAny (model prog w) A (eval elt env) (fun x s₄ =>
              wpAny (model prog w) A (call (.builtin "list.append") [acc, x]) (fun _ s₅ => ∃ m, m < n ∧ I m s₅) (notedBy (model prog w) A env fun e s' => R (.error e) s') s₄) (notedBy (model prog w) A env fun e s' => R (.error e) s') s₃
            else ∃ m, m < n ∧ I m s₃) (notedBy (model prog w) A env fun e s' => R (.error e) s') s₂) (notedBy (model prog w) A env fun e s' => R (.error e) s') s₂) (notedBy (model prog w) A env fun e s' => R (.error e) s') s₁) (notedBy (model prog w) A env fun e s' => R (.error e) s') s)
    (n : Nat) (h : I n s) : codeAny (model prog w) A (.compLoop (.ListComp elt [⟨target, iter, ifs, 0⟩] scope pos) 0 it acc env) R s := by
  refine codeAny_loop rfl I (fun n s hI => ?_) n h
  show wpAny _ A ((compTurn (.ListComp elt [⟨target, iter, ifs, 0⟩] scope pos) 0 it acc env).onRaise (fun x => do noteFrame x env; theTreesLotGoes x)) _ _ s
  refine wpAny_noted ?_
  rw [compTurn_list]
  refine wpAny_bind (wpAny_standAt (wpAny_bind (wpAny_mono (turn n s hI) (fun r s₁ h₁ => ?_) fun _ _ h' => h')))
  cases r with
  | none => exact wpAny_pure h₁
  | some v =>
    refine wpAny_bind (wpAny_mono h₁ (fun _ s₂ h₂ => wpAny_bind (wpAny_mono h₂ (fun _ s₂ h₂ => wpAny_bind (wpAny_mono h₂ (fun ok s₃ h₃ => ?_) fun _ _ h' => h')) fun _ _ h' => h')) fun _ _ h' => h')
    cases ok with
    | false => exact wpAny_pure ⟨rfl, h₃⟩
    | true =>
      exact wpAny_bind (wpAny_bind (wpAny_mono h₃ (fun x s₄ h₄ => wpAny_bind (wpAny_mono h₄ (fun _ s₅ h₅ => wpAny_pure (wpAny_pure ⟨rfl, h₅⟩)) fun _ _ h' => h')) fun _ _ h' => h'))

/-- the tests of a clause: none, or one -/
def PTs (X : Cx) (ifs : List Expr) (t : TT) : Prop :=
  ∀ (pins : List (Addr × Obj)) (s : Shared) (σ : L2.St) (H : Hp) (Q : Bool → Hp → Prop), Inv X pins σ H s → t σ H Q →
    wpAny (model X.prog X.w) X.A (forIn ifs true fun c r => if r = true then do let ok ← isTrue c X.env (eval c X.env); pure (ForInStep.yield ok) else pure (ForInStep.yield r)) (TP X pins σ Q) X.xe s
theorem pts_nil {X : Cx} : PTs X [] (fun _ H Q => Q true H) := fun pins s σ H Q I h => wpAny_tests_nil ⟨H, I, h⟩
theorem pts_one {X : Cx} {c : Expr} {t : TT} (h : PT X c t) : PTs X [c] t := fun pins s σ H Q I q => wpAny_tests_one (h pins s σ H Q I q)

/-- what a comprehension wants: W the word between two turns; D the new list -/
def tComp (cap : List (Option Nat)) (last : Nat) (wi : TI) (g : TG) (tt : TT) (te : TE) : TE := fun σ H Q => wi σ H fun J H1 => ∀ D, H1 D = none → ∃ W : Nat → Nat → L2.St → Hp → Prop, (∃ m, W 0 m (capSt σ cap last D) (upd H1 D (.lst []))) ∧ ∀ i m σ' H', W i m σ' H' →
  (J.stop i H' ∧ Q (.ref D) H') ∨ (J.go i H' ∧ ∃ Nx : L2.St → Hp → Prop, (∀ σ2 H2, Nx σ2 H2 → ∃ m', m' < m ∧ W (i + 1) m' σ2 H2) ∧ ∀ x H2, J.yld i H' x H2 → g x σ' H2 fun σ3 H3 => tt σ3 H3 fun c H4 =>
    if c = true then te σ3 H4 fun y H5 => ∃ ys, H5 D = some (.lst ys) ∧ ys.length < sizeLine ∧ Nx σ3 (upd H5 D (.lst (ys ++ [y]))) else Nx σ3 H4)
theorem comp_core {X : Cx} {RR : Value → Addr → Result → Shared → Prop} {elt iter tg : Expr} {ifs : List Expr} {scope : Scope} {pos : Pos} {N : List Str} {cap : List (Option Nat)} {last : Nat} {wi : TI} {g : TG} {tt : TT} {te : TE} (hc : X.calm = true) (hi : PI X tg iter wi) (S : BlockScope X.env X.N N cap scope)
    (hN : ∀ x, N[last]? = some x → scope.names.lookup x = none)
    (hg : ∀ cl C s H fp pins, PG (blockCx X N scope cl C s H fp pins) tg g) (ht : ∀ cl C s H fp pins, PTs (blockCx X N scope cl C s H fp pins) ifs tt) (he : ∀ cl C s H fp pins, PE (blockCx X N scope cl C s H fp pins) elt te)
    {pins : List (Addr × Obj)} {s : Shared} {σ : L2.St} {H : Hp} {Q : VK} {cl : List (Str × Addr)} (I : Inv X pins σ H s) (h : tComp cap last wi g tt te σ H Q) (hcl : ∀ x c, cl.lookup x = some c → X.env.cells.lookup x = some c) (hcl2 : ∀ y ∈ scope.names, y.2 = .free → ∃ c, cl.lookup y.1 = some c)
    (fin : ∀ (D : Addr) (fp : List Addr) (H3 : Hp) (s3 : Shared) (σ' : L2.St) (H' : Hp) (s' : Shared), Inv X pins σ H3 s3 → (∀ b ∈ fp, FpOk X pins H3 b) → Inv (blockCx X N scope (cellsFrom (s3.heap.objs.size + 1) scope.names cl) s3.heap.objs.size s3 H3 fp pins) [] σ' H' s' → Q (.ref D) H' → RR (.ref D) s3.heap.objs.size (.ok .next) s') :
    wpAny (model X.prog X.w) X.A (eval iter X.env) (fun x s₁ => wpAny (model X.prog X.w) X.A (pyIter x) (fun it s₂ => wpAny (model X.prog X.w) X.A (newList []) (fun acc s₃ =>
      wpAny (model X.prog X.w) X.A (newFunctionEnv scope X.env.globals cl [] X.env.qual none .none (some X.env)) (fun cenv s₄ =>
        codeAny (model X.prog X.w) X.A (.compStart (.ListComp elt [⟨tg, iter, ifs, 0⟩] scope pos) 0 it acc { cenv with scope := relabel scope X.env }) (RR acc cenv.locals) s₄) X.xe s₃) X.xe s₂) X.xe s₁) X.xe s := by
  refine thn (hi pins s σ H _ I h) fun xv s1 h1 => thn h1 fun it s2 h2 => ?_
  obtain ⟨ita, fp, tn, J, H2, rfl, I2, T, st2, f2, q⟩ := h2
  refine wpAny_newObj_type ?_ (by show 0 ≤ sizeLine; decide)
  have fD : H2 s2.heap.objs.size = none := I2.hok.fresh (Nat.le_refl _)
  obtain ⟨W, ⟨m0, w0⟩, turn⟩ := q s2.heap.objs.size fD
  have I3 : Inv X pins σ (upd H2 s2.heap.objs.size (.lst [])) { s2 with heap := s2.heap.push { cls := .type "list", data := .seq ([] : List Value).toArray } } := I2.lnew (t' := s2.toks) .nil (Nat.zero_le _)
  have fpne : ∀ b ∈ fp, b ≠ s2.heap.objs.size := fun b hb => by
    obtain ⟨o, ho, _⟩ := T.obj 0 _ st2 b hb
    exact Nat.ne_of_lt (Heap.lt_size ho)
  have f3 : ∀ b ∈ fp, FpOk X pins (upd H2 s2.heap.objs.size (.lst [])) b := fun b hb => ⟨by rw [upd_ne (fpne b hb)]; exact (f2 b hb).1, (f2 b hb).2⟩
  have k23 : ∀ b o, s2.heap.get? b = some o → (s2.heap.push { cls := .type "list", data := .seq ([] : List Value).toArray }).get? b = some o := fun b o e => Heap.get?_push_of_some _ e
  have st3 : tn 0 (s2.heap.push { cls := .type "list", data := .seq ([] : List Value).toArray }) := T.keep 0 _ _ st2 fun b hb o e => k23 b o e
  have fps : ∀ b ∈ fp, b < (s2.heap.push { cls := .type "list", data := .seq ([] : List Value).toArray }).objs.size := fun b hb => by
    obtain ⟨o, ho, _⟩ := T.obj 0 _ st3 b hb
    exact Heap.lt_size ho
  generalize hS3 : ({ s2 with heap := s2.heap.push { cls := .type "list", data := .seq ([] : List Value).toArray } } : Shared) = s3 at I3
  have hh3 : s3.heap = s2.heap.push { cls := .type "list", data := .seq ([] : List Value).toArray } := by rw [← hS3]
  rw [← hh3] at st3 fps
  refine newEnv_block ?_
  have sz3 : (s3.heap.push { cls := .type "dict", data := .dict #[] }).objs.size = s3.heap.objs.size + 1 := Heap.size_push ..
  have hns₁ : (pushCells (s3.heap.push { cls := .type "dict", data := .dict #[] }) scope.names).Ns s3.heap.objs.size (fun _ => none) := (Heap.Ns.new s3.heap (.type "dict")).keeps (pushCells_keeps _ _)
  have k34 : ∀ b o, s3.heap.get? b = some o → (pushCells (s3.heap.push { cls := .type "dict", data := .dict #[] }) scope.names).get? b = some o := fun b o e => pushCells_keeps _ _ _ _ (Heap.get?_push_of_some _ e)
  have I4 := block_start (tk := s3.toks) (last := last) (D := s2.heap.objs.size) (cl := cellsFrom (s3.heap.objs.size + 1) scope.names cl) S I3 f3 fps hcl hcl2 hN hns₁ k34
    (fun x c e => by
      rw [← sz3] at e
      rcases cells_src _ _ _ e with q | ⟨q1, _, q3⟩
      · exact .inl q
      · exact .inr ⟨by omega, q3⟩)
    (cells_inj _ _ _ (fun x c e => by
      obtain ⟨v, q⟩ := I3.cell x c (hcl x c e)
      exact Nat.lt_succ_of_lt q.lt) fun x y c e1 e2 => I3.ok.inj x y c (hcl x c e1) (hcl y c e2))
    (fun x m => cells_keep _ _ _ fun m' => by
      have h1 := S.owns _ m' rfl
      have h2 := S.freeK _ m rfl
      rw [h1] at h2; cases h2)
    (fun x e => Option.isSome_iff_exists.mp (PySem.W.cellsFrom_some _ _ _ (.inl e)))
    (fun x c e1 e2 => by
      have := cells_own scope.names (s3.heap.objs.size + 1) cl (.inl (PySem.mem_of_lookup e1)) e2
      omega)
  have st4 : tn 0 (pushCells (s3.heap.push { cls := .type "dict", data := .dict #[] }) scope.names) := T.keep 0 _ _ st3 fun b hb o e => k34 b o e
  generalize hcl' : cellsFrom (s3.heap.objs.size + 1) scope.names cl = cl' at I4
  -- the loop
  have loop : codeAny (model X.prog X.w) X.A (.compLoop (.ListComp elt [⟨tg, iter, ifs, 0⟩] scope pos) 0 (.ref ita) (.ref s2.heap.objs.size) (compEnvC scope cl' s3.heap.objs.size X.env))
      (RR (.ref s2.heap.objs.size) s3.heap.objs.size) { s3 with heap := pushCells (s3.heap.push { cls := .type "dict", data := .dict #[] }) scope.names, toks := s3.toks } := by
    have stat : ∀ {H' : Hp}, (∀ b ∈ fp, H' b = none) → ∀ b ∈ fp, FpOk (blockCx X N scope cl' s3.heap.objs.size s3 (upd H2 s2.heap.objs.size (.lst [])) fp pins) [] H' b := fun {H'} hn b hb => by
      refine ⟨hn b hb, Nat.ne_of_lt (fps b hb), fun z => ?_, .inl hb, fun x c e => (I4.ok.exf b hb).2 x c e, fun p hp => ?_⟩
      · rcases List.mem_cons.mp (I3.stkSub b z) with z | z
        · exact (f3 b hb).2.1 z
        · exact (f3 b hb).2.2.1 z
      · have : p ∈ (X.pn ++ pins) ++ [] := hp
        exact (f3 b hb).2.2.2.2.2 p (by simpa using this)
    have hcb : (blockCx X N scope cl' s3.heap.objs.size s3 (upd H2 s2.heap.objs.size (.lst [])) fp pins).calm = true := hc
    refine codeAny_compLoop_any (fun n s' => ∃ i σ' H', Inv (blockCx X N scope cl' s3.heap.objs.size s3 (upd H2 s2.heap.objs.size (.lst [])) fp pins) [] σ' H' s' ∧ tn i s'.heap ∧ (∀ b ∈ fp, H' b = none) ∧ W i n σ' H') ?_ m0 ⟨0, _, _, I4, st4, fun b hb => (f3 b hb).1, w0⟩
    rintro n s5 ⟨i, σ5, H5, I5, st5, fr5, w5⟩
    rcases turn i n σ5 H5 w5 with ⟨stop, qn⟩ | ⟨go, Nx, hNx, step⟩
    · refine wpAny_mono (T.done (blockCx X N scope cl' s3.heap.objs.size s3 (upd H2 s2.heap.objs.size (.lst [])) fp pins) rfl rfl rfl hcb i [] s5 σ5 H5 (fun _ _ => False) I5 (stat fr5) st5 stop) (fun r s6 hr => ?_) (fun _ _ z => z.elim)
      obtain ⟨rfl, I6⟩ := hr
      exact fin _ fp _ s3 σ5 H5 s6 I3 f3 (hcl' ▸ I6) qn
    · refine wpAny_mono (T.item (blockCx X N scope cl' s3.heap.objs.size s3 (upd H2 s2.heap.objs.size (.lst [])) fp pins) rfl rfl rfl hcb i [] s5 σ5 H5 (fun _ _ => False) I5 (stat fr5) st5 go) (fun r s6 hr => ?_) (fun _ _ z => z.elim)
      obtain ⟨u, rfl, h6⟩ := hr
      refine wpAny_mono h6 (fun _ s7 h7 => ?_) (fun _ _ z => z.elim)
      obtain ⟨x, H7, I7, r7, y7, st7, fr7⟩ := h7
      have I7' := I7.pinned (stat fr7) (T.obj _ _ st7)
      refine wpAny_mono (hg _ _ _ _ _ _ _ s7 σ5 H7 x u _ I7' r7 (step x H7 y7)) (fun _ s8 h8 => ?_) (fun _ _ z => False.elim z)
      obtain ⟨σ8, H8, I8, q8⟩ := h8
      have again : ∀ {σ9 : L2.St} {H9 : Hp} {s9 : Shared}, Inv (blockCx X N scope cl' s3.heap.objs.size s3 (upd H2 s2.heap.objs.size (.lst [])) fp pins) ([] ++ pinsAt fp s7.heap) σ9 H9 s9 → Nx σ9 H9 → ∃ m, m < n ∧ ∃ i σ' H', Inv (blockCx X N scope cl' s3.heap.objs.size s3 (upd H2 s2.heap.objs.size (.lst [])) fp pins) [] σ' H' s9 ∧ tn i s9.heap ∧ (∀ b ∈ fp, H' b = none) ∧ W i m σ' H' := fun {σ9 H9 s9} I9 n9 => by
        obtain ⟨m', hm, w9⟩ := hNx σ9 H9 n9
        refine ⟨m', hm, i + 1, σ9, H9, I9.unpinned, T.keep _ _ _ st7 fun b hb o e => (I9.pin (b, o) (List.mem_append_right _ (List.mem_append_right _ (mem_pinsAt hb e)))).1, fun b hb => ?_, w9⟩
        obtain ⟨o, e, d⟩ := T.obj _ _ st7 b hb
        exact (I9.pin (b, o) (List.mem_append_right _ (List.mem_append_right _ (mem_pinsAt hb e)))).2.1
      refine wpAny_mono (ht _ _ _ _ _ _ _ s8 σ8 H8 _ I8 q8) (fun c s9 h9 => ?_) (fun _ _ z => False.elim z)
      obtain ⟨H9, I9, q9⟩ := h9
      cases c with
      | false => exact again I9 q9
      | true =>
        rw [if_pos rfl] at q9 ⊢
        refine wpAny_mono (he _ _ _ _ _ _ _ s9 σ8 H9 _ I9 q9) (fun v s10 h10 => ?_) (fun _ _ z => False.elim z)
        obtain ⟨y, H10, I10, r10, ys, e10, z10, q10⟩ := h10
        refine wpAny_mono (mt_append (X := (blockCx X N scope cl' s3.heap.objs.size s3 (upd H2 s2.heap.objs.size (.lst [])) fp pins)) _ s10 σ8 H10 (.ref s2.heap.objs.size) [y] (.ref s2.heap.objs.size) [v] (fun v H => v = .non ∧ Nx σ8 H) I10 rfl (.cons r10 .nil) ⟨_, ys, y, rfl, rfl, e10, z10, rfl, q10⟩) (fun _ s11 h11 => ?_) (fun _ _ z => False.elim z)
        obtain ⟨_, H11, I11, _, _, q11⟩ := h11
        exact again I11 q11
  exact codeAny_compStart_list loop (T.self _ 0 _ _ _ st4 loop)
theorem block_closure {X : Cx} {N : List Str} {cap : List (Option Nat)} {scope : Scope} {pins : List (Addr × Obj)} {s : Shared} {σ : L2.St} {H : Hp} (S : BlockScope X.env X.N N cap scope) (I : Inv X pins σ H s) :
    ∃ cl, closureFor scope X.env = pure cl ∧ (∀ x c, cl.lookup x = some c → X.env.cells.lookup x = some c) ∧ ∀ y ∈ scope.names, y.2 = .free → ∃ c, cl.lookup y.1 = some c := by
  obtain ⟨cl, h1, h2, _, h4⟩ := closure_some (env := X.env) scope.names (fun y hy hf => I.ok.has y.1 (S.frees y hy hf)) [] (fun x c q => by simp at q)
  refine ⟨cl, ?_, h2, h4⟩
  have e : closureFor scope X.env = (forIn scope.names [] fun (x : Str × NameKind) r => (do if (x.2 == NameKind.free) = true then do let c ← cellOf X.env x.1; pure (ForInStep.yield ((x.1, c) :: r)) else pure (ForInStep.yield r)) : Sem (List (Str × Addr))) >>= fun r => pure r := by
    rfl
  rw [e, h1]
  rfl
theorem pe_comp {X : Cx} {elt iter tg : Expr} {ifs : List Expr} {scope : Scope} {pos : Pos} {N : List Str} {cap : List (Option Nat)} {last : Nat} {wi : TI} {g : TG} {tt : TT} {te : TE} (hc : X.calm = true) (hi : PI X tg iter wi) (S : BlockScope X.env X.N N cap scope)
    (hN : ∀ x, N[last]? = some x → scope.names.lookup x = none)
    (hg : ∀ cl C s H fp pins, PG (blockCx X N scope cl C s H fp pins) tg g) (ht : ∀ cl C s H fp pins, PTs (blockCx X N scope cl C s H fp pins) ifs tt) (he : ∀ cl C s H fp pins, PE (blockCx X N scope cl C s H fp pins) elt te)
    (hs : ∀ x, foldedSetIterable iter X.env x = pure x := by intro _; rfl) : PE X (.ListComp elt [⟨tg, iter, ifs, 0⟩] scope pos) (tComp cap last wi g tt te) := by
  intro pins s σ H Q I h
  rw [eval_ListComp]
  obtain ⟨cl, hcl0, hcl, hcl2⟩ := block_closure S I
  refine wpAny_comprehension_free (use := none) rfl hs hcl0 S.kind S.names ?_
  refine comp_core (RR := fun acc C => compPost (model X.prog X.w) X.A X.xe none (EP X pins σ Q) acc C) hc hi S hN hg ht he I h hcl hcl2 fun D fp H3 s3 σ' H' s' I3 f3 I' q => ?_
  obtain ⟨m6, hn6, _⟩ := I'.loc
  exact ⟨m6, hn6, fun h' hs' => ⟨.ref D, H', block_end I3 f3 (Nat.le_refl _) I' hs', rfl, q⟩⟩
/-- y = [..], y a plain local name of the same row -/
theorem ps_setComp {X : Cx} {elt iter tg : Expr} {ifs : List Expr} {scope : Scope} {pos spos py : Pos} {y : Str} {i : Nat} {N : List Str} {cap : List (Option Nat)} {last : Nat} {wi : TI} {g : TG} {tt : TT} {te : TE} (hc : X.calm = true) (hi : PI X tg iter wi) (S : BlockScope X.env X.N N cap scope)
    (hN : ∀ x, N[last]? = some x → scope.names.lookup x = none)
    (hg : ∀ cl C s H fp pins, PG (blockCx X N scope cl C s H fp pins) tg g) (ht : ∀ cl C s H fp pins, PTs (blockCx X N scope cl C s H fp pins) ifs tt) (he : ∀ cl C s H fp pins, PE (blockCx X N scope cl C s H fp pins) elt te)
    (hy : PG X (.Name y py) (gName i)) (hsw : swapsWith (.ListComp elt [⟨tg, iter, ifs, 0⟩] scope pos) (some (.Name y py)) spos.line X.env = pure true := by rfl)
    (hs : ∀ x, foldedSetIterable iter X.env x = pure x := by intro _; rfl) : PS X (.Assign [.Name y py] (.ListComp elt [⟨tg, iter, ifs, 0⟩] scope pos) spos) (tAsg (tComp cap last wi g tt te) (gName i)) := by
  intro pins s σ H D I h
  rw [exec_Assign_Name_used _ _ _ _ hsw]
  refine wpAny_bind (wpAny_standAt (wpAny_bind ?_))
  obtain ⟨cl, hcl0, hcl, hcl2⟩ := block_closure S I
  show wpAny _ X.A (do let _ ← comprehension (.ListComp elt [⟨tg, iter, ifs, 0⟩] scope pos) scope X.env _ (newList []) false (eval iter X.env) (some (assign (.Name y py) X.env))) _ _ s
  refine wpAny_bind (wpAny_mono (wpAny_comprehension_free (use := some (assign (.Name y py) X.env)) (Q := fun _ s' => SP X pins D .next s') rfl hs hcl0 S.kind S.names ?_) (fun _ s' hq => wpAny_pure (wpAny_pure hq)) fun _ _ e => e)
  refine comp_core (RR := fun acc C => compPost (model X.prog X.w) X.A X.xe (some (assign (.Name y py) X.env)) (fun _ s' => SP X pins D .next s') acc C) hc hi S hN hg ht he I h hcl hcl2 fun D' fp H3 s3 σ' H' s' I3 f3 I' q => ?_
  obtain ⟨m6, hn6, _⟩ := I'.loc
  obtain ⟨o6, es6, ep6, ho6, rest6⟩ := id hn6
  have J : Inv X pins σ H' s' := block_end (h2 := s'.heap) I3 f3 (Nat.le_refl _) I' (.refl ..)
  have fC : H' s3.heap.objs.size = none := I'.free
  have neL : s3.heap.objs.size ≠ X.env.locals := Nat.ne_of_gt I3.lt
  have neF : s3.heap.objs.size ∉ X.fs := I3.nofs (Nat.le_refl _)
  have neC : ∀ x c, X.env.cells.lookup x = some c → c ≠ s3.heap.objs.size := fun x c e z => by
    obtain ⟨v, qq⟩ := I3.cell x c e
    exact absurd (Nat.lt_of_lt_of_le qq.lt (by rw [z]; exact Nat.le_refl _)) (Nat.lt_irrefl _)
  have neP : ∀ p ∈ X.pn ++ pins, p.1 ≠ s3.heap.objs.size := fun p hp z => by
    have := Heap.lt_size (I3.pin p hp).1
    rw [z] at this
    exact Nat.lt_irrefl _ this
  have nd : ∀ v, o6.data ≠ .cell v := fun v z => by
    have : o6.data = .dict es6 ep6 := rest6.1
    rw [this] at z; cases z
  have J' : Inv X (pins ++ [(s3.heap.objs.size, o6)]) σ H' s' := J.pins_of fun p hp => (List.mem_append.mp hp).elim (fun z => J.pin p (List.mem_append_right _ z)) fun z => by
    have e : p = (s3.heap.objs.size, o6) := by simpa using z
    subst e
    exact ⟨ho6, fC, neL, neF, nd⟩
  show wpAny _ X.A (assign (.Name y py) X.env (.ref D')) _ _ _
  refine thn (hy _ s' σ H' (.ref D') (.ref D') D.nx J' rfl q) fun _ s7 ⟨σ7, H7, I7, q7⟩ => ?_
  obtain ⟨e7, n7, _⟩ := I7.pin (s3.heap.objs.size, o6) (List.mem_append_right _ (List.mem_append_right _ (by simp)))
  refine ⟨m6, ⟨o6, es6, ep6, e7, rest6⟩, fun h' hs' => ?_⟩
  have I8 := I7.unpinned
  exact ⟨σ7, H7, I8.turned (t' := s7.toks) (fun b o hb e => (hs'.2 b hb).trans e) n7 neL (.inr (Nat.le_trans I3.sz (Nat.le_refl _))) neC neP, q7⟩
end L2

namespace M
open PySem PySem.Spec PyProof.Rows L2
/-- the frame's values that a comprehension's block sees -/
def lend : B → B
  | .pu d => .pu d
  | .ow l => .bo l
  | .bo l => .bo l
def capEv (ρ : Ev) (cap : List (Option Nat)) (last : Nat) : Ev := (cap.map fun c => c.bind fun j => ((ρ[j]?).join).map lend).set last (some (.ow []))
/-- the lists of one's own at these slots are read -/
def frz1 (ρ : Ev) (j : Nat) : Ev := match ρ[j]? with
  | some (some (.ow l)) => ρ.set j (some (.pu (.lst l)))
  | _ => ρ
def frzL : Ev → List Nat → Ev
  | ρ, [] => ρ
  | ρ, j :: js => frzL (frz1 ρ j) js
theorem frz1_frz (ρ : Ev) (j : Nat) : Frz ρ (frz1 ρ j) := by
  unfold frz1
  split
  · rename_i l e
    exact .set e
  · exact .refl _
theorem frz1_no (ρ : Ev) (j : Nat) (l : List D) : (frz1 ρ j)[j]? ≠ some (some (.ow l)) := by
  unfold frz1
  split
  · rename_i l' e
    rw [get_set_eq (List.getElem?_eq_some_iff.mp e).1]
    intro z; cases z
  · rename_i h
    exact fun z => h l z
theorem frzL_frz : ∀ (js : List Nat) (ρ : Ev), Frz ρ (frzL ρ js)
  | [], ρ => .refl _
  | j :: js, ρ => (frz1_frz ρ j).trans (frzL_frz js _)
theorem frzL_no : ∀ (js : List Nat) (ρ : Ev) (j : Nat), j ∈ js → ∀ l, (frzL ρ js)[j]? ≠ some (some (.ow l))
  | j' :: js, ρ, j, h, l => by
    intro z
    rcases List.mem_cons.mp h with rfl | h
    · exact frz1_no ρ j l ((frzL_frz js _).ow z)
    · exact frzL_no js _ j h l z
/-- [elt for tg in iter if test]: Pv the word between two turns, over the block's values; the list so far stands in the slot last -/
def uComp (js : List Nat) (cap : List (Option Nat)) (last : Nat) (ui : UI) (g : UG) (tt : UT) (te : UE) : UE := fun ρ Q => ui ρ fun n it ρ1 => ∃ Pv : Nat → Ev → Prop, Pv 0 (capEv (frzL ρ1 js) cap last) ∧
  (∀ i ρ', i < n → Pv i ρ' → g (.pu (it i)) ρ' fun ρ2 => tt ρ2 fun c ρ3 => if c = true then te ρ3 fun b ρ4 => ownAt ρ4 last fun l => l.length < sizeLine ∧ Pv (i + 1) (ρ4.set last (some (.ow (l ++ [b.d])))) else Pv (i + 1) ρ3) ∧
  ∀ ρ', Pv n ρ' → ownAt ρ' last fun l => Q (.ow l) (frzL ρ1 js)
section
variable {X : Cx} {K : PySem.W.Frag} {C : C0} {ρ ρ' : Ev} {σ σ' : L2.St} {H H' : Hp}
theorem cap_ok {cap : List (Option Nat)} {last : Nat} {Dn : Addr} (I : EOk K C ρ σ H) (hl : last < cap.length) (n : H Dn = none) :
    EOk K ⟨H, Av C ρ σ⟩ (capEv ρ cap last) (capSt σ cap last Dn) (upd H Dn (.lst [])) := by
  have pu : ∀ (i : Nat) (z : B), last ≠ i → (capEv ρ cap last)[i]? = some (some z) → ∃ (j : Nat) (z' : B), cap[i]? = some (some j) ∧ z = lend z' ∧ ρ[j]? = some (some z') := fun i z ne h => by
    unfold capEv at h
    rw [get_set_ne ne, List.getElem?_map] at h
    cases e4 : cap[i]? with
    | none => rw [e4] at h; cases h
    | some c =>
      rw [e4] at h
      cases c with
      | none => cases h
      | some j =>
        have h' : ((ρ[j]?).join).map lend = some z := by simpa using h
        cases q : ρ[j]? with
        | none => rw [q] at h'; cases h'
        | some w =>
          rw [q] at h'
          cases w with
          | none => cases h'
          | some w' => cases h'; exact ⟨j, w', rfl, rfl, q⟩
  have sgm : ∀ (i j : Nat) (v : V), last ≠ i → cap[i]? = some (some j) → σ[j]? = some (some v) → (capSt σ cap last Dn)[i]? = some (some v) := fun i j v e e1 h1 => by
    unfold capSt
    rw [get_set_ne e, List.getElem?_map, e1]
    show some ((σ[j]?).join) = _
    rw [h1]
    rfl
  have atl : (capEv ρ cap last)[last]? = some (some (.ow [])) := by
    unfold capEv
    exact get_set_eq (by rw [List.length_map]; exact hl)
  have sal : (capSt σ cap last Dn)[last]? = some (some (.ref Dn)) := by
    unfold capSt
    exact get_set_eq (by rw [List.length_map]; exact hl)
  have noOw : ∀ (i : Nat) (l : List D), last ≠ i → (capEv ρ cap last)[i]? ≠ some (some (.ow l)) := fun i l e h => by
    obtain ⟨j, z', _, z, _⟩ := pu i _ e h
    cases z' <;> cases z
  have own : ∀ a, Own (capEv ρ cap last) (capSt σ cap last Dn) a → a = Dn := fun a ⟨i, l, h1, h2⟩ => by
    by_cases e : last = i
    · subst e
      rw [sal] at h2; cases h2; rfl
    · exact absurd h1 (noOw i l e)
  have P : Pres (Av C ρ σ) H (Av ⟨H, Av C ρ σ⟩ (capEv ρ cap last) (capSt σ cap last Dn)) (upd H Dn (.lst [])) := fun b o nb e => by
    have ne : b ≠ Dn := fun z => by subst z; rw [n] at e; cases e
    refine ⟨?_, by rw [upd_ne ne]; exact e⟩
    rintro (z | z)
    · exact nb z
    · exact ne (own b z)
  refine ⟨by unfold capEv capSt; rw [List.length_set, List.length_set, List.length_map, List.length_map], fun i d h => ?_, fun i l h => ?_, fun i j l l' a h1 h2 h3 h4 => ?_, fun i l h => ?_, same_new n _, fun a z => I.avSome z⟩
  · by_cases e : last = i
    · subst e
      rw [atl] at h; cases h
    · obtain ⟨j, z', e1, z, e2⟩ := pu i _ e h
      cases z' with
      | pu d' =>
        cases z
        obtain ⟨v, h1, h2⟩ := I.pu j d e2
        exact ⟨v, sgm i j v e e1 h1, h2.mono P⟩
      | ow l => cases z
      | bo l => cases z
  · by_cases e : last = i
    · subst e
      rw [atl] at h; cases h
      exact ⟨Dn, [], sal, upd_same, n, .nil⟩
    · exact absurd h (noOw i l e)
  · have e1 : last = i := Decidable.byContradiction fun e => absurd h1 (noOw i l e)
    have e2 : last = j := Decidable.byContradiction fun e => absurd h2 (noOw j l' e)
    exact e1.symm.trans e2
  · by_cases e : last = i
    · subst e
      rw [atl] at h; cases h
    · obtain ⟨j, z', e1, z, e2⟩ := pu i _ e h
      cases z' with
      | pu d' => cases z
      | ow l' =>
        cases z
        obtain ⟨a, vs, h1, h2, h3, h4⟩ := I.ow j l e2
        exact ⟨a, vs, sgm i j _ e e1 h1, .inr ⟨j, l, e2, h1⟩, h2, h4.mono P⟩
      | bo l' =>
        cases z
        obtain ⟨a, vs, h1, h2, h3, h4⟩ := I.bo j l e2
        exact ⟨a, vs, sgm i j _ e e1 h1, .inl h2, I.ext _ _ h3, h4.mono P⟩
theorem lComp {js : List Nat} {cap : List (Option Nat)} {last : Nat} {ui : UI} {g : UG} {T : List Nat} {tt : UT} {te : UE} (hl : last < cap.length) (hT : last ∉ T) (σ : L2.St) (H : Hp) (Q : VK) (h : lE K (uComp js cap last ui g tt te) σ H Q) :
    tComp cap last (lI K ui) (lG K T g) (lT K tt) (lE K te) σ H Q := by
  obtain ⟨C, ρ, Q0, I, h, k⟩ := h
  refine ⟨C, ρ, _, I, h, fun n it ρ1 J H1 q f s ok Dn nD => ?_⟩
  obtain ⟨Pv, p0, turn, fin⟩ := q
  have fz := frzL_frz js ρ1
  have I1 : EOk K C (frzL ρ1 js) σ H1 := ((I.frz f).same s).frz fz
  generalize frzL ρ1 js = ρ2 at fz I1 p0 fin
  have P12 : ∀ {A' : AS} {H' : Hp}, Pres (Av C ρ2 σ) H1 A' H' → Pres (Av C ρ1 σ) H1 A' H' := fun p b o nb e => p b o (fun z => nb (fz.av z)) e
  have I2 := cap_ok I1 hl nD
  have own0 : ∀ {ρ' : Ev} {σ' : L2.St} {H' : Hp}, EOk K ⟨H1, Av C ρ2 σ⟩ ρ' σ' H' → Pres (Av C ρ2 σ) H1 (Av ⟨H1, Av C ρ2 σ⟩ ρ' σ') H' := fun {ρ' σ' H'} J' b o nb e => by
    refine ⟨?_, J'.ext b o e⟩
    rintro (z | ⟨i, l, h1, h2⟩)
    · exact nb z
    · obtain ⟨a, vs, h3, h4, h5, _⟩ := J'.ow i l h1
      rw [h2] at h3; cases h3
      have e' : (⟨H1, Av C ρ2 σ⟩ : C0).H0 b = some o := e
      rw [h5] at e'; cases e'
  have sal : (capSt σ cap last Dn)[last]? = some (some (.ref Dn)) := by
    unfold capSt
    exact get_set_eq (by rw [List.length_map]; exact hl)
  refine ⟨fun i m σ' H' => m = n - i ∧ i ≤ n ∧ σ'[last]? = some (some (.ref Dn)) ∧ ∃ ρ', EOk K ⟨H1, Av C ρ2 σ⟩ ρ' σ' H' ∧ Pv i ρ', ⟨n, rfl, Nat.zero_le _, sal, _, I2, p0⟩, ?_⟩
  rintro i m σ' H' ⟨rfl, hi, hlast, ρ', J', p'⟩
  have P := P12 (own0 J')
  by_cases hlt : i < n
  · refine .inr ⟨ok.go _ _ i P hlt, fun σ2 H2 => σ2[last]? = some (some (.ref Dn)) ∧ ∃ ρ3, EOk K ⟨H1, Av C ρ2 σ⟩ ρ3 σ2 H2 ∧ Pv (i + 1) ρ3, fun σ2 H2 z => ⟨n - (i + 1), by omega, rfl, hlt, z⟩, fun x H2 y => ?_⟩
    obtain ⟨s2, r2⟩ := ok.yld _ _ i x H2 P (fun a z => J'.avSome z) hlt y
    refine ⟨_, ρ', .pu (it i), H', _, J', s2, r2, turn i ρ' hlt p', fun ρ3 σ3 H3 q3 J3 same3 => ?_⟩
    have l3 : σ3[last]? = some (some (.ref Dn)) := (same3 last hT).trans hlast
    refine ⟨_, ρ3, _, J3, q3, fun c ρ4 H4 q4 f4 s4 => ?_⟩
    have J4 := (J3.frz f4).same s4
    cases c with
    | false =>
      dsimp only at q4 ⊢
      rw [if_neg Bool.false_ne_true] at q4 ⊢
      exact ⟨l3, ρ4, J4, q4⟩
    | true =>
      dsimp only at q4 ⊢
      rw [if_pos rfl] at q4 ⊢
      refine ⟨_, ρ4, _, J4, q4, fun b ρ5 v H5 q5 f5 s5 r5 => ?_⟩
      have J5 := (J4.frz f5).same s5
      obtain ⟨l, hl5, hz, q5⟩ := ownAt_inv q5
      obtain ⟨a, vs, g1, g2, g3, g4⟩ := J5.ow last l hl5
      rw [l3] at g1; cases g1
      refine ⟨vs, g2, by rw [← g4.length]; exact hz, l3, _, J5.write hl5 l3 (g4.append (.cons (r5.rep fun a z => J4.avF f5 z) .nil)), q5⟩
  · have e : i = n := by omega
    subst e
    obtain ⟨l, hl5, q5⟩ := ownAt_inv (fin ρ' p')
    obtain ⟨a, vs, g1, g2, g3, g4⟩ := J'.ow last l hl5
    rw [hlast] at g1; cases g1
    refine .inl ⟨ok.stop _ _ P, k _ _ _ _ q5 (f.trans fz) (s.trans J'.ext) ⟨Dn, vs, rfl, s.free nD, g2, ?_⟩⟩
    refine g4.mono fun b o nb e => ⟨?_, e⟩
    rintro (z | z)
    · exact nb (.inl z)
    · subst z
      exact nb (.inr ⟨last, l, hl5, hlast⟩)
/-- the tests -/
theorem put_nil : ∀ {X : Cx}, PTs X [] (lT X.K fun ρ Q => Q true ρ) := fun {X} pins s σ H Q I ⟨C, ρ, Q0, J, h, k⟩ => pts_nil pins s σ H Q I (k _ ρ H h (.refl _) (.refl _))
theorem put_one {c : Expr} {t : UT} (h : PUT X c t) : PTs X [c] (lT X.K t) := pts_one h
theorem pu_comp {elt iter tg : Expr} {ifs : List Expr} {scope : Scope} {pos : Pos} {N : List Str} {js : List Nat} {cap : List (Option Nat)} {last : Nat} {ui : UI} {g : UG} {T : List Nat} {tt : UT} {te : UE} (hc : X.calm = true) (hi : PUI X tg iter ui) (S : BlockScope X.env X.N N cap scope)
    (hN : ∀ x, N[last]? = some x → scope.names.lookup x = none) (hl : last < cap.length) (hT : last ∉ T)
    (hg : ∀ cl C s H fp pins, PUG (blockCx X N scope cl C s H fp pins) tg T g) (ht : ∀ cl C s H fp pins, PTs (blockCx X N scope cl C s H fp pins) ifs (lT X.K tt)) (he : ∀ cl C s H fp pins, PU (blockCx X N scope cl C s H fp pins) elt te)
    (hs : ∀ x, foldedSetIterable iter X.env x = pure x := by intro _; rfl) : PU X (.ListComp elt [⟨tg, iter, ifs, 0⟩] scope pos) (uComp js cap last ui g tt te) :=
  PEimp (pe_comp (g := lG X.K T g) (tt := lT X.K tt) (te := lE X.K te) hc hi S hN hg ht he hs) (lComp hl hT)
theorem us_setComp {elt iter tg : Expr} {ifs : List Expr} {scope : Scope} {pos spos py : Pos} {y : Str} {N : List Str} {js : List Nat} {cap : List (Option Nat)} {last : Nat} {ui : UI} {g : UG} {T : List Nat} {tt : UT} {te : UE} (i : Nat) (hc : X.calm = true) (hi : PUI X tg iter ui) (S : BlockScope X.env X.N N cap scope)
    (hN : ∀ x, N[last]? = some x → scope.names.lookup x = none) (hl : last < cap.length) (hT : last ∉ T)
    (hg : ∀ cl C s H fp pins, PUG (blockCx X N scope cl C s H fp pins) tg T g) (ht : ∀ cl C s H fp pins, PTs (blockCx X N scope cl C s H fp pins) ifs (lT X.K tt)) (he : ∀ cl C s H fp pins, PU (blockCx X N scope cl C s H fp pins) elt te)
    (hy : PG X (.Name y py) (gName i)) (hi' : ∀ pins σ H s, Inv X pins σ H s → i < σ.length) (hsw : swapsWith (.ListComp elt [⟨tg, iter, ifs, 0⟩] scope pos) (some (.Name y py)) spos.line X.env = pure true := by rfl)
    (hs : ∀ x, foldedSetIterable iter X.env x = pure x := by intro _; rfl) : PUS X (.Assign [.Name y py] (.ListComp elt [⟨tg, iter, ifs, 0⟩] scope pos) spos) (uSet i (uComp js cap last ui g tt te)) := by
  intro pins s σ H D I q
  refine ps_setComp (g := lG X.K T g) (tt := lT X.K tt) (te := lE X.K te) hc hi S hN hg ht he hy hsw hs pins s σ H D I ?_
  obtain ⟨C, ρ, D0, J, h, k⟩ := q
  exact lComp hl hT σ H _ ⟨C, ρ, _, J, h, fun b ρ1 v H1 q f s1 r => k.nx _ _ _ q ((J.frz f).store s1 r (hi' pins σ H s I))⟩
end
end M

end
section
set_option Elab.async false
set_option linter.all false
set_option maxRecDepth 100000
namespace L2
open PySem PySem.Spec PyProof.Rows
section
variable {X : Cx}
theorem boolsOf {bs : List Bool} : ∀ {its : List Value}, Vals (bs.map V.bl) its → LSm.BoolsAre its bs := by
  induction bs with
  | nil => intro its r; cases r; exact .nil
  | cons b bs ih =>
    intro its r
    cases r with
    | cons r1 r2 =>
      cases r1
      exact .cons b (ih r2)
theorem call_all_l (hc : X.calm = true) : CallR X (.builtin "all") (fun xs H Q => ∃ (p : Addr) (bs : List Bool), xs = [.ref p] ∧ SqL X.K H p (bs.map V.bl) ∧ Q (.bl (bs.all id)) H) := by
  intro pins s σ H xs us Q I r h
  obtain ⟨p, bs, rfl, hq, q⟩ := h
  obtain ⟨u, rfl, rx⟩ := vals1 r
  cases rx
  obtain ⟨its, rv, pl, hz⟩ := I.list hq
  have ba := boolsOf rv
  refine call_all_walk (wpAny_pyIter_list pl.isList ?_)
  have hne : p ≠ s.heap.objs.size := by
    obtain ⟨o, n, e, _⟩ := pl
    exact Nat.ne_of_lt (Heap.lt_size e)
  refine ⟨s.heap.objs.size, _, _, _, _, _, fun i => (bs[i]?).getD true, rfl, Walks.list (A := X.A.in1) (I.ok.hd hc) s.heap.objs.size p (fun z => hne z) its.toArray, ⟨⟨_, Heap.get?_push_size _ rfl, rfl, rfl⟩, pl.isList.push _⟩, ?_, fun h' tk hk => ?_⟩
  · intro i v s' Q' E' hP hQ
    obtain ⟨b, hb, rfl⟩ := ba.get i v (by simpa using hP)
    refine wpAny_truthy_bool ?_
    have e : (fun i => (bs[i]?).getD true) i = b := by simp [hb]
    dsimp only at hQ
    rw [hb] at hQ
    exact hQ
  · have e := LSm.range_all bs
    have hl := ba.length
    have e2 : its.toArray.size = bs.length := by rw [List.size_toArray, hl]
    rw [e2, e]
    exact ⟨.bl (bs.all id), H, I.kept fun b o e => hk b o (by simpa using Nat.ne_of_lt (Heap.lt_size e)) (Heap.get?_push_of_some _ e), rfl, q⟩
theorem call_sum_l (hc : X.calm = true) : CallR X (.builtin "sum") (fun xs H Q => ∃ (p : Addr) (ns : List Int), xs = [.ref p] ∧ SqL X.K H p (ns.map V.int) ∧ Q (.int ns.sum) H) := by
  intro pins s σ H xs us Q I r h
  obtain ⟨p, ns, rfl, hq, q⟩ := h
  obtain ⟨u, rfl, rx⟩ := vals1 r
  cases rx
  obtain ⟨its, rv, pl, hz⟩ := I.list hq
  have hi : IntsAre its ns := by simpa using intsAre_of rv
  obtain ⟨xs, hx⟩ := hi.allInts.items
  have hl' : s.heap.IsList p (intItems xs) := hx ▸ pl.isList
  refine sum_intListG (I.ok.hd hc) hl' fun h' tk t' hk => ?_
  have e1 : ns = xs.toList.map (·.1) := by
    rw [← nums_intItems, ← hx]
    exact (show numsOf its.toArray.toList = ns from hi.numsOf).symm
  have e2 : preSum (numAt xs) xs.size = ns.sum := by
    rw [preSum_eq, List.take_of_length_le (by simp), e1]
  rw [e2]
  exact ⟨.int ns.sum, H, I.kept hk, ⟨_, rfl⟩, q⟩
/-- a comprehension's block, by a look at the text -/
def blockLook (esc : List (Str × NameKind)) (XN N : List Str) (cap : List (Option Nat)) (scope : Scope) (last : Nat) : Bool :=
  (scope.kind == .function) && scope.names.all (fun y => y.2 != .cell || scope.names.lookup y.1 == some .cell) && scope.names.all (fun y => y.2 != .free || scope.names.lookup y.1 == some .free) && scope.names.all (fun y => y.2 != .local || scope.names.lookup y.1 == some .local) &&
  scope.names.all (fun y => y.2 != .free || esc.lookup y.1 == some .cell || esc.lookup y.1 == some .free) &&
  (N.zip cap).all (fun z => match z.2 with | none => true | some j => XN[j]? == some z.1 && scope.names.contains (z.1, .free) && scope.names.lookup z.1 == some .free) &&
  (cap.length == N.length) && (match N[last]? with | some x => (scope.names.lookup x).isNone | none => true)
theorem BlockScope.of {env : Env} {esc : List (Str × NameKind)} {XN N : List Str} {cap : List (Option Nat)} {scope : Scope} {last : Nat} (he : env.scope.names = esc) (h : blockLook esc XN N cap scope last = true) :
    BlockScope env XN N cap scope ∧ ∀ x, N[last]? = some x → scope.names.lookup x = none := by
  unfold blockLook at h
  simp only [Bool.and_eq_true, List.all_eq_true, beq_iff_eq] at h
  obtain ⟨⟨⟨⟨⟨⟨⟨h1, h2⟩, h2'⟩, h3⟩, h4⟩, h5⟩, h6⟩, h7⟩ := h
  have hk : ∀ x, env.kindOf x = esc.lookup x := fun x => by unfold Env.kindOf; rw [he]
  refine ⟨⟨h1, fun y hy hl => by have := h2 y hy; rw [hl] at this; simpa using this, fun y hy hl => by have := h2' y hy; rw [hl] at this; simpa using this, fun y hy hl => ?_, fun y hy hf => ?_, fun i j x e1 e2 => ?_, h6⟩, fun x e => ?_⟩
  · have := h3 y hy
    rw [hl] at this
    simpa using this
  · have := h4 y hy
    rw [hf] at this
    rw [hk]
    simpa using this
  · have hm : (x, some j) ∈ N.zip cap := by
      refine List.mem_of_getElem? (i := i) ?_
      rw [List.getElem?_zip_eq_some]
      exact ⟨e1, e2⟩
    have := h5 _ hm
    simp only [Bool.and_eq_true, beq_iff_eq] at this
    obtain ⟨⟨a, b⟩, c⟩ := this
    exact ⟨a, by simpa using b, c⟩
  · rw [e] at h7
    simpa using h7
end
end L2
namespace M
open PySem PySem.Spec PyProof.Rows L2
section
variable {X : Cx} {K : PySem.W.Frag} {A : AS} {H : Hp}
def boolsL : List D → Option (List Bool)
  | [] => some []
  | .bl b :: r => (boolsL r).map (b :: ·)
  | _ => none
def intsL : List D → Option (List Int)
  | [] => some []
  | .int b :: r => (intsL r).map (b :: ·)
  | _ => none
theorem boolsL_map (bs : List Bool) : boolsL (bs.map .bl) = some bs := by
  induction bs with
  | nil => rfl
  | cons b bs ih => rw [List.map_cons]; show (boolsL (bs.map .bl)).map _ = _; rw [ih]; rfl
theorem intsL_map (bs : List Int) : intsL (bs.map .int) = some bs := by
  induction bs with
  | nil => rfl
  | cons b bs ih => rw [List.map_cons]; show (intsL (bs.map .int)).map _ = _; rw [ih]; rfl
theorem boolsL_rep : ∀ {l : List D} {bs : List Bool} {vs : List V}, boolsL l = some bs → RepL K A H l vs → vs = bs.map V.bl
  | [], bs, vs, h, r => by cases h; exact r.unnil
  | d :: r, bs, vs, h, q => by
    obtain ⟨v, vr, rfl, rv, rr⟩ := q.uncons
    cases d with
    | bl b =>
      have h' : (boolsL r).map (b :: ·) = some bs := h
      cases e : boolsL r with
      | none => rw [e] at h'; cases h'
      | some bs' =>
        rw [e] at h'; cases h'
        rw [rep_blv rv, boolsL_rep e rr]; rfl
    | _ => cases h
theorem intsL_rep : ∀ {l : List D} {bs : List Int} {vs : List V}, intsL l = some bs → RepL K A H l vs → vs = bs.map V.int
  | [], bs, vs, h, r => by cases h; exact r.unnil
  | d :: r, bs, vs, h, q => by
    obtain ⟨v, vr, rfl, rv, rr⟩ := q.uncons
    cases d with
    | int b =>
      have h' : (intsL r).map (b :: ·) = some bs := h
      cases e : intsL r with
      | none => rw [e] at h'; cases h'
      | some bs' =>
        rw [e] at h'; cases h'
        rw [rep_int rv, intsL_rep e rr]; rfl
    | _ => cases h
def gAll : List D → (B → Prop) → Prop := g1 fun d Q => match d with
  | .lst l => (match boolsL l with
    | some bs => Q (.pu (.bl (bs.all id)))
    | none => False)
  | _ => False
theorem cu_all (hc : X.calm = true) : CallU X (.builtin "all") gAll := by
  intro A H ds vs Q0 Q hA r g k
  obtain ⟨d, v, rfl, rfl, rv, g⟩ := g1_inv g r
  cases d with
  | lst l =>
    dsimp only at g
    cases e : boolsL l with
    | none => rw [e] at g; exact g.elim
    | some bs =>
      rw [e] at g
      simp only [Rep] at rv
      obtain ⟨a, vs, rfl, n, c, rs⟩ := rv
      rw [boolsL_rep e rs] at c
      exact ⟨_, call_all_l hc, a, bs, rfl, SqL.of c, k _ _ H g (.refl _) rep_bl⟩
  | _ => exact (show False from g).elim
def gSum : List D → (B → Prop) → Prop := g1 fun d Q => match d with
  | .lst l => (match intsL l with
    | some ns => Q (.pu (.int ns.sum))
    | none => False)
  | _ => False
theorem cu_sum (hc : X.calm = true) : CallU X (.builtin "sum") gSum := by
  intro A H ds vs Q0 Q hA r g k
  obtain ⟨d, v, rfl, rfl, rv, g⟩ := g1_inv g r
  cases d with
  | lst l =>
    dsimp only at g
    cases e : intsL l with
    | none => rw [e] at g; exact g.elim
    | some bs =>
      rw [e] at g
      simp only [Rep] at rv
      obtain ⟨a, vs, rfl, n, c, rs⟩ := rv
      rw [intsL_rep e rs] at c
      exact ⟨_, call_sum_l hc, a, bs, rfl, SqL.of c, k _ _ H g (.refl _) repI⟩
  | _ => exact (show False from g).elim
/-- an int of the module -/
theorem pu_gint {x : Str} {i : Int} {t : Tok} {p : Pos} (hg : Gl X x) (hm : X.mg x = some (.int i t)) (hd : (x == ("__debug__" : Str)) = false := by decide) : PU X (.Name x p) (uC (.int i)) :=
  pu_glob (pe_glob (v := .int i) hg hm ⟨t, rfl⟩ hd) fun A H => by simp only [Rep]
theorem bt_all : bootBuiltins "all" = some (.builtin "all") := by decide +kernel
theorem bt_sum : bootBuiltins "sum" = some (.builtin "sum") := by decide +kernel
/-- the two in one: the block's look gives what the rule asks -/
theorem pu_compL {elt iter tg : Expr} {ifs : List Expr} {scope : Scope} {pos : Pos} {esc : List (Str × NameKind)} {N : List Str} {js : List Nat} {cap : List (Option Nat)} {last : Nat} {ui : UI} {g : UG} {T : List Nat} {tt : UT} {te : UE} {XN : List Str} (he0 : X.env.scope.names = esc) (hx0 : X.N = XN) (lk : blockLook esc XN N cap scope last = true) (hl : last < cap.length) (hT : last ∉ T) (hc : X.calm = true) (hi : PUI X tg iter ui)
    (hg : ∀ cl C s H fp pins, PUG (blockCx X N scope cl C s H fp pins) tg T g) (ht : ∀ cl C s H fp pins, PTs (blockCx X N scope cl C s H fp pins) ifs (lT X.K tt)) (he : ∀ cl C s H fp pins, PU (blockCx X N scope cl C s H fp pins) elt te)
    (hs : ∀ x, foldedSetIterable iter X.env x = pure x := by intro _; rfl) : PU X (.ListComp elt [⟨tg, iter, ifs, 0⟩] scope pos) (uComp js cap last ui g tt te) :=
  pu_comp hc hi (BlockScope.of he0 (hx0 ▸ lk)).1 (BlockScope.of he0 (hx0 ▸ lk)).2 hl hT hg ht he hs
theorem us_setCompL {elt iter tg : Expr} {ifs : List Expr} {scope : Scope} {pos spos py : Pos} {y : Str} {esc : List (Str × NameKind)} {N : List Str} {js : List Nat} {cap : List (Option Nat)} {last : Nat} {ui : UI} {g : UG} {T : List Nat} {tt : UT} {te : UE} (i : Nat) {XN : List Str} (he0 : X.env.scope.names = esc) (hx0 : X.N = XN) (lk : blockLook esc XN N cap scope last = true) (hl : last < cap.length) (hT : last ∉ T) (hc : X.calm = true) (hi : PUI X tg iter ui)
    (hg : ∀ cl C s H fp pins, PUG (blockCx X N scope cl C s H fp pins) tg T g) (ht : ∀ cl C s H fp pins, PTs (blockCx X N scope cl C s H fp pins) ifs (lT X.K tt)) (he : ∀ cl C s H fp pins, PU (blockCx X N scope cl C s H fp pins) elt te)
    (hy : PG X (.Name y py) (gName i)) (hi' : ∀ pins σ H s, Inv X pins σ H s → i < σ.length) (hsw : swapsWith (.ListComp elt [⟨tg, iter, ifs, 0⟩] scope pos) (some (.Name y py)) spos.line X.env = pure true := by rfl)
    (hs : ∀ x, foldedSetIterable iter X.env x = pure x := by intro _; rfl) : PUS X (.Assign [.Name y py] (.ListComp elt [⟨tg, iter, ifs, 0⟩] scope pos) spos) (uSet i (uComp js cap last ui g tt te)) :=
  us_setComp i hc hi (BlockScope.of he0 (hx0 ▸ lk)).1 (BlockScope.of he0 (hx0 ▸ lk)).2 hl hT hg ht he hy hi' hsw hs
def uDrop (te : UE) : US := fun D ρ => te ρ fun _ ρ1 => D.nx ρ1
theorem us_expr {e : Expr} {pos : Pos} {te : UE} (he : PU X e te) (hs : swapsWith e none pos.line X.env = pure false := by rfl) : PUS X (.Expr e pos) (uDrop te) :=
  PSimp (ps_expr he hs) fun D σ H ⟨C, ρ, D0, I, h, k⟩ => ⟨C, ρ, _, I, h, fun b ρ1 v H1 q f s r => k.nx _ _ _ q ((I.frz f).same s)⟩
theorem glen_nil : ∀ ds ρ Q, uGNil ds ρ Q → ds.length = 0 := fun ds ρ Q h => by rw [h.1]; rfl
theorem glen_cons {i n : Nat} {u : UGs} (h : ∀ ds ρ Q, u ds ρ Q → ds.length = n) : ∀ ds ρ Q, uGCons i u ds ρ Q → ds.length = n + 1 := fun ds ρ Q q => by
  cases ds with
  | nil => exact (show False from q).elim
  | cons d r => rw [List.length_cons, h r _ Q q.2]
end
theorem Fn.void {P : Program} {w : World} {K : PySem.W.Frag} {mg : Str → Option Value} {base : Heap} {x qual : Str} {st : Stmt} {f : Addr} {fd : FuncData} {ps : List Str} {φ : Φ} (F : Fun K x qual st f fd) (m : mg x = some (.ref f)) (b : Binds K fd ps []) (h : ∀ ds Q, ¬ φ ds Q) : Fn P w K mg base x ps 1 φ :=
  ⟨f, fd, ⟨fun vs H Q E ⟨_, ds, Q0, _, _, z, _⟩ => absurd z (h ds Q0), fun A outer s H args us vs Q E _ _ _ _ ⟨_, ds, Q0, _, _, z, _⟩ => absurd z (h ds Q0)⟩, b, F.kp, m⟩
end M

end
section
set_option Elab.async false
set_option linter.all false
set_option maxRecDepth 100000
namespace HT
open PySem PyProof.Rows
section
variable {prog : Program} {w : World} {A : Around} {E : Value → Shared → Prop} {s : Shared}
theorem adjust_rev (n : Nat) : Builtin.Slice.sliceAdjust none none (-1) (n : Int) = ((n : Int) - 1, -1) := by
  unfold Builtin.Slice.sliceAdjust
  simp
theorem places_rev (n : Nat) : Builtin.Slice.slicePlaces ((n : Int) - 1) (-1) (-1) = n := by
  unfold Builtin.Slice.slicePlaces
  simp
  omega
theorem sliceApplied_rev {sl : Addr} {vl vu vs : Value} {n : Nat} {Q : Int × Int × Nat → Shared → Prop} (hs : s.heap.IsSliceOf sl vl vu vs) (pl : IsPart vl none) (pu : IsPart vu none) (ps : IsPart vs (some (-1)))
    (h : Q ((n : Int) - 1, -1, n) s) : wpAny (model prog w) A (Builtin.Slice.sliceApplied (.ref sl) (pure (n : Int))) Q E s := by
  obtain ⟨os, hos, hcs, hds⟩ := id hs
  unfold Builtin.Slice.sliceApplied Builtin.Slice.sliceFields
  refine wpAny_bind (wpAny_bind (wpAny_field hos hds (x := vl) rfl (wpAny_bind (wpAny_field hos hds (x := vu) rfl (wpAny_bind (wpAny_field hos hds (x := vs) rfl (wpAny_pure ?_)))))))
  refine wpAny_bind (slicePart_ ps ?_)
  show wpAny _ _ (if ((-1 : Int) == 0) = true then _ else _) _ _ s
  rw [if_neg (by decide)]
  refine wpAny_bind (slicePart_ pl (wpAny_bind (slicePart_ pu (wpAny_bind (wpAny_pure ?_)))))
  show wpAny _ _ (match Builtin.Slice.sliceAdjust none none (-1) (n : Int) with | (lo, hi) => pure (lo, (-1 : Int), Builtin.Slice.slicePlaces lo hi (-1))) _ _ s
  rw [adjust_rev n]
  show wpAny _ _ (pure ((n : Int) - 1, (-1 : Int), Builtin.Slice.slicePlaces ((n : Int) - 1) (-1) (-1))) _ _ s
  rw [places_rev]
  exact wpAny_pure h
theorem pick_rev (xs : Array Value) : ((List.range xs.size).filterMap fun (m : Nat) => xs[((xs.size : Int) - 1 + (m : Int) * (-1)).toNat]?).toArray = xs.toList.reverse.toArray := by
  congr 1
  have e : ∀ m ∈ List.range xs.size, xs[((xs.size : Int) - 1 + (m : Int) * (-1)).toNat]? = (some ∘ fun m => xs.toList.reverse.getD m .none) m := by
    intro m hm
    have hm' := List.mem_range.mp hm
    have : ((xs.size : Int) - 1 + (m : Int) * (-1)).toNat = xs.size - 1 - m := by omega
    rw [this, Function.comp, List.getD_eq_getElem?_getD, List.getElem?_reverse (by rw [Array.length_toList]; exact hm'), Array.getElem?_toList, Array.length_toList, Array.getElem?_eq_getElem (by omega)]
    rfl
  have fc : ∀ (l : List Nat) (f g : Nat → Option Value), (∀ m ∈ l, f m = g m) → l.filterMap f = l.filterMap g := by
    intro l f g h
    induction l with
    | nil => rfl
    | cons a l ih => rw [List.filterMap_cons, List.filterMap_cons, h a (List.mem_cons_self ..), ih fun m hm => h m (List.mem_cons_of_mem _ hm)]
  rw [fc _ _ _ e, List.filterMap_eq_map]
  apply List.ext_getElem
  · simp
  · intro k h1 h2
    simp at h1
    simp [h1]
theorem getItem_tuple_rev {t sl : Addr} {items : Array Value} {vl vu vs : Value} {Q : Value → Shared → Prop} (ht : IsTup s.heap t items) (hs : s.heap.IsSliceOf sl vl vu vs) (pl : IsPart vl none) (pu : IsPart vu none) (ps : IsPart vs (some (-1)))
    (h : Q (.ref s.heap.objs.size) { s with heap := s.heap.push { cls := .type "tuple", data := .seq items.toList.reverse.toArray } })
    (hsz : items.size ≤ sizeLine) : wpAny (model prog w) A (getItem (.ref t) (.ref sl)) Q E s := by
  have htake : sizeOk (.seq items.toList.reverse.toArray) := by
    show items.toList.reverse.toArray.size ≤ sizeLine
    rw [List.size_toArray, List.length_reverse, Array.length_toList]
    omega
  obtain ⟨os, hos, hcs, hds⟩ := id hs
  have hTs : s.TypeIs (.ref sl) "slice" := ⟨os, hos, hcs⟩
  unfold getItem
  try with_reducible refine wpAny_holding ?_
  first | refine wpAny_bind (wpAny_pure ?_) | skip
  refine wpAny_bind (wpAny_sequenceKey ht.typeIs (by decide) ?_)
  refine wpAny_bind (wpAny_callSpecial?_slot (name := Str.ofString "__getitem__") ht.typeIs PyProof.Rows.slot_tuple_getitem
    (wpAny_call_entry PyProof.Rows.slot_tuple_getitem ht.typeIs entry_tuple_getitem ?_ (args_tuple_getitem _ _)))
  show wpAny _ _ (Builtin.Tuple.tupleItemsOf (.ref t) >>= _) _ _ s
  refine wpAny_bind (tupleItemsOf_ ht ?_)
  refine wpAny_bind (wpAny_typeOf hTs ?_)
  rw [if_pos (by decide)]
  refine wpAny_bind (sliceApplied_rev hs pl pu ps ?_)
  have hno : ¬ ((((items.size : Int) - 1) == 0 && (-1 : Int) == 1 && items.size == items.size) = true) := by
    intro q
    rw [Bool.and_eq_true, Bool.and_eq_true] at q
    exact absurd q.1.2 (by decide)
  show wpAny _ _ (if (((items.size : Int) - 1) == 0 && (-1 : Int) == 1 && items.size == items.size) = true then _ else _) _ _ s
  rw [if_neg hno, pick_rev]
  first
    | exact wpAny_bind (m := Builtin.Tuple.tupleExact _) (wpAny_newObj_type (wpAny_pure ⟨_, rfl, wpAny_pure h⟩) htake)
    | exact wpAny_bind (m := Builtin.Tuple.tupleExact _) (wpAny_newObj_type (wpAny_bind (wpAny_pure (wpAny_pure ⟨_, rfl, wpAny_pure h⟩))) htake)
    | exact wpAny_bind (wpAny_bind (m := Builtin.Tuple.tupleExact _) (wpAny_newObj_type (wpAny_pure (wpAny_pure ⟨_, rfl, wpAny_pure h⟩)) htake))
    | exact wpAny_bind (wpAny_bind (m := Builtin.Tuple.tupleExact _) (wpAny_newObj_type (wpAny_pure ⟨_, rfl, wpAny_pure h⟩) htake))
end
end HT
namespace L2
open PySem PySem.Spec PyProof.Rows
section
variable {X : Cx} {e e3 : Expr} {te : TE} {t3 : TO} {pos p2 : Pos}
/-- t[::-1] of a tuple -/
def tRev (K : PySem.W.Frag) (te : TE) (t3 : TO) : TE := fun σ H Q => te σ H fun x H1 => t3 σ H1 fun l H3 => l = some (-1) ∧ ∃ a xs, x = .ref a ∧ SqT K H3 a xs ∧ ∀ p, H3 p = none → Q (.ref p) (upd H3 p (.tup xs.reverse))
theorem pe_rev (he : PE X e te) (h3 : PO X (some e3) t3) : PE X (.Subscript e (.Slice none none (some e3) p2) pos) (tRev X.K te t3) := by
  intro pins s σ H Q I h
  refine Subscript_ (thn (he pins s σ H _ I h) fun v s1 ⟨x, H1, I1, r1, q1⟩ => ?_)
  refine wpAny_Slice ?_
  rw [evalPart_none]
  refine wpAny_pure ?_
  refine wpAny_pure ?_
  refine thn (h3 pins s1 σ H1 _ I1 q1) fun v3 s3 ⟨l, H3, I3, p3, q3⟩ => ?_
  obtain ⟨rfl, a, xs, rfl, hx, q⟩ := q3
  cases r1
  have I4 : Inv X pins σ H3 { s3 with heap := s3.heap.push { cls := .type "slice", data := .fields #[.none, .none, v3] } } := I3.kept (t' := s3.toks) fun b ob q => Heap.get?_push_of_some _ q
  obtain ⟨its, r, ht, hz⟩ := I4.tuple hx
  have hlen : its.toArray.size = xs.length := by rw [List.size_toArray]; exact r.length.symm
  have hg : wpAny (model X.prog X.w) X.A (getItem (.ref a) (.ref s3.heap.objs.size)) (EP X pins σ Q) X.xe { s3 with heap := s3.heap.push { cls := .type "slice", data := .fields #[.none, .none, v3] } } := by
    refine HT.getItem_tuple_rev ht (Heap.IsSliceOf.new ..) .none .none p3 ?_ (by rw [hlen]; exact hz)
    refine ⟨.ref _, _, I4.laid (t' := s3.toks) (o := .tup xs.reverse) (fun b ob q => Heap.get?_push_of_some _ q) (Nat.le_refl _) ?_, rfl, q _ (I4.hok.fresh (Nat.le_refl _))⟩
    exact ⟨by rw [List.length_reverse]; exact hz, _, r.reverse, IsTup.new _ _⟩
  exact tail_any (ops := [.ref a, .ref s3.heap.objs.size]) ht.typeIs PyProof.Rows.slot_tuple_getitem.lookup hg (by with_unfolding_all rfl)
end
end L2
namespace M
open PySem PySem.Spec PyProof.Rows L2
section
variable {X : Cx} {K : PySem.W.Frag} {A : AS} {H : Hp} {e e3 : Expr} {t3 : UE} {pos p2 : Pos}
/-- t[::-1] of a tuple -/
def gRev (d : D) (Q : B → Prop) : Prop := match d with
  | .tup l => Q (.pu (.tup l.reverse))
  | _ => False
def uRev (t : UV) (t3 : UE) : UE := fun ρ Q => t ρ fun d ρ1 => t3 ρ1 fun b ρ2 => b.d = .int (-1) ∧ gRev d fun b => Q b ρ2
theorem pu_rev {t : UV} (he : PUV X e t) (h3 : PU X e3 t3) : PU X (.Subscript e (.Slice none none (some e3) p2) pos) (uRev t t3) :=
  PEimp (pe_rev he (po_some h3)) fun σ H Q ⟨C, ρ, Q0, I, h, k⟩ => ⟨C, ρ, _, I, h, fun d ρ1 v H1 q f s r => by
    have I1 := (I.frz f).same s
    refine ⟨C, ρ1, _, I1, q, fun b ρ2 v3 H2 q2 f2 s2 r2 => ?_⟩
    have I2 := (I1.frz f2).same s2
    obtain ⟨eb, q2⟩ := q2
    have ri := r2.rep fun a z => I1.avF f2 z
    rw [eb] at ri
    have := rep_int ri
    subst this
    refine ⟨-1, rfl, rfl, ?_⟩
    have r' := r.mono (A' := Av C ρ2 σ) s2 fun a z => f2.av z
    cases d with
    | tup l =>
      obtain ⟨a, vs, rfl, c, rs⟩ := r'
      exact ⟨a, vs, rfl, c, fun p n => k _ ρ2 _ _ q2 (f.trans f2) ((s.trans s2).trans (same_new n _)) (rep_new_tup (fun a z => I2.avSome z) n rs.reverse)⟩
    | _ => exact q2.elim⟩
/-- in, not in: an int in a tuple or list of ints -/
def gIn (neg : Bool) (d e : D) (Q : B → Prop) : Prop := ∃ (i : Int) (js : List Int), d = .int i ∧ (e = .tup (js.map D.int) ∨ e = .lst (js.map D.int) ∨ e = .rol (js.map D.int)) ∧ Q (.pu (.bl (neg ^^ decide (i ∈ js))))
theorem RepL.unints : ∀ {js : List Int} {vs : List V}, RepL K A H (js.map D.int) vs → vs = js.map V.int
  | [], _, h => by simp only [List.map_nil, RepL] at h; exact h
  | j :: js, vs, h => by
    simp only [List.map_cons, RepL] at h
    obtain ⟨v, vr, rfl, r, rs⟩ := h
    rw [rep_int r, RepL.unints rs]
    rfl
theorem inV_ints (i : Int) (js : List Int) : inV (.int i) (js.map V.int) = decide (i ∈ js) := by
  unfold inV
  induction js with
  | nil => rfl
  | cons j js ih =>
    rw [List.map_cons, List.any_cons, ih]
    show ((j == i) || decide (i ∈ js)) = decide (i ∈ j :: js)
    by_cases h : j = i
    · subst h; simp
    · have h' : ¬ i = j := fun z => h z.symm
      simp [h, h']
theorem flat_ints (js : List Int) : (js.map V.int).all flatV = true := by
  induction js with
  | nil => rfl
  | cons j js ih => rw [List.map_cons, List.all_cons, ih]; rfl
theorem ou_inG {neg : Bool} {op : Value → Value → Sem Value} (ho : OpR X op (rIn X.K neg)) : OpU X op (gIn neg) := by
  intro A H d e v w Q0 Q hA r1 r2 g k
  obtain ⟨i, js, rfl, he, g⟩ := g
  have e1 := rep_int r1
  subst e1
  have fin : Q (.bl (if neg = true then !inV (.int i) (js.map V.int) else inV (.int i) (js.map V.int))) H := by
    rw [inV_ints]
    refine k _ _ H g (.refl _) ?_
    cases neg
    · rw [if_neg (by decide), Bool.false_xor]; exact rep_bl
    · rw [if_pos rfl, Bool.true_xor]; exact rep_bl
  rcases he with rfl | rfl | rfl
  · simp only [Rep] at r2
    obtain ⟨a, vs, rfl, c, rs⟩ := r2
    have := rs.unints
    subst this
    exact ⟨_, ho, a, _, rfl, .inr (c.imp And.right id), rfl, flat_ints js, fin⟩
  · simp only [Rep] at r2
    obtain ⟨a, vs, rfl, n, c, rs⟩ := r2
    have := rs.unints
    subst this
    exact ⟨_, ho, a, _, rfl, .inl (SqL.of c), rfl, flat_ints js, fin⟩
  · simp only [Rep] at r2
    obtain ⟨a, vs, rfl, c, rs⟩ := r2
    have := rs.unints
    subst this
    exact ⟨_, ho, a, _, rfl, .inl (c.imp And.right id), rfl, flat_ints js, fin⟩
theorem ou_in : OpU X (compareOp .In) (gIn false) := ou_inG op_in_seq
theorem ou_notin : OpU X (compareOp .NotIn) (gIn true) := ou_inG op_notIn_seq
end
end M

end
section
set_option Elab.async false
set_option linter.all false
set_option maxRecDepth 100000
namespace L2
open PySem PySem.Spec PyProof.Rows
/-- range(a, b, -1) -/
def Itd (lo : Int) (n : Nat) : It := { go := fun i _ => i < n, yld := fun i H x H' => H' = H ∧ x = V.int (lo - (i : Int)), stop := fun i _ => n ≤ i }
theorem turn_down {P : Program} {w : World} {K : PySem.W.Frag} {tg : Expr} (it : Addr) (lo : Int) (n : Nat) : Turn P w K tg (Itd lo n) [it] it (fun i h => IsRangeIter h it (lo + (i : Nat) * (-1)) ((n : Int) - (i : Nat)) (-1)) where
  mem := by simp
  obj := fun i h st b hb => by
    have e : b = it := by simpa using hb
    subst e
    exact ⟨_, st, fun v z => by
      have z' : Data.fields _ = Data.cell v := z
      cases z'⟩
  keep := fun i h h' st k => k it (by simp) _ st
  item := by
    intro X hP hw hK hc i pins s σ H E I hf st hg
    subst hP hw hK
    obtain ⟨f0, f1, f2, f3, f4, f5⟩ := hf it (by simp)
    have W := Walks.range (prog := X.prog) (w := X.w) (I.ok.hd hc) it lo (-1) n
    refine W.item i s _ _ hg st fun v h' tk hv st' kk => ?_
    obtain ⟨t, rfl⟩ := hv
    have I1 : Inv X pins σ H { s with heap := h', toks := tk } := I.turned (fun b o hb e => kk b o (by simpa using hb) e) f0 f1 f3 f4 f5
    refine ⟨_, rfl, go_of (s := { s with heap := h', toks := tk }) (n := "range_iterator") st' rfl rfl (by decide) ⟨.int (lo - i), H, I1, ⟨t, ?_⟩, ⟨rfl, rfl⟩, st', fun b hb => (hf b hb).1⟩⟩
    rw [show lo + ((i : Nat) : Int) * (-1) = lo - (i : Int) by omega]
  done := by
    intro X hP hw hK hc i pins s σ H E I hf st hg
    subst hP hw hK
    obtain ⟨f0, f1, f2, f3, f4, f5⟩ := hf it (by simp)
    exact wpAny_pyNext_range_end (I.ok.hd hc) st (by have : n ≤ i := hg; omega) fun h' eb => ⟨rfl, I.turned (t' := s.toks) (fun b o hb e => eb b o hb e) f0 f1 f3 f4 f5⟩
  self := fun _ _ _ _ _ st h => wpAny_pyIter_rangeiter st h
section
variable {X : Cx} {tg : Expr}
theorem size_down (a b : Int) : Builtin.Range.rangeSize a b (-1) = (((a - b).toNat : Nat) : Int) := by
  unfold Builtin.Range.rangeSize
  rw [if_neg (by decide)]
  split <;> simp <;> omega
theorem small_down {a b : Int} (h1 : -(2 ^ 31) ≤ a) (h2 : a < 2 ^ 31) (h3 : -(2 ^ 31) ≤ b) (h4 : b < 2 ^ 31) : Builtin.Range.small a b (-1) = true := by
  unfold Builtin.Range.small
  rw [size_down]
  simp [Builtin.Range.rangeFitsLong]
  omega
theorem range_down {pins : List (Addr × Obj)} {σ : St} {H : Hp} {s : Shared} {R : It → Hp → Prop} {E : Value → Shared → Prop} {lo hi : Int} {t u v : Tok} {tk : Nat} (I : Inv X pins σ H s) (h1 : -(2 ^ 31) ≤ lo) (h2 : lo < 2 ^ 31) (h3 : -(2 ^ 31) ≤ hi) (h4 : hi < 2 ^ 31)
    (q : R (Itd lo (lo - hi).toNat) H) : wpAny (model X.prog X.w) X.A (pyIter (.ref s.heap.objs.size)) (PIE X pins σ tg R) E { s with heap := s.heap.push { cls := .type "range", data := .fields #[.int lo t, .int hi u, .int (-1) v] }, toks := tk } := by
  refine wpAny_pyIter_range (IsRange.new ..) (small_down h1 h2 h3 h4) ?_
  have I1 : Inv X pins σ H { s with heap := s.heap.push { cls := .type "range", data := .fields #[.int lo t, .int hi u, .int (-1) v] }, toks := tk } := I.kept fun b o e => Heap.get?_push_of_some _ e
  refine ⟨(s.heap.push { cls := .type "range", data := .fields #[.int lo t, .int hi u, .int (-1) v] }).objs.size, [(s.heap.push { cls := .type "range", data := .fields #[.int lo t, .int hi u, .int (-1) v] }).objs.size], _, _, H, rfl,
    I1.kept (t' := tk) fun b o e => Heap.get?_push_of_some _ e, turn_down _ lo (lo - hi).toNat, ?_, fun b hb => ?_, q⟩
  · have e1 : lo + ((0 : Nat) : Int) * (-1) = lo := by simp
    have e2 : (((lo - hi).toNat : Nat) : Int) - ((0 : Nat) : Int) = Builtin.Range.rangeSize lo hi (-1) := by rw [size_down]; simp
    show IsRangeIter _ _ (lo + ((0 : Nat) : Int) * (-1)) ((((lo - hi).toNat : Nat) : Int) - ((0 : Nat) : Int)) (-1)
    rw [e1, e2]
    exact Heap.get?_push_size _ rfl
  · have e : b = (s.heap.push { cls := .type "range", data := .fields #[.int lo t, .int hi u, .int (-1) v] }).objs.size := by simpa using hb
    subst e
    exact I1.fpOk (Nat.le_refl _) (I1.hok.fresh (Nat.le_refl _))
def iRngD (ta : TA) : TI := fun σ H R => ta σ H fun vs H1 => ∃ i j : Int, vs = [.int i, .int j, .int (-1)] ∧ (-(2 ^ 31) ≤ i ∧ i < 2 ^ 31 ∧ -(2 ^ 31) ≤ j ∧ j < 2 ^ 31) ∧ R (Itd i (i - j).toNat) H1
theorem pi_rangeD {a b c : Expr} {ta : TA} {p pos : Pos} (hg : Gl X "range") (hm : X.mg "range" = none) (ha : PA X [a, b, c] ta) (hs : starEach [a, b, c] X.env = [(false, eval a X.env), (false, eval b X.env), (false, eval c X.env)] := by rfl) (hs2 : starEach [b, c] X.env = [(false, eval b X.env), (false, eval c X.env)] := by rfl) :
    PI X tg (.Call (.Name "range" p) [a, b, c] [] pos) (iRngD ta) := by
  intro pins s σ H R I h
  refine Call_ (ld_blt I hg hm boot_range (PyProof.Rows.callWith_type1 (thn (ha pos pins s σ H _ I h) fun us s1 ⟨vs, H1, I1, r1, q1⟩ => ?_) (by rw [hs, hs2]) (by rw [hs2]; rfl)))
  obtain ⟨i, j, e, ⟨q1, q2, q3, q4⟩, q⟩ := q1
  subst e
  cases r1 with
  | cons r rr =>
    cases rr with
    | cons r' rr =>
      cases rr with
      | cons r'' rr =>
        cases rr
        obtain ⟨t, rfl⟩ := r
        obtain ⟨t', rfl⟩ := r'
        obtain ⟨t'', rfl⟩ := r''
        exact call_range_3 (by decide) (range_down I1 q1 q2 q3 q4 q) (.inl (by
          unfold Builtin.divisionGoesByPylong
          simp
          intro hz
          have : Nat.log2 1 = 0 := by decide
          omega))
end
end L2
namespace M
open PySem PySem.Spec PyProof.Rows L2
section
variable {X : Cx} {K : PySem.W.Frag} {H : Hp} {pos : Pos}
theorem itok_down {A : AS} {lo : Int} {n : Nat} : ItOk K A H (Itd lo n) n (fun i => .int (lo - i)) :=
  ⟨fun _ _ _ _ h => h, fun _ _ i x H'' _ _ _ ⟨e, y⟩ => by subst e; subst y; exact ⟨.refl _, by simp only [Rep]⟩, fun _ _ _ => Nat.le_refl n⟩
def uRngD (ta : UA) : UI := fun ρ Q => ta ρ fun ds ρ1 => match ds with
  | [.int i, .int j, .int m] => m = -1 ∧ (-(2 ^ 31) ≤ i ∧ i < 2 ^ 31 ∧ -(2 ^ 31) ≤ j ∧ j < 2 ^ 31) ∧ Q (i - j).toNat (fun k => .int (i - k)) ρ1
  | _ => False
theorem ui_rangeD {tg a b c : Expr} {ta : UA} {p : Pos} (hg : Gl X "range") (hm : X.mg "range" = none) (ha : PUA X [a, b, c] ta) (hs : starEach [a, b, c] X.env = [(false, eval a X.env), (false, eval b X.env), (false, eval c X.env)] := by rfl) (hs2 : starEach [b, c] X.env = [(false, eval b X.env), (false, eval c X.env)] := by rfl) :
    PUI X tg (.Call (.Name "range" p) [a, b, c] [] pos) (uRngD ta) :=
  PIimp (pi_rangeD hg hm ha hs hs2) fun σ H R ⟨C, ρ, Q0, I, h, k⟩ => ⟨C, ρ, _, I, h, fun ds ρ1 vs H1 q f s r => by
    split at q
    · rename_i i j m
      obtain ⟨v, vr, rfl, rv, rr⟩ := r.uncons
      obtain ⟨w, wr, rfl, rw', rr'⟩ := rr.uncons
      obtain ⟨z, zr, rfl, rz, rr''⟩ := rr'.uncons
      have := rr''.unnil
      subst this
      have := rep_int rv
      subst this
      have := rep_int rw'
      subst this
      have := rep_int rz
      subst this
      obtain ⟨hm, hb, q⟩ := q
      subst hm
      exact ⟨i, j, rfl, hb, k _ _ ρ1 _ H1 q f s itok_down⟩
    · exact q.elim⟩
end
end M

end
section
set_option Elab.async false
set_option linter.all false
set_option maxRecDepth 100000
namespace L2
open PySem PySem.Spec PyProof.Rows
section
variable {X : Cx} {pins : List (Addr × Obj)} {σ : St} {H : Hp} {s : Shared} {h' : Heap}
/-- records of ours have turned, and a new object is laid -/
theorem Inv.turnedNew {t' : Nat} {ch : List Addr} {a : Addr} {o : HO} (I : Inv X pins σ H s) (k : ∀ b u, b ∉ ch → s.heap.get? b = some u → h'.get? b = some u) (hf : ∀ b ∈ ch, FpOk X pins H b)
    (hp : s.heap.objs.size ≤ a) (new : ObjOk X.prog X.w (upd H a o) h' a o) : Inv X pins σ (upd H a o) { s with heap := h', toks := t' } := by
  have hn : H a = none := I.hok.fresh hp
  have nch : ∀ b u, H b = some u → b ∉ ch := fun b u e z => by have := (hf b z).1; rw [e] at this; cases this
  refine I.step (g' := s.gens) (d' := s.drawn) (ch := ch) (fun b hb => ⟨(hf b hb).2.2.2.1, (hf b hb).2.1, (hf b hb).2.2.2.2.1, (hf b hb).2.2.2.2.2⟩) (fun b u _ _ hc e _ => k b u hc e) (fun b u _ _ hc e _ => ⟨u.slots, k b u hc e⟩)
    (fun b u _ e n => by rw [upd_ne (Nat.ne_of_lt (Nat.lt_of_lt_of_le (Heap.lt_size e) hp))]; exact n) (fun b u hc e => ⟨u, k b u hc e⟩)
    (fun b xs e => by rw [upd_ne (ne_of_none e hn)]; exact e) (fun b ob u e => by rw [upd_ne (ne_of_none e hn)]; exact e) (fun b ps e => ⟨#[], by rw [upd_ne (ne_of_none e hn), e]; simp⟩) (fun m hm => ?_) (fun b u e => ?_) I.bare
  · obtain ⟨ob, es, ep, ho, r⟩ := hm
    exact ⟨ob, es, ep, k _ ob (fun z => (hf _ z).2.1 rfl) ho, r⟩
  · by_cases hb : b = a
    · subst hb
      rw [upd_same] at e
      cases e
      exact new
    · rw [upd_ne hb] at e
      refine (I.hok b u e).stay (fun c v hc q => k c v ?_ q) (fun c q => by rw [upd_ne (ne_of_none q hn)]; exact q) fun c xs q => by rw [upd_ne (ne_of_none q hn)]; exact q
      rcases hc with z | z
      · rw [z]; exact nch b u e
      · exact nch c _ z
theorem Inv.turnedL {t' : Nat} {ch : List Addr} (I : Inv X pins σ H s) (k : ∀ b u, b ∉ ch → s.heap.get? b = some u → h'.get? b = some u) (hf : ∀ b ∈ ch, FpOk X pins H b) : Inv X pins σ H { s with heap := h', toks := t' } := by
  have nch : ∀ b u, H b = some u → b ∉ ch := fun b u e z => by have := (hf b z).1; rw [e] at this; cases this
  refine I.step (g' := s.gens) (d' := s.drawn) (ch := ch) (fun b hb => ⟨(hf b hb).2.2.2.1, (hf b hb).2.1, (hf b hb).2.2.2.2.1, (hf b hb).2.2.2.2.2⟩) (fun b u _ _ hc e _ => k b u hc e) (fun b u _ _ hc e _ => ⟨u.slots, k b u hc e⟩)
    (fun b u _ e n => n) (fun b u hc e => ⟨u, k b u hc e⟩) (fun b xs e => e) (fun b ob u e => e) (fun b ps e => ⟨#[], by rw [e]; simp⟩) (fun m hm => ?_) (fun b u e => ?_) I.bare
  · obtain ⟨ob, es, ep, ho, r⟩ := hm
    exact ⟨ob, es, ep, k _ ob (fun z => (hf _ z).2.1 rfl) ho, r⟩
  · refine (I.hok b u e).stay (fun c v hc q => k c v ?_ q) (fun c q => q) fun c xs q => q
    rcases hc with z | z
    · rw [z]; exact nch b u e
    · exact nch c _ z
end

/-! ### lists and tuples as one -/
/-- a list (T false) or a tuple (T true) -/
def IsSq (T : Bool) (h : Heap) (a : Addr) (xs : Array Value) : Prop := match T with
  | false => h.IsList a xs
  | true => h.IsTuple a xs
def SqIt (T : Bool) (h : Heap) (it a : Addr) (i : Nat) : Prop := match T with
  | false => h.IsListIter it a i
  | true => h.IsTupleIter it a i
def sqObj (T : Bool) (a : Addr) : Obj := match T with
  | false => { cls := .type "list_iterator", data := .fields #[.ref a, .int 0 0] }
  | true => { cls := .type "tuple_iterator", data := .fields #[.ref a, .int 0 0] }
def SqV (K : PySem.W.Frag) (T : Bool) (H : Hp) (a : Addr) (xs : List V) : Prop := match T with
  | false => SqL K H a xs
  | true => SqT K H a xs
theorem IsSq.at {T : Bool} {h h' : Heap} {a : Addr} {xs : Array Value} (x : IsSq T h a xs) (e : ∀ o, h.get? a = some o → h'.get? a = some o) : IsSq T h' a xs := by
  cases T <;> (obtain ⟨o, ho, r⟩ := x; exact ⟨o, e o ho, r⟩)
theorem SqIt.at {T : Bool} {h h' : Heap} {it a : Addr} {i : Nat} (x : SqIt T h it a i) (e : ∀ o, h.get? it = some o → h'.get? it = some o) : SqIt T h' it a i := by
  cases T <;> (obtain ⟨o, ho, r⟩ := x; exact ⟨o, e o ho, r⟩)
theorem IsSq.lt {T : Bool} {h : Heap} {a : Addr} {xs : Array Value} (x : IsSq T h a xs) : a < h.objs.size := by
  cases T <;> (obtain ⟨o, ho, r⟩ := x; exact Heap.lt_size ho)
theorem SqIt.lt {T : Bool} {h : Heap} {it a : Addr} {i : Nat} (x : SqIt T h it a i) : it < h.objs.size := by
  cases T <;> (obtain ⟨o, ho, r⟩ := x; exact Heap.lt_size ho)
theorem SqIt.rec' {T : Bool} {h : Heap} {it a : Addr} {i : Nat} (x : SqIt T h it a i) : ∃ o, h.get? it = some o ∧ ∀ v, o.data ≠ .cell v := by
  cases T <;> (obtain ⟨o, ho, hc, hd⟩ := x; exact ⟨o, ho, fun v z => by rw [hd] at z; cases z⟩)
theorem SqIt.new {T : Bool} (h : Heap) (a : Addr) : SqIt T (h.push (sqObj T a)) h.objs.size a 0 := by
  cases T <;> exact ⟨_, Heap.get?_push_size _ rfl, rfl, rfl⟩
section
variable {X : Cx} {pins : List (Addr × Obj)} {σ : St} {H : Hp} {s : Shared}
theorem Inv.sq {T : Bool} {a : Addr} {xs : List V} (I : Inv X pins σ H s) (h : SqV X.K T H a xs) : ∃ its : List Value, Vals xs its ∧ IsSq T s.heap a its.toArray ∧ xs.length ≤ sizeLine := by
  cases T with
  | false => obtain ⟨its, rv, p, hz⟩ := I.list h; exact ⟨its, rv, p.isList, hz⟩
  | true => obtain ⟨its, rv, p, hz⟩ := I.tuple h; exact ⟨its, rv, p, hz⟩
theorem Inv.sq_inj {T : Bool} {a : Addr} {xs ys : List V} (I : Inv X pins σ H s) (h : SqV X.K T H a xs) (h' : SqV X.K T H a ys) : xs = ys := by
  cases T with
  | false => exact I.list_inj h h'
  | true => exact I.tuple_inj h h'
end
section
variable {prog : Program} {w : World} {A : Around} {E : Value → Shared → Prop} {s : Shared}
theorem sq_pyIter {T : Bool} {a : Addr} {xs : Array Value} {Q : Value → Shared → Prop} (hl : IsSq T s.heap a xs) (hQ : Q (.ref s.heap.objs.size) { s with heap := s.heap.push (sqObj T a) }) :
    wpAny (model prog w) A (pyIter (.ref a)) Q E s := by
  cases T with
  | false => exact wpAny_pyIter_list hl hQ
  | true => exact wpAny_pyIter_tuple hl hQ
theorem tup_next {it t : Addr} {i : Nat} {items : Array Value} {x : Value} {Q : Value → Shared → Prop} (hit : s.heap.IsTupleIter it t i) (ht : s.heap.IsTuple t items) (hx : items[i]? = some x)
    (hQ : ∀ h', h'.IsTupleIter it t (i + 1) → Heap.SameBut it s.heap h' → Q x { s with heap := h' }) : wpAny (model prog w) A (Builtin.SmallTypes.nextOf (.ref it)) Q E s := by
  obtain ⟨oi, hoi, hci, hdi⟩ := id hit
  obtain ⟨ot, hot, _, nt, hdt⟩ := ht
  unfold Builtin.SmallTypes.nextOf; refine wpAny_bind (wpAny_callSpecial?_slot (name := Str.ofString "__next__") hit.typeIs PySem.F.slot_tuple_iterator_next (wpAny_call_entry PySem.F.slot_tuple_iterator_next hit.typeIs PySem.F.entry_tuple_iterator_next ?_ (PySem.F.args_tuple_iterator_next_1 _)))
  show wpAny _ _ (field (.ref it) 0 >>= _) _ _ s; refine wpAny_bind (wpAny_field hoi hdi (x := .ref t) rfl ?_)
  show wpAny _ _ (if (Value.ref t == Value.none) = true then _ else _) _ _ s; rw [if_neg (show ¬ ((Value.ref t == Value.none) = true) from Bool.false_ne_true)]
  show wpAny _ _ (field (.ref it) 1 >>= _) _ _ s; refine wpAny_bind (wpAny_field hoi hdi (x := .int i 0) rfl ?_)
  show wpAny _ _ (seqItems? (.ref t) >>= _) _ _ s; refine wpAny_bind (wpAny_seqItems hot hdt ?_)
  simp only [Int.toNat_natCast, hx]
  refine wpAny_bind (wpAny_setField hoi hdi (by simp) (wpAny_pure ⟨x, rfl, wpAny_pure (hQ _ ⟨_, Heap.get?_update_self _ hoi (Obj.isFreed_of_fields (Obj.data_mapFields hdi _)), (Obj.cls_mapFields ..).trans hci, ?_⟩ (Heap.SameBut.update ..))⟩))
  rw [Obj.data_mapFields hdi]; simp [rawInt]
theorem tup_ended {it t : Addr} {i : Nat} {items : Array Value} {Q : Value → Shared → Prop} (hh : A.handled = none) (hit : s.heap.IsTupleIter it t i) (ht : s.heap.IsTuple t items) (hx : items[i]? = none)
    (hE : ∀ h' e, Heap.ExtBut it s.heap h' → (∃ o, h'.get? e = some o ∧ o.cls = .type "StopIteration") → E (.ref e) { s with heap := h' }) : wpAny (model prog w) A (Builtin.SmallTypes.nextOf (.ref it)) Q E s := by
  obtain ⟨oi, hoi, hci, hdi⟩ := id hit
  obtain ⟨ot, hot, _, nt, hdt⟩ := ht
  unfold Builtin.SmallTypes.nextOf; refine wpAny_bind (wpAny_callSpecial?_slot (name := Str.ofString "__next__") hit.typeIs PySem.F.slot_tuple_iterator_next (wpAny_call_entry PySem.F.slot_tuple_iterator_next hit.typeIs PySem.F.entry_tuple_iterator_next ?_ (PySem.F.args_tuple_iterator_next_1 _)))
  show wpAny _ _ (field (.ref it) 0 >>= _) _ _ s; refine wpAny_bind (wpAny_field hoi hdi (x := .ref t) rfl ?_)
  show wpAny _ _ (if (Value.ref t == Value.none) = true then _ else _) _ _ s; rw [if_neg (show ¬ ((Value.ref t == Value.none) = true) from Bool.false_ne_true)]
  show wpAny _ _ (field (.ref it) 1 >>= _) _ _ s; refine wpAny_bind (wpAny_field hoi hdi (x := .int i 0) rfl ?_)
  show wpAny _ _ (seqItems? (.ref t) >>= _) _ _ s; refine wpAny_bind (wpAny_seqItems hot hdt ?_)
  simp only [Int.toNat_natCast, hx]
  refine wpAny_bind (wpAny_rule (wpAny_bind (wpAny_setField hoi hdi (by simp) ?_)))
  show wpAny _ _ (newExc (.type "StopIteration") [] >>= _) _ _ _; refine wpAny_bind ?_; simp only [newExc, newTuple]; refine wpAny_bind (wpAny_newObj_type ?_ (by size_fits))
  refine wpAny_bind (m := firstArgMember _ _) (wpAny_of_eq (a := Value.none) (by first | rfl | (simp only [firstArgMember]; rfl)) ?_); refine wpAny_newObj_type ?_ (by size_fits)
  simp only [raiseNew]; refine wpAny_bind (wpAny_handled ?_); first | rw [show A.in1.handled = none from hh] | rw [hh]
  exact wpAny_bind (wpAny_pure (wpAny_throw (hE _ _ (((Heap.SameBut.update ..).extBut.push _).push _) ⟨_, Heap.get?_push_size _ rfl, rfl⟩)))
theorem sq_next {T : Bool} {it a : Addr} {i : Nat} {xs : Array Value} {x : Value} {Q : Value → Shared → Prop} (hit : SqIt T s.heap it a i) (hl : IsSq T s.heap a xs) (hx : xs[i]? = some x)
    (hQ : ∀ h', SqIt T h' it a (i + 1) → Heap.SameBut it s.heap h' → Q x { s with heap := h' }) : wpAny (model prog w) A (Builtin.SmallTypes.nextOf (.ref it)) Q E s := by
  cases T with
  | false => exact wpAny_nextOf_list_item hit hl hx hQ
  | true => exact tup_next hit hl hx hQ
theorem sq_ended {T : Bool} {it a : Addr} {i : Nat} {xs : Array Value} {Q : Value → Shared → Prop} (hh : A.handled = none) (hit : SqIt T s.heap it a i) (hl : IsSq T s.heap a xs) (hx : xs[i]? = none)
    (hE : ∀ h' e, Heap.ExtBut it s.heap h' → (∃ o, h'.get? e = some o ∧ o.cls = .type "StopIteration") → E (.ref e) { s with heap := h' }) : wpAny (model prog w) A (Builtin.SmallTypes.nextOf (.ref it)) Q E s := by
  cases T with
  | false => exact wpAny_nextOf_list_end hh hit hl hx hE
  | true => exact tup_ended hh hit hl hx hE
end

/-! ### zip of two lists or tuples -/
structure ZSt (T1 T2 : Bool) (z TI TO i1 i2 l1 l2 : Addr) (f0 : Value) (i : Nat) (h : Heap) : Prop where
  hz : IsZip h z TI TO f0
  hI : IsPair h TI (.ref i1) (.ref i2)
  hO : ∃ a b, IsPair h TO a b
  h1 : SqIt T1 h i1 l1 i
  h2 : SqIt T2 h i2 l2 i
structure ZAp (z TI TO i1 i2 : Addr) : Prop where
  a : TI ≠ z
  b : TO ≠ z
  c : i1 ≠ z
  d : i2 ≠ z
  e : TI ≠ TO
  f : TI ≠ i1
  g : TI ≠ i2
  h : TO ≠ i1
  i : TO ≠ i2
  j : i1 ≠ i2
section
variable {prog : Program} {w : World} {A : Around} {E : Value → Shared → Prop} {s : Shared} {T1 T2 : Bool} {z TI TO i1 i2 l1 l2 : Addr} {k : Nat} {xs ys : Array Value}
theorem zip_goes {x y : Value} {Q : Value → Shared → Prop} (D : ZAp z TI TO i1 i2) (n1 : l1 ∉ [z, TI, TO, i1, i2]) (n2 : l2 ∉ [z, TI, TO, i1, i2]) (st : ZSt T1 T2 z TI TO i1 i2 l1 l2 .none k s.heap)
    (hl1 : IsSq T1 s.heap l1 xs) (hl2 : IsSq T2 s.heap l2 ys) (hx : xs[k]? = some x) (hy : ys[k]? = some y)
    (hQ : ∀ h', ZSt T1 T2 z TI TO i1 i2 l1 l2 (rawInt s.heap.objs.size) (k + 1) h' → IsPair h' s.heap.objs.size x y → (∀ c o, c ∉ [z, TI, TO, i1, i2] → s.heap.get? c = some o → h'.get? c = some o) → Q (.ref s.heap.objs.size) { s with heap := h' }) :
    wpAny (model prog w) A (Builtin.«zip.__next__» ⟨[.ref z], []⟩) (fun fin s' => ∃ v, fin = .done (.ret v) ∧ Q v s') E s := by
  obtain ⟨hz, hI, ⟨a0, b0, hO⟩, h1, h2⟩ := st
  simp only [List.mem_cons, List.not_mem_nil, or_false, not_or] at n1 n2
  show wpAny _ _ (field (.ref z) 2 >>= _) _ _ _; refine wpAny_bind (wpAny_field hz rfl (x := .bool false) rfl ?_)
  show wpAny _ _ (field (.ref z) 3 >>= _) _ _ _; refine wpAny_bind (wpAny_field hz rfl (x := .ref TI) rfl ?_)
  refine wpAny_bind (wpAny_seqItems hI rfl ?_); show wpAny _ _ (Builtin.SmallTypes.ownedTupleIsFree (.ref z) >>= _) _ _ _
  refine wpAny_bind ?_; unfold Builtin.SmallTypes.ownedTupleIsFree; refine wpAny_bind (wpAny_field hz rfl (x := .none) rfl (wpAny_pure ?_))
  simp only [if_true]; refine wpAny_bind (wpAny_rule ?_); refine wpAny_bind (wpAny_field hz rfl (x := .ref TO) rfl ?_)
  refine wpAny_bind (wpAny_setField_rec hz (by simp) fun g1 z1 m1 => ?_); replace z1 : IsZip g1 z TI TO .ellipsis := z1
  refine wpAny_bind ?_; simp only [List.zipIdx_cons, List.zipIdx_nil, List.forIn_cons, List.forIn_nil]
  -- the first
  refine wpAny_bind (wpAny_bind (wpAny_onRaise ?_)); show wpAny _ _ (Builtin.SmallTypes.nextOf (.ref i1) >>= _) _ _ _
  refine wpAny_bind (sq_next (s := { s with heap := g1 }) (h1.at fun o e => m1.extBut _ _ D.c e) (hl1.at fun o e => m1.extBut _ _ n1.1 e) hx fun g2 p2 m2 => wpAny_pure ?_)
  have o2 : IsPair g2 TO a0 b0 := m2.extBut _ _ D.h (m1.extBut _ _ D.b hO)
  refine wpAny_bind (wpAny_seqItems o2 rfl ?_); refine wpAny_bind (wpAny_updateSeq_pair o2 fun g3 o3 m3 => ?_); replace o3 : IsPair g3 TO x b0 := o3
  refine wpAny_bind (wpAny_letGo (wpAny_pure ?_))
  -- the second
  refine wpAny_bind (wpAny_bind (wpAny_onRaise ?_)); show wpAny _ _ (Builtin.SmallTypes.nextOf (.ref i2) >>= _) _ _ _
  refine wpAny_bind (sq_next (s := { s with heap := g3 }) (h2.at fun o e => m3.extBut _ _ D.i.symm (m2.extBut _ _ D.j.symm (m1.extBut _ _ D.d e))) (hl2.at fun o e => m3.extBut _ _ n2.2.2.1 (m2.extBut _ _ n2.2.2.2.1 (m1.extBut _ _ n2.1 e))) hy fun g4 p4 m4 => wpAny_pure ?_)
  have o4 : IsPair g4 TO x b0 := m4.extBut _ _ D.i o3
  refine wpAny_bind (wpAny_seqItems o4 rfl ?_); refine wpAny_bind (wpAny_updateSeq_pair o4 fun g5 o5 m5 => ?_); replace o5 : IsPair g5 TO x y := o5
  refine wpAny_bind (wpAny_letGo (wpAny_pure (wpAny_pure ?_)))
  -- the new tuple
  refine wpAny_bind (wpAny_seqItems o5 rfl ?_); refine wpAny_bind (wpAny_newTuple ?_)
  have sz : g5.objs.size = s.heap.objs.size := by rw [m5.1, m4.1, m3.1, m2.1, m1.1]
  have z5 : IsZip g5 z TI TO .ellipsis := m5.extBut _ _ D.b.symm (m4.extBut _ _ D.d.symm (m3.extBut _ _ D.b.symm (m2.extBut _ _ D.c.symm z1)))
  have keep5 : ∀ c o, c ≠ z → c ≠ TO → c ≠ i1 → c ≠ i2 → s.heap.get? c = some o → g5.get? c = some o := fun c o c1 c2 c3 c4 e => m5.extBut _ _ c2 (m4.extBut _ _ c4 (m3.extBut _ _ c2 (m2.extBut _ _ c3 (m1.extBut _ _ c1 e))))
  have q1 : SqIt T1 g5 i1 l1 (k + 1) := p2.at fun o e => m5.extBut _ _ D.h.symm (m4.extBut _ _ D.j (m3.extBut _ _ D.h.symm e))
  have q2 : SqIt T2 g5 i2 l2 (k + 1) := p4.at fun o e => m5.extBut _ _ D.i.symm e
  have zl : z < g5.objs.size := Heap.lt_size z5
  show wpAny _ _ (Builtin.SmallTypes.ownedTupleHandOut (.ref z) (.ref g5.objs.size) >>= _) _ _ _; refine wpAny_bind ?_; unfold Builtin.SmallTypes.ownedTupleHandOut
  have z6 : IsZip (g5.push { cls := .type "tuple", data := .seq #[x, y] }) z TI TO .ellipsis := Heap.get?_push_of_some _ z5
  refine wpAny_bind (wpAny_setField_rec z6 (by simp) fun g7 z7 m7 => ?_); replace z7 : IsZip g7 z TI TO (rawInt g5.objs.size) := z7
  refine wpAny_setField_rec z7 (by simp) fun g8 z8 m8 => ?_; replace z8 : IsZip g8 z TI TO (rawInt g5.objs.size) := z8
  have up : ∀ c o, c ≠ z → g5.get? c = some o → g8.get? c = some o := fun c o c1 e => m8.extBut _ _ c1 (m7.extBut _ _ c1 (Heap.get?_push_of_some _ e))
  have t8 : IsPair g8 g5.objs.size x y := m8.extBut _ _ (Nat.ne_of_gt zl) (m7.extBut _ _ (Nat.ne_of_gt zl) (Heap.get?_push_size _ rfl))
  rw [sz] at z8 t8
  refine wpAny_pure ⟨_, rfl, ?_⟩
  show Q (.ref g5.objs.size) _
  rw [sz]
  refine hQ g8 ⟨z8, up _ _ D.a (keep5 _ _ D.a D.e D.f D.g hI), ⟨x, y, up _ _ D.b o5⟩, q1.at fun o e => up _ _ D.c e, q2.at fun o e => up _ _ D.d e⟩ t8 fun c o nc e => ?_
  simp only [List.mem_cons, List.not_mem_nil, or_false, not_or] at nc
  exact up c o nc.1 (keep5 c o nc.1 nc.2.2.1 nc.2.2.2.1 nc.2.2.2.2 e)
theorem zip_ended {Q : Fin → Shared → Prop} (hh : A.handled = none) (D : ZAp z TI TO i1 i2) (n1 : l1 ∉ [z, TI, TO, i1, i2]) (n2 : l2 ∉ [z, TI, TO, i1, i2]) (st : ZSt T1 T2 z TI TO i1 i2 l1 l2 .none k s.heap)
    (hl1 : IsSq T1 s.heap l1 xs) (hl2 : IsSq T2 s.heap l2 ys) (hend : xs[k]? = none ∨ ys[k]? = none)
    (hE : ∀ h' e, (∀ c o, c ∉ [z, TI, TO, i1, i2] → s.heap.get? c = some o → h'.get? c = some o) → (∃ o, h'.get? e = some o ∧ o.cls = .type "StopIteration") → E (.ref e) { s with heap := h' }) :
    wpAny (model prog w) A (Builtin.«zip.__next__» ⟨[.ref z], []⟩) Q E s := by
  obtain ⟨hz, hI, ⟨a0, b0, hO⟩, h1, h2⟩ := st
  simp only [List.mem_cons, List.not_mem_nil, or_false, not_or] at n1 n2
  have nin : ∀ c, c ∉ [z, TI, TO, i1, i2] → c ≠ z ∧ c ≠ TI ∧ c ≠ TO ∧ c ≠ i1 ∧ c ≠ i2 := fun c h => by simpa only [List.mem_cons, List.not_mem_nil, or_false, not_or] using h
  show wpAny _ _ (field (.ref z) 2 >>= _) _ _ _; refine wpAny_bind (wpAny_field hz rfl (x := .bool false) rfl ?_)
  show wpAny _ _ (field (.ref z) 3 >>= _) _ _ _; refine wpAny_bind (wpAny_field hz rfl (x := .ref TI) rfl ?_)
  refine wpAny_bind (wpAny_seqItems hI rfl ?_); show wpAny _ _ (Builtin.SmallTypes.ownedTupleIsFree (.ref z) >>= _) _ _ _
  refine wpAny_bind ?_; unfold Builtin.SmallTypes.ownedTupleIsFree; refine wpAny_bind (wpAny_field hz rfl (x := .none) rfl (wpAny_pure ?_))
  simp only [if_true]; refine wpAny_bind (wpAny_rule ?_); refine wpAny_bind (wpAny_field hz rfl (x := .ref TO) rfl ?_)
  refine wpAny_bind (wpAny_setField_rec hz (by simp) fun g1 z1 m1 => ?_); replace z1 : IsZip g1 z TI TO .ellipsis := z1
  refine wpAny_bind ?_; simp only [List.zipIdx_cons, List.zipIdx_nil, List.forIn_cons, List.forIn_nil]
  refine wpAny_bind (wpAny_bind (wpAny_onRaise ?_)); show wpAny _ _ (Builtin.SmallTypes.nextOf (.ref i1) >>= _) _ _ _
  cases hx : xs[k]? with
  | none =>
    refine wpAny_bind (sq_ended (s := { s with heap := g1 }) hh (h1.at fun o e => m1.extBut _ _ D.c e) (hl1.at fun o e => m1.extBut _ _ n1.1 e) hx fun g2 e m2 he => ?_)
    obtain ⟨oe, hoe, hce⟩ := he
    have z2 : IsZip g2 z TI TO .ellipsis := m2 _ _ D.c.symm z1
    have ez : e ≠ z := fun q => by subst q; rw [z2] at hoe; cases hoe; simp at hce
    refine wpAny_setField_rec z2 (by simp) fun g3 _ m3 => hE g3 e (fun c o nc q => ?_) ⟨oe, m3.extBut _ _ ez hoe, hce⟩
    obtain ⟨c1, c2, c3, c4, c5⟩ := nin c nc
    exact m3.extBut _ _ c1 (m2 _ _ c4 (m1.extBut _ _ c1 q))
  | some x =>
    have hy : ys[k]? = none := by rcases hend with q | q; (rw [hx] at q; cases q); exact q
    refine wpAny_bind (sq_next (s := { s with heap := g1 }) (h1.at fun o e => m1.extBut _ _ D.c e) (hl1.at fun o e => m1.extBut _ _ n1.1 e) hx fun g2 p2 m2 => wpAny_pure ?_)
    have o2 : IsPair g2 TO a0 b0 := m2.extBut _ _ D.h (m1.extBut _ _ D.b hO)
    refine wpAny_bind (wpAny_seqItems o2 rfl ?_); refine wpAny_bind (wpAny_updateSeq_pair o2 fun g3 o3 m3 => ?_)
    refine wpAny_bind (wpAny_letGo (wpAny_pure ?_)); refine wpAny_bind (wpAny_bind (wpAny_onRaise ?_)); show wpAny _ _ (Builtin.SmallTypes.nextOf (.ref i2) >>= _) _ _ _
    refine wpAny_bind (sq_ended (s := { s with heap := g3 }) hh (h2.at fun o e => m3.extBut _ _ D.i.symm (m2.extBut _ _ D.j.symm (m1.extBut _ _ D.d e))) (hl2.at fun o e => m3.extBut _ _ n2.2.2.1 (m2.extBut _ _ n2.2.2.2.1 (m1.extBut _ _ n2.1 e))) hy fun g4 e m4 he => ?_)
    obtain ⟨oe, hoe, hce⟩ := he
    have z4 : IsZip g4 z TI TO .ellipsis := m4 _ _ D.d.symm (m3.extBut _ _ D.b.symm (m2.extBut _ _ D.c.symm z1))
    have ez : e ≠ z := fun q => by subst q; rw [z4] at hoe; cases hoe; simp at hce
    refine wpAny_setField_rec z4 (by simp) fun g5 _ m5 => hE g5 e (fun c o nc q => ?_) ⟨oe, m5.extBut _ _ ez hoe, hce⟩
    obtain ⟨c1, c2, c3, c4, c5⟩ := nin c nc
    exact m5.extBut _ _ c1 (m4 _ _ c5 (m3.extBut _ _ c3 (m2.extBut _ _ c4 (m1.extBut _ _ c1 q))))
end
def Itz (K : PySem.W.Frag) (T1 T2 : Bool) (l1 l2 : Addr) : It where
  go := fun i H => ∃ xs ys x y, SqV K T1 H l1 xs ∧ SqV K T2 H l2 ys ∧ xs[i]? = some x ∧ ys[i]? = some y
  yld := fun i H v H' => ∃ T x y, v = .ref T ∧ H T = none ∧ H' = upd H T (.tup [x, y]) ∧ (∀ xs, SqV K T1 H l1 xs → xs[i]? = some x) ∧ ∀ ys, SqV K T2 H l2 ys → ys[i]? = some y
  stop := fun i H => ∃ xs ys, SqV K T1 H l1 xs ∧ SqV K T2 H l2 ys ∧ (xs.length ≤ i ∨ ys.length ≤ i)
theorem ZSt.objs {T1 T2 : Bool} {z TI TO i1 i2 l1 l2 : Addr} {f0 : Value} {i : Nat} {h : Heap} (st : ZSt T1 T2 z TI TO i1 i2 l1 l2 f0 i h) : ∀ b ∈ [z, TI, TO, i1, i2], ∃ o, h.get? b = some o ∧ ∀ v, o.data ≠ .cell v := fun b hb => by
  obtain ⟨hz, hI, ⟨a, c, hO⟩, h1, h2⟩ := st
  simp only [List.mem_cons, List.not_mem_nil, or_false] at hb
  rcases hb with rfl | rfl | rfl | rfl | rfl
  · exact ⟨_, hz, fun v q => by cases q⟩
  · exact ⟨_, hI, fun v q => by cases q⟩
  · exact ⟨_, hO, fun v q => by cases q⟩
  · exact h1.rec'
  · exact h2.rec'
theorem two_line : 2 ≤ sizeLine := by decide
theorem turn_zip {P : Program} {w : World} {K : PySem.W.Frag} {elts : List Expr} {kt : Nat} {tp : Pos} {T1 T2 : Bool} {z TI TO i1 i2 l1 l2 : Addr} (D : ZAp z TI TO i1 i2) (n1 : l1 ∉ [z, TI, TO, i1, i2]) (n2 : l2 ∉ [z, TI, TO, i1, i2]) :
    Turn P w K (.Tuple elts kt tp) (Itz K T1 T2 l1 l2) [z, TI, TO, i1, i2] z (ZSt T1 T2 z TI TO i1 i2 l1 l2 .none) where
  mem := by simp
  obj := fun i h st b hb => st.objs b hb
  keep := fun i h h' st k => by
    obtain ⟨hz, hI, ⟨a, c, hO⟩, h1, h2⟩ := st
    exact ⟨k z (by simp) _ hz, k TI (by simp) _ hI, ⟨a, c, k TO (by simp) _ hO⟩, h1.at fun o e => k i1 (by simp) o e, h2.at fun o e => k i2 (by simp) o e⟩
  item := by
    intro X hP hw hK hc i pins s σ H E I hf st hg
    subst hP hw hK
    obtain ⟨xs, ys, x, y, q1, q2, e1, e2⟩ := hg
    obtain ⟨is1, r1, p1, _⟩ := I.sq q1
    obtain ⟨is2, r2, p2, _⟩ := I.sq q2
    obtain ⟨u1, hu1, ru1⟩ := r1.get e1
    obtain ⟨u2, hu2, ru2⟩ := r2.get e2
    have hT : s.TypeIs (.ref z) "zip" := ⟨_, st.hz, rfl⟩
    unfold pyNext
    refine wpAny_bind (wpAny_attempt (wpAny_callSpecial?_slot (name := Str.ofString "__next__") hT PySem.F.slot_zip_next (wpAny_call_entry PySem.F.slot_zip_next hT PySem.F.entry_zip_next (zip_goes D n1 n2 st p1 p2 (by simpa using hu1) (by simpa using hu2) fun h' st' ht k => wpAny_pure ?_) (PySem.F.args_zip_next_1 _))))
    refine ⟨_, rfl, wpAny_letOwnedTupleGo_zip st'.hz fun h2 hz2 m => ?_⟩
    have kk : ∀ b u, b ∉ [z, TI, TO, i1, i2] → s.heap.get? b = some u → h2.get? b = some u := fun b u nb e => m.extBut _ _ (fun q => nb (by simp [q])) (k b u nb e)
    have hne : s.heap.objs.size ≠ z := Nat.ne_of_gt (Heap.lt_size st.hz)
    have ht2 : IsPair h2 s.heap.objs.size u1 u2 := m.extBut _ _ hne ht
    obtain ⟨a', c', hO'⟩ := st'.hO
    refine ⟨.ref s.heap.objs.size, upd H s.heap.objs.size (.tup [x, y]), I.turnedNew (t' := s.toks) kk hf (Nat.le_refl _) ⟨two_line, [u1, u2], .cons ru1 (.cons ru2 .nil), ⟨_, ht2, rfl, _, rfl⟩⟩, rfl,
      ⟨_, x, y, rfl, I.hok.fresh (Nat.le_refl _), rfl, fun xs' q => by rw [I.sq_inj q q1]; exact e1, fun ys' q => by rw [I.sq_inj q q2]; exact e2⟩, ⟨hz2, m.extBut _ _ D.a st'.hI, ⟨a', c', m.extBut _ _ D.b hO'⟩, st'.h1.at fun o e => m.extBut _ _ D.c e, st'.h2.at fun o e => m.extBut _ _ D.d e⟩, fun b hb => ?_⟩
    obtain ⟨o, ho, _⟩ := st.objs b hb
    rw [upd_ne (Nat.ne_of_lt (Heap.lt_size ho))]
    exact (hf b hb).1
  done := by
    intro X hP hw hK hc i pins s σ H E I hf st hg
    subst hP hw hK
    obtain ⟨xs, ys, q1, q2, hs⟩ := hg
    obtain ⟨is1, r1, p1, _⟩ := I.sq q1
    obtain ⟨is2, r2, p2, _⟩ := I.sq q2
    have l1' := r1.length
    have l2' := r2.length
    have hT : s.TypeIs (.ref z) "zip" := ⟨_, st.hz, rfl⟩
    unfold pyNext
    refine wpAny_bind (wpAny_attempt (wpAny_callSpecial?_slot (name := Str.ofString "__next__") hT PySem.F.slot_zip_next (wpAny_call_entry PySem.F.slot_zip_next hT PySem.F.entry_zip_next (zip_ended (I.ok.hd hc) D n1 n2 st p1 p2 (by simp; omega) fun h' e k he => ?_) (PySem.F.args_zip_next_1 _))))
    obtain ⟨o, ho, hc'⟩ := he
    exact wpAny_bind (wpAny_isInstance (T := "StopIteration") (b := true) ⟨o, ho, hc'⟩ isSubtype_stop (wpAny_pure ⟨rfl, I.turnedL (t' := s.toks) k hf⟩))
  self := fun _ _ _ _ _ st h => wpAny_pyIter_zip st.hz h

abbrev zg1 (T1 : Bool) (h : Heap) (l1 : Addr) : Heap := h.push (sqObj T1 l1)
abbrev zg2 (T1 T2 : Bool) (h : Heap) (l1 l2 : Addr) : Heap := (zg1 T1 h l1).push (sqObj T2 l2)
abbrev zg3 (T1 T2 : Bool) (h : Heap) (l1 l2 : Addr) : Heap := (zg2 T1 T2 h l1 l2).push { cls := .type "tuple", data := .seq #[.ref h.objs.size, .ref (zg1 T1 h l1).objs.size] }
abbrev zg4 (T1 T2 : Bool) (h : Heap) (l1 l2 : Addr) : Heap := (zg3 T1 T2 h l1 l2).push { cls := .type "tuple", data := .seq #[.none, .none] }
abbrev zg5 (T1 T2 : Bool) (h : Heap) (l1 l2 : Addr) : Heap := (zg4 T1 T2 h l1 l2).push { cls := .type "zip", data := .fields #[.none, .bool false, .bool false, .ref (zg2 T1 T2 h l1 l2).objs.size, .ref (zg3 T1 T2 h l1 l2).objs.size] }
theorem zip_new (T1 T2 : Bool) (l1 l2 : Addr) (xs ys : Array Value) : Meets (Builtin.«zip.__new__» ⟨[.type "zip", .ref l1, .ref l2], []⟩) (fun _ R s => IsSq T1 s.heap l1 xs ∧ IsSq T2 s.heap l2 ys ∧
    R (.ok (.ret (.ref (zg4 T1 T2 s.heap l1 l2).objs.size))) { s with heap := zg5 T1 T2 s.heap l1 l2 }) := .of_wp fun prog w A R s h => by
  obtain ⟨hp, g, d, tk, os⟩ := s
  obtain ⟨hl1, hl2, h⟩ := h
  have hsub := sub_zip
  have e1 : IsSq T1 (Shared.heap ⟨hp, g, d, tk, os⟩) l1 xs := hl1
  have e2 : IsSq T2 (Shared.heap ⟨hp.push (sqObj T1 l1), g, d, tk, os⟩) l2 ys := hl2.at fun o e => Heap.get?_push_of_some _ e
  wp_walk using sq_pyIter e1, sq_pyIter e2
  exact ⟨_, rfl, h⟩
section
variable {prog : Program} {w : World} {A : Around} {E : Value → Shared → Prop} {s : Shared}
theorem zip_made {T1 T2 : Bool} {l1 l2 : Addr} {xs ys : Array Value} {Q : Value → Shared → Prop} (hl1 : IsSq T1 s.heap l1 xs) (hl2 : IsSq T2 s.heap l2 ys)
    (h : ∀ h' z TI TO i1 i2, ZAp z TI TO i1 i2 → (∀ b ∈ [z, TI, TO, i1, i2], s.heap.objs.size ≤ b) → ZSt T1 T2 z TI TO i1 i2 l1 l2 .none 0 h' → (∀ c o, s.heap.get? c = some o → h'.get? c = some o) → Q (.ref z) { s with heap := h' }) :
    wpAny (model prog w) A (call (.type "zip") [.ref l1, .ref l2]) Q E s := by
  refine callType_new PySem.F.called_zip (by decide) (PySem.F.typeCall_zip_2 _ _) (PySem.F.newCall_zip_2 _ _) (fun obj => PySem.F.args_object_init_3 obj _ _) PySem.F.entry_zip_new (zip_new T1 T2 l1 l2 xs ys) ⟨hl1, hl2, ?_⟩
  have z1 : (zg1 T1 s.heap l1).objs.size = s.heap.objs.size + 1 := Heap.size_push ..
  have z2 : (zg2 T1 T2 s.heap l1 l2).objs.size = s.heap.objs.size + 2 := by rw [Heap.size_push, z1]
  have z3 : (zg3 T1 T2 s.heap l1 l2).objs.size = s.heap.objs.size + 3 := by rw [Heap.size_push, z2]
  have z4 : (zg4 T1 T2 s.heap l1 l2).objs.size = s.heap.objs.size + 4 := by rw [Heap.size_push, z3]
  have g5 : (zg5 T1 T2 s.heap l1 l2).get? (zg4 T1 T2 s.heap l1 l2).objs.size = some _ := Heap.get?_push_size _ rfl
  have g4 : (zg5 T1 T2 s.heap l1 l2).get? (zg3 T1 T2 s.heap l1 l2).objs.size = some _ := Heap.get?_push_of_some _ (Heap.get?_push_size _ rfl)
  have g3 : (zg5 T1 T2 s.heap l1 l2).get? (zg2 T1 T2 s.heap l1 l2).objs.size = some _ := Heap.get?_push_of_some _ (Heap.get?_push_of_some _ (Heap.get?_push_size _ rfl))
  have s2 : SqIt T2 (zg5 T1 T2 s.heap l1 l2) (zg1 T1 s.heap l1).objs.size l2 0 := (SqIt.new (zg1 T1 s.heap l1) l2).at fun o e => Heap.get?_push_of_some _ (Heap.get?_push_of_some _ (Heap.get?_push_of_some _ e))
  have s1 : SqIt T1 (zg5 T1 T2 s.heap l1 l2) s.heap.objs.size l1 0 := (SqIt.new s.heap l1).at fun o e => Heap.get?_push_of_some _ (Heap.get?_push_of_some _ (Heap.get?_push_of_some _ (Heap.get?_push_of_some _ e)))
  have ap : ZAp (zg4 T1 T2 s.heap l1 l2).objs.size (zg2 T1 T2 s.heap l1 l2).objs.size (zg3 T1 T2 s.heap l1 l2).objs.size s.heap.objs.size (zg1 T1 s.heap l1).objs.size := by
    rw [z1, z2, z3, z4]
    have k : ∀ n a b : Nat, a ≠ b → n + a ≠ n + b := fun n a b h => by omega
    exact ⟨k _ 2 4 (by decide), k _ 3 4 (by decide), k _ 0 4 (by decide), k _ 1 4 (by decide), k _ 2 3 (by decide), k _ 2 0 (by decide), k _ 2 1 (by decide), k _ 3 0 (by decide), k _ 3 1 (by decide), k _ 0 1 (by decide)⟩
  refine ⟨⟨_, g5, rfl⟩, h _ _ _ _ _ _ ap (fun b hb => ?_) ⟨g5, g3, ⟨_, _, g4⟩, s1, s2⟩ fun c o e => Heap.get?_push_of_some _ (Heap.get?_push_of_some _ (Heap.get?_push_of_some _ (Heap.get?_push_of_some _ (Heap.get?_push_of_some _ e))))⟩
  rw [z1, z2, z3, z4] at hb
  simp only [List.mem_cons, List.not_mem_nil, or_false] at hb
  rcases hb with rfl | rfl | rfl | rfl | rfl <;> omega
end
section
variable {X : Cx}
def iZip (K : PySem.W.Frag) (ta : TA) : TI := fun σ H R => ta σ H fun vs H1 => ∃ l1 l2 T1 T2 xs ys, vs = [.ref l1, .ref l2] ∧ SqV K T1 H1 l1 xs ∧ SqV K T2 H1 l2 ys ∧ R (Itz K T1 T2 l1 l2) H1
theorem pi_zip {a b : Expr} {elts : List Expr} {kt : Nat} {tp : Pos} {ta : TA} {p pos : Pos} (hg : Gl X "zip") (hm : X.mg "zip" = none) (ha : PA X [a, b] ta) (hs : starEach [a, b] X.env = [(false, eval a X.env), (false, eval b X.env)] := by rfl) (hs2 : starEach [b] X.env = [(false, eval b X.env)] := by rfl) :
    PI X (.Tuple elts kt tp) (.Call (.Name "zip" p) [a, b] [] pos) (iZip X.K ta) := by
  intro pins s σ H R I h
  refine Call_ (ld_blt I hg hm PyProof.Rows.boot_zip (PyProof.Rows.callWith_type1 (thn (ha pos pins s σ H _ I h) fun us s1 ⟨vs, H1, I1, r1, q1⟩ => ?_) (by rw [hs, hs2]) (by rw [hs2]; rfl)))
  obtain ⟨l1, l2, T1, T2, xs, ys, e, q1, q2, q⟩ := q1
  subst e
  obtain ⟨u, v, rfl, r, r'⟩ := Vals.two r1
  cases r
  cases r'
  obtain ⟨is1, _, p1, _⟩ := I1.sq q1
  obtain ⟨is2, _, p2, _⟩ := I1.sq q2
  refine zip_made p1 p2 fun h' z TI TO i1 i2 ap fr st k => wpAny_pyIter_zip st.hz ?_
  have nl : ∀ l, l < s1.heap.objs.size → l ∉ [z, TI, TO, i1, i2] := fun l hl hb => absurd (Nat.lt_of_lt_of_le hl (fr l hb)) (Nat.lt_irrefl _)
  exact ⟨z, [z, TI, TO, i1, i2], _, _, H1, rfl, I1.kept (t' := s1.toks) k, turn_zip ap (nl l1 p1.lt) (nl l2 p2.lt), st, fun b hb => I1.fpOk (fr b hb) (I1.hok.fresh (fr b hb)), q⟩
end

/-! ### enumerate of a list or a tuple -/
theorem sq_draws {prog : Program} {w : World} {A : Around} {T : Bool} (hh : A.handled = none) (it a : Addr) (hne : a ≠ it) (xs : Array Value) : Draws prog w A it [it, a] xs.size (fun i v => xs[i]? = some v) (fun i h => SqIt T h it a i ∧ IsSq T h a xs) where
  live := fun _ _ st => let ⟨o, ho, _⟩ := st.1.rec'; ⟨o, ho⟩
  frame := fun _ _ _ st k => ⟨st.1.at fun o e => k it (by simp) o e, st.2.at fun o e => k a (by simp) o e⟩
  item := fun i s Q E hi st hQ => sq_next st.1 st.2 (x := xs[i]) (by simp [hi]) fun h' hit' m => hQ _ h' s.toks (by simp [hi]) ⟨hit', st.2.at fun o e => m.extBut _ _ hne e⟩ m
  done := fun s Q E st hE => sq_ended hh st.1 st.2 (by simp) hE
def Ite (K : PySem.W.Frag) (T : Bool) (l : Addr) : It where
  go := fun i H => ∃ xs x, SqV K T H l xs ∧ xs[i]? = some x
  yld := fun i H v H' => ∃ Tn x, v = .ref Tn ∧ H Tn = none ∧ H' = upd H Tn (.tup [.int (i : Int), x]) ∧ ∀ xs, SqV K T H l xs → xs[i]? = some x
  stop := fun i H => ∃ xs, SqV K T H l xs ∧ xs.length = i
def ESt (T : Bool) (e it l : Addr) (i : Nat) (h : Heap) : Prop := (∃ old, IsEnum h e it i old) ∧ SqIt T h it l i
theorem ESt.objs {T : Bool} {e it l : Addr} {i : Nat} {h : Heap} (st : ESt T e it l i h) : ∀ b ∈ [e, it], ∃ o, h.get? b = some o ∧ ∀ v, o.data ≠ .cell v := fun b hb => by
  obtain ⟨⟨old, he⟩, h1⟩ := st
  simp only [List.mem_cons, List.not_mem_nil, or_false] at hb
  rcases hb with rfl | rfl
  · exact ⟨_, he, fun v q => by cases q⟩
  · exact h1.rec'
theorem turn_enum {P : Program} {w : World} {K : PySem.W.Frag} {elts : List Expr} {kt : Nat} {tp : Pos} {T : Bool} {e it l : Addr} (hei : e ≠ it) (nl : l ∉ [e, it]) : Turn P w K (.Tuple elts kt tp) (Ite K T l) [e, it] e (ESt T e it l) where
  mem := by simp
  obj := fun i h st b hb => st.objs b hb
  keep := fun i h h' st k => by
    obtain ⟨⟨old, he⟩, h1⟩ := st
    exact ⟨⟨old, k e (by simp) _ he⟩, h1.at fun o q => k it (by simp) o q⟩
  item := by
    intro X hP hw hK hc i pins s σ H E I hf st hg
    subst hP hw hK
    obtain ⟨xs, x, q1, e1⟩ := hg
    obtain ⟨is1, r1, p1, _⟩ := I.sq q1
    obtain ⟨u1, hu1, ru1⟩ := r1.get e1
    simp only [List.mem_cons, List.not_mem_nil, or_false, not_or] at nl
    obtain ⟨⟨old, he⟩, h1⟩ := id st
    have hi : i < is1.toArray.size := by rw [List.size_toArray]; exact (List.getElem?_eq_some_iff.mp hu1).1
    have D := sq_draws (prog := X.prog) (w := X.w) (A := X.A.in1) (T := T) (I.ok.hd hc) it l nl.2 is1.toArray
    refine wpAny_pyNext_enum_itemD D he ⟨h1, p1⟩ hi hei (by simp [hei, Ne.symm nl.1]) fun v h' tk hv ho hs' ht hsz k => ⟨_, rfl, wpAny_letOwnedTupleGo_enum ho fun h2 he2 m => ?_⟩
    have ev : v = u1 := by
      have : is1.toArray[i]? = some u1 := by simpa using hu1
      rw [this] at hv; cases hv; rfl
    subst ev
    have hne : s.heap.objs.size ≠ e := Nat.ne_of_gt (Heap.lt_size he)
    have kk : ∀ b u, b ∉ [e, it] → s.heap.get? b = some u → h2.get? b = some u := fun b u nb q => by
      simp only [List.mem_cons, List.not_mem_nil, or_false, not_or] at nb
      exact m.extBut _ _ nb.1 (k b u nb.1 nb.2 q)
    have ht2 : h2.get? s.heap.objs.size = some { cls := .type "tuple", data := .seq #[.int i tk, v] } := m.extBut _ _ hne ht
    refine ⟨.ref s.heap.objs.size, upd H s.heap.objs.size (.tup [.int (i : Int), x]), I.turnedNew (t' := tk + 1) kk hf (Nat.le_refl _) ⟨two_line, [.int i tk, v], .cons ⟨tk, rfl⟩ (.cons ru1 .nil), ⟨_, ht2, rfl, _, rfl⟩⟩, rfl,
      ⟨_, x, rfl, I.hok.fresh (Nat.le_refl _), rfl, fun xs' q => by rw [I.sq_inj q q1]; exact e1⟩, ⟨⟨_, by simpa using he2⟩, hs'.1.at fun o q => m.extBut _ _ (Ne.symm hei) q⟩, fun b hb => ?_⟩
    obtain ⟨o, ho', _⟩ := st.objs b hb
    rw [upd_ne (Nat.ne_of_lt (Heap.lt_size ho'))]
    exact (hf b hb).1
  done := by
    intro X hP hw hK hc i pins s σ H E I hf st hg
    subst hP hw hK
    obtain ⟨xs, q1, hl⟩ := hg
    obtain ⟨is1, r1, p1, _⟩ := I.sq q1
    have l1' := r1.length
    simp only [List.mem_cons, List.not_mem_nil, or_false, not_or] at nl
    obtain ⟨⟨old, he⟩, h1⟩ := id st
    have D := sq_draws (prog := X.prog) (w := X.w) (A := X.A.in1) (T := T) (I.ok.hd hc) it l nl.2 is1.toArray
    refine wpAny_pyNext_enum_endD D he ⟨by rw [List.size_toArray, ← l1', hl]; exact h1, p1⟩ fun h' ex => ⟨rfl, I.turnedL (t' := s.toks) (fun b u nb q => ex b u (fun z => nb (by simp [z])) q) hf⟩
  self := fun _ _ _ _ _ st h => by
    obtain ⟨⟨old, he⟩, _⟩ := st
    exact wpAny_pyIter_enum he h
theorem enum_newT (l : Addr) (xs : Array Value) : Meets (Builtin.«enumerate.__new__» ⟨[.type "enumerate", .ref l], []⟩) (fun _ R s => s.heap.IsTuple l xs ∧
    R (.ok (.ret (.ref (s.heap.push (sqObj true l)).objs.size))) { s with heap := (s.heap.push (sqObj true l)).push { cls := .type "enumerate", data := .fields #[.none, .bool false, .ref s.heap.objs.size, rawInt 0, .none, .none] } }) := .of_wp fun prog w A R s h => by
  obtain ⟨hp, g, d, tk, os⟩ := s
  obtain ⟨hl, h⟩ := h
  obtain ⟨⟨c, dct, dt, sl⟩, hg, hc, n, hd⟩ := id hl
  replace hc : c = .type "tuple" := hc
  replace hd : dt = .seq xs n := hd
  subst hc hd
  have hsub := sub_enumerate
  have e1 : IsSq true (Shared.heap ⟨hp, g, d, tk, os⟩) l xs := hl
  wp_walk using AutoSeq1.wpAny_loadPart' hg
  refine wpAny_stack_any fun st => wpAny_pure ?_
  split
  · rename_i c _ _ _ _ _
    cases (c == Value.type "enumerate") <;> (wp_walk using AutoSeq1.wpAny_loadPart' hg, sq_pyIter e1; exact ⟨_, rfl, h⟩)
  · wp_walk using AutoSeq1.wpAny_loadPart' hg, sq_pyIter e1
    exact ⟨_, rfl, h⟩
section
variable {prog : Program} {w : World} {A : Around} {E : Value → Shared → Prop} {s : Shared}
theorem enum_made {T : Bool} {l : Addr} {xs : Array Value} {Q : Value → Shared → Prop} (hl : IsSq T s.heap l xs)
    (h : ∀ h' e it, e ≠ it → s.heap.objs.size ≤ e → s.heap.objs.size ≤ it → ESt T e it l 0 h' → (∀ c o, s.heap.get? c = some o → h'.get? c = some o) → Q (.ref e) { s with heap := h' }) :
    wpAny (model prog w) A (call (.type "enumerate") [.ref l]) Q E s := by
  cases T with
  | false => exact call_enumerate_list hl fun h' he hit hsz k => h h' _ _ (by omega) (by omega) (by omega) ⟨⟨_, he⟩, hit⟩ k
  | true =>
    refine callType_new PySem.F.called_enumerate (by decide) (PySem.F.typeCall_enumerate_1 _) (PySem.F.newCall_enumerate_1 _) (fun obj => PySem.F.args_object_init_2 obj _) PySem.F.entry_enumerate_new (enum_newT l xs) ⟨hl, ?_⟩
    have z1 : (s.heap.push (sqObj true l)).objs.size = s.heap.objs.size + 1 := Heap.size_push ..
    have he : IsEnum ((s.heap.push (sqObj true l)).push { cls := .type "enumerate", data := .fields #[.none, .bool false, .ref s.heap.objs.size, rawInt 0, .none, .none] }) (s.heap.push (sqObj true l)).objs.size s.heap.objs.size 0 .none := Heap.get?_push_size _ rfl
    have hi : SqIt true ((s.heap.push (sqObj true l)).push { cls := .type "enumerate", data := .fields #[.none, .bool false, .ref s.heap.objs.size, rawInt 0, .none, .none] }) s.heap.objs.size l 0 := (SqIt.new (T := true) s.heap l).at fun o e => Heap.get?_push_of_some _ e
    exact ⟨⟨_, he, rfl⟩, h _ _ _ (by rw [z1]; omega) (by rw [z1]; omega) (Nat.le_refl _) ⟨⟨_, he⟩, hi⟩ fun c o e => Heap.get?_push_of_some _ (Heap.get?_push_of_some _ e)⟩
end
section
variable {X : Cx}
def iEnum (K : PySem.W.Frag) (ta : TA) : TI := fun σ H R => ta σ H fun vs H1 => ∃ l T xs, vs = [.ref l] ∧ SqV K T H1 l xs ∧ R (Ite K T l) H1
theorem pi_enum {a : Expr} {elts : List Expr} {kt : Nat} {tp : Pos} {ta : TA} {p pos : Pos} (hg : Gl X "enumerate") (hm : X.mg "enumerate" = none) (ha : PA X [a] ta) (hs : starEach [a] X.env = [(false, eval a X.env)] := by rfl) :
    PI X (.Tuple elts kt tp) (.Call (.Name "enumerate" p) [a] [] pos) (iEnum X.K ta) := by
  intro pins s σ H R I h
  refine Call_ (ld_blt I hg hm PyProof.Rows.boot_enumerate (PyProof.Rows.callWith_type1 (thn (ha pos pins s σ H _ I h) fun us s1 ⟨vs, H1, I1, r1, q1⟩ => ?_) hs rfl))
  obtain ⟨l, T, xs, e, q1, q⟩ := q1
  subst e
  obtain ⟨u, rfl, r⟩ := vals1 r1
  cases r
  obtain ⟨is1, _, p1, _⟩ := I1.sq q1
  refine enum_made p1 fun h' e it ne f1 f2 st k => ?_
  obtain ⟨⟨old, he⟩, _⟩ := id st
  refine wpAny_pyIter_enum he ?_
  have lt := p1.lt
  have fr : ∀ b ∈ [e, it], s1.heap.objs.size ≤ b := fun b hb => by
    simp only [List.mem_cons, List.not_mem_nil, or_false] at hb
    rcases hb with rfl | rfl
    · exact f1
    · exact f2
  exact ⟨e, [e, it], _, _, H1, rfl, I1.kept (t' := s1.toks) k, turn_enum ne (fun hb => absurd (Nat.lt_of_lt_of_le lt (fr l hb)) (Nat.lt_irrefl _)), st, fun b hb => I1.fpOk (fr b hb) (I1.hok.fresh (fr b hb)), q⟩
end
end L2

end
section
set_option Elab.async false
set_option linter.all false
set_option maxRecDepth 100000
namespace L2
open PySem PySem.Spec PyProof.Rows
/-! ### reversed(range(n)) -/
theorem sub_ra_reversed : isSubtype (.type "range_iterator") (.type "reversed") = pure false := by rw [isSubtype_type]; kernel_rfl
theorem fits31 {n : Int} (h1 : -(2 ^ 31) ≤ n) (h2 : n < 2 ^ 31) : Builtin.Range.rangeFitsLong n = true := by
  simp [Builtin.Range.rangeFitsLong]
  omega
def revObjR (n : Int) : Obj := { cls := .type "range_iterator", data := .fields #[rawInt ((n.toNat : Int) - 1), rawInt (n.toNat : Int), rawInt (-1)] }
def revSm (a b c : Int) : Bool := Builtin.Range.rangeFitsLong a && Builtin.Range.rangeFitsLong b && Builtin.Range.rangeFitsLong c && Builtin.Range.rangeFitsLong (-c) && Builtin.Range.rangeFitsLong (a - c) && Builtin.Range.rangeFitsLong (Builtin.Range.rangeSize a b c)
theorem range_rev_gen (r : Addr) (a b c : Int) (t u v : Tok) (hc0 : ¬ (!(Builtin.Range.rangeFitsLong a && Builtin.Range.rangeFitsLong b && Builtin.Range.rangeFitsLong c && Builtin.Range.rangeFitsLong (-c) && Builtin.Range.rangeFitsLong (a - c) && Builtin.Range.rangeFitsLong (Builtin.Range.rangeSize a b c))) = true) :
    Meets (Builtin.«range.__reversed__» ⟨[.ref r], []⟩) (fun _ R s => s.heap.get? r = some { cls := .type "range", dict := none, data := .fields #[.int a t, .int b u, .int c v], slots := #[] } ∧
    R (.ok (.ret (Value.ref s.heap.objs.size))) { s with heap := s.heap.push { cls := Value.type (if (Builtin.Range.rangeFitsLong a && Builtin.Range.rangeFitsLong b && Builtin.Range.rangeFitsLong c && Builtin.Range.rangeFitsLong (-c) && Builtin.Range.rangeFitsLong (a - c) && Builtin.Range.rangeFitsLong (Builtin.Range.rangeSize a b c)) = true then "range_iterator" else "longrange_iterator"), data := Data.fields #[rawInt (a + (Builtin.Range.rangeSize a b c - 1) * c), rawInt (Builtin.Range.rangeSize a b c), rawInt (-c)] }, toks := s.toks }) := .of_wp fun prog w A R s h => by
  obtain ⟨hp, g, d, tk, os⟩ := s
  obtain ⟨hl, h⟩ := h
  wp_walk
  exact ⟨_, rfl, h⟩
theorem range_rev_meets (r : Addr) (n : Int) (t u v : Tok) (h1 : -(2 ^ 31) ≤ n) (h2 : n < 2 ^ 31) : Meets (Builtin.«range.__reversed__» ⟨[.ref r], []⟩) (fun _ R s => IsRange s.heap r 0 n 1 t u v ∧
    R (.ok (.ret (.ref s.heap.objs.size))) { s with heap := s.heap.push (revObjR n) }) := by
  have e0 : Builtin.Range.rangeSize 0 n 1 = (n.toNat : Int) := by rw [rangeSize_one]; split <;> omega
  have sm : (Builtin.Range.rangeFitsLong 0 && Builtin.Range.rangeFitsLong n && Builtin.Range.rangeFitsLong 1 && Builtin.Range.rangeFitsLong (-1) && Builtin.Range.rangeFitsLong (0 - 1) && Builtin.Range.rangeFitsLong (Builtin.Range.rangeSize 0 n 1)) = true := by
    rw [e0, fits31 h1 h2, fits31 (n := 0) (by decide) (by decide), fits31 (n := 1) (by decide) (by decide), fits31 (n := -1) (by decide) (by decide), fits31 (n := 0 - 1) (by decide) (by decide), fits31 (n := (n.toNat : Int)) (by omega) (by omega)]
    rfl
  have G := range_rev_gen r 0 n 1 t u v (by rw [sm]; decide)
  intro prog w A R s h
  refine G prog w A R s ⟨h.1, ?_⟩
  rw [sm, if_pos rfl, e0]
  have e1 : (0 : Int) + ((n.toNat : Int) - 1) * 1 = (n.toNat : Int) - 1 := by omega
  rw [e1]
  exact h.2
section
variable {prog : Program} {w : World} {A : Around} {E : Value → Shared → Prop} {s : Shared}
theorem rng_rev_new {r : Addr} {n : Int} {t u v : Tok} {Q₁ : Value → Shared → Prop} (hr : IsRange s.heap r 0 n 1 t u v) (h1 : -(2 ^ 31) ≤ n) (h2 : n < 2 ^ 31)
    (h : Q₁ (.ref s.heap.objs.size) { s with heap := s.heap.push (revObjR n) }) :
    codeAny (model prog w) A (.call (.builtin "reversed.__new__") ⟨[.type "reversed", .ref r], []⟩) (wants Q₁ E) s := by
  have hT : s.TypeIs (.ref r) "range" := ⟨_, hr, rfl⟩
  refine codeAny_of_tree ?_
  show wpAny _ A.in1 (do checkBuiltinCall "reversed.__new__" ⟨[.type "reversed", .ref r], []⟩; again (.builtin "reversed.__new__" ⟨[.type "reversed", .ref r], []⟩)) _ _ s
  refine wpAny_bind (wpAny_of_eq (PySem.F.newCall_reversed_1 _) (wpAny_pure ⟨plainId_quiet PySem.F.plain_reversed_new _, codeAny_builtin PySem.F.entry_reversed_new ?_⟩))
  rw [Around.under_plainId PySem.F.plain_reversed_new _]; unfold Builtin.«reversed.__new__»
  refine wpAny_bind (wpAny_of_eq (newClass_reversed _) ?_); try dsimp only
  refine wpAny_bind (wpAny_of_eq (a := ()) (by first | rfl | kernel_rfl) ?_); refine wpAny_bind (wpAny_of_eq (a := ()) (by first | rfl | kernel_rfl) ?_); try dsimp only
  refine wpAny_bind (wpAny_specialOf hT PySem.F.slot_range_reversed.lookup ?_); try dsimp only
  refine wpAny_bind (wpAny_of_eq (PySem.F.slot_range_reversed.bind _) ?_); try dsimp only
  first
  | rw [if_neg (show ¬ ((Value.builtin "range.__reversed__" == Value.none) = true) from Bool.false_ne_true)]
  | (show wpAny _ _ (if (Value.builtin "range.__reversed__" == Value.none) = true then _ else _) _ _ _; rw [if_neg (show ¬ ((Value.builtin "range.__reversed__" == Value.none) = true) from Bool.false_ne_true)])
  refine wpAny_bind (wpAny_rule ?_)
  refine wpAny_bind (m := runValue (.call (.builtin "range.__reversed__") ⟨[.ref r], []⟩)) (show wpAny _ _ (call (.builtin "range.__reversed__") [.ref r]) _ _ _ from call_meets PySem.F.slot_range_reversed hT PySem.F.entry_range_reversed (PySem.F.args_range_reversed_1 _) (range_rev_meets r n t u v h1 h2) ⟨hr, ?_⟩)
  first
  | exact wpAny_pure h
  | exact wpAny_bind (wpAny_pure (wpAny_pure h))
theorem rng_rev {r : Addr} {n : Int} {t u v : Tok} {Q : Value → Shared → Prop} (hr : IsRange s.heap r 0 n 1 t u v) (h1 : -(2 ^ 31) ≤ n) (h2 : n < 2 ^ 31) (h : Q (.ref s.heap.objs.size) { s with heap := s.heap.push (revObjR n) }) :
    wpAny (model prog w) A (call (.type "reversed") [.ref r]) Q E s := by
  refine callType_other (U := "range_iterator") (Q₁ := fun obj s₁ => obj = .ref s.heap.objs.size ∧ s₁ = { s with heap := s.heap.push (revObjR n) }) (by decide +kernel) PySem.F.create_reversed ⟨_, _, PySem.F.mro_reversed⟩ PySem.F.made_reversed sub_ra_reversed (PySem.F.typeCall_reversed_1 _) (rng_rev_new hr h1 h2 ⟨rfl, rfl⟩) ?_
  rintro obj s₁ ⟨rfl, rfl⟩
  exact ⟨⟨_, Heap.get?_push_size _ rfl, rfl⟩, h⟩
end
section
variable {X : Cx} {tg : Expr}
def iRevR (ta : TA) : TI := fun σ H R => ta σ H fun vs H1 => ∃ j : Int, vs = [.int j] ∧ -(2 ^ 31) ≤ j ∧ j < 2 ^ 31 ∧ R (Itd ((j.toNat : Int) - 1) j.toNat) H1
theorem pi_revRange {a : Expr} {ta : TA} {p p2 pos pos2 : Pos} (hg : Gl X "reversed") (hm : X.mg "reversed" = none) (hg2 : Gl X "range") (hm2 : X.mg "range" = none) (ha : PA X [a] ta) (hs : starEach [a] X.env = [(false, eval a X.env)] := by rfl)
    (hs2 : starEach [.Call (.Name "range" p2) [a] [] pos2] X.env = [(false, eval (.Call (.Name "range" p2) [a] [] pos2) X.env)] := by rfl) :
    PI X tg (.Call (.Name "reversed" p) [.Call (.Name "range" p2) [a] [] pos2] [] pos) (iRevR ta) := by
  intro pins s σ H R I h
  refine Call_ (ld_blt I hg hm PyProof.Rows.boot_reversed (PyProof.Rows.callWith_type1 ?_ hs2 rfl))
  rw [hs2]
  show wpAny _ _ (spliced ((false, eval (.Call (.Name "range" p2) [a] [] pos2) X.env) :: [])) _ _ s
  refine Calls.spliced_cons (Call_ (ld_blt I hg2 hm2 boot_range (PyProof.Rows.callWith_type1 (thn (ha pos2 pins s σ H _ I h) fun us s1 ⟨vs, H1, I1, r1, q1⟩ => ?_) hs rfl)))
  obtain ⟨j, e, q1, q2, q⟩ := q1
  subst e
  obtain ⟨u, rfl, t, rfl⟩ := vals1 r1
  refine call_range_1 (Calls.spliced_nil ?_)
  have I2 : Inv X pins σ H1 { s1 with heap := s1.heap.push { cls := .type "range", data := .fields #[.int 0 s1.toks, .int j t, .int 1 (s1.toks + 1)] }, toks := s1.toks + 1 + 1 } := I1.kept fun b o e => Heap.get?_push_of_some _ e
  refine rng_rev (IsRange.new ..) q1 q2 ?_
  have hi : IsRangeIter (((s1.heap.push { cls := .type "range", data := .fields #[.int 0 s1.toks, .int j t, .int 1 (s1.toks + 1)] })).push (revObjR j)) (s1.heap.push { cls := .type "range", data := .fields #[.int 0 s1.toks, .int j t, .int 1 (s1.toks + 1)] }).objs.size ((j.toNat : Int) - 1) (j.toNat : Int) (-1) := Heap.get?_push_size _ rfl
  refine wpAny_pyIter_rangeiter hi ?_
  refine ⟨_, [(s1.heap.push { cls := .type "range", data := .fields #[.int 0 s1.toks, .int j t, .int 1 (s1.toks + 1)] }).objs.size], _, _, H1, rfl, I2.kept (t' := s1.toks + 1 + 1) fun b o e => Heap.get?_push_of_some _ e, turn_down _ ((j.toNat : Int) - 1) j.toNat, ?_, fun b hb => ?_, q⟩
  · show IsRangeIter _ _ (((j.toNat : Int) - 1) + ((0 : Nat) : Int) * (-1)) ((j.toNat : Int) - ((0 : Nat) : Int)) (-1)
    have e1 : ((j.toNat : Int) - 1) + ((0 : Nat) : Int) * (-1) = (j.toNat : Int) - 1 := by simp
    have e2 : (j.toNat : Int) - ((0 : Nat) : Int) = (j.toNat : Int) := by simp
    rw [e1, e2]
    exact hi
  · have e : b = (s1.heap.push { cls := .type "range", data := .fields #[.int 0 s1.toks, .int j t, .int 1 (s1.toks + 1)] }).objs.size := by simpa using hb
    subst e
    exact I2.fpOk (Nat.le_refl _) (I2.hok.fresh (Nat.le_refl _))
/-! ### xs[i] of a list, by values -/
theorem get_list : PGet X (rIxL X.K) := by
  intro pins s σ H o i ov iv Q I ro ri h
  obtain ⟨p, xs, k, z, rfl, rfl, hq, he, q⟩ := h
  cases ro
  obtain ⟨t, rfl⟩ := ri
  obtain ⟨its, r, pl, hz⟩ := I.list hq
  obtain ⟨j, h1, h2, h3, h4, h5⟩ := atI_get he
  obtain ⟨w, ew, rw'⟩ := r.get h2
  have hl := r.length
  have hn := line63
  have fin : EP X pins σ Q w s := ⟨z, H, I, rw', q⟩
  by_cases h0 : 0 ≤ k
  · have hj : k.toNat = j := by
      rw [seqIndex_of h0 h5] at h1
      exact Option.some.inj h1
    exact wpAny_getItem_list pl.isList h0 (by omega) (by rw [hj]; simpa using ew) fin
  · have hj : (k + (its.toArray.size : Int)).toNat = j := by
      rw [seqIndex_neg (by omega) h4] at h1
      rw [List.size_toArray, ← hl]
      exact Option.some.inj h1
    exact wpAny_getItem_list_neg pl.isList (by omega) (by rw [List.size_toArray] <;> omega) (by omega) (by rw [hj]; simpa using ew) fin
end
end L2
namespace HT
open PySem PyProof.Rows
section
variable {prog : Program} {w : World} {A : Around} {E : Value → Shared → Prop} {s : Shared}
/-- t[a:b], the whole: t itself -/
theorem getItem_tuple_whole {t sl : Addr} {items : Array Value} {vl vu : Value} {lo hi : Option Int} {Q : Value → Shared → Prop} (ht : IsTup s.heap t items) (hs : s.heap.IsSliceOf sl vl vu .none) (pl : IsPart vl lo) (pu : IsPart vu hi)
    (hw : sIx items.size 0 lo = 0 ∧ sIx items.size items.size hi = items.size) (h : Q (.ref t) s) : wpAny (model prog w) A (getItem (.ref t) (.ref sl)) Q E s := by
  obtain ⟨os, hos, hcs, hds⟩ := id hs
  have hTs : s.TypeIs (.ref sl) "slice" := ⟨os, hos, hcs⟩
  unfold getItem
  try with_reducible refine wpAny_holding ?_
  first | refine wpAny_bind (wpAny_pure ?_) | skip
  refine wpAny_bind (wpAny_sequenceKey ht.typeIs (by decide) ?_)
  refine wpAny_bind (wpAny_callSpecial?_slot (name := Str.ofString "__getitem__") ht.typeIs PyProof.Rows.slot_tuple_getitem (wpAny_call_entry PyProof.Rows.slot_tuple_getitem ht.typeIs entry_tuple_getitem ?_ (args_tuple_getitem _ _)))
  show wpAny _ _ (Builtin.Tuple.tupleItemsOf (.ref t) >>= _) _ _ s
  refine wpAny_bind (tupleItemsOf_ ht ?_)
  refine wpAny_bind (wpAny_typeOf hTs ?_)
  rw [if_pos (by decide)]
  refine wpAny_bind (sliceApplied_gen hs pl pu ?_)
  have hyes : (((sIx items.size 0 lo : Nat) : Int) == 0 && (1 : Int) == 1 && (sIx items.size items.size hi - sIx items.size 0 lo) == items.size) = true := by
    rw [hw.1, hw.2]; simp
  show wpAny _ _ (if (((sIx items.size 0 lo : Nat) : Int) == 0 && (1 : Int) == 1 && (sIx items.size items.size hi - sIx items.size 0 lo) == items.size) = true then _ else _) _ _ s
  rw [if_pos hyes]
  show wpAny _ _ (Builtin.Tuple.tupleIsExact (.ref t) >>= _) _ _ s
  unfold Builtin.Tuple.tupleIsExact
  refine wpAny_bind (wpAny_bind (wpAny_typeOf ht.typeIs (wpAny_pure ?_)))
  show wpAny _ _ (if (Value.type "tuple" == Value.type "tuple") = true then _ else _) _ _ s
  rw [if_pos (by decide)]
  refine wpAny_bind (wpAny_rule ?_)
  first
    | exact wpAny_pure ⟨_, rfl, wpAny_pure h⟩
    | exact wpAny_bind (wpAny_pure (wpAny_pure ⟨_, rfl, wpAny_pure h⟩))
    | exact wpAny_bind (wpAny_pure ⟨_, rfl, wpAny_pure h⟩)
end
end HT
namespace L2
open PySem PySem.Spec PyProof.Rows
section
variable {X : Cx}
def rSlW (K : PySem.W.Frag) : V → Option Int → Option Int → Hp → VK → Prop := fun x lo hi H Q => ∃ a xs, x = .ref a ∧ SqT K H a xs ∧ (HT.sIx xs.length 0 lo = 0 ∧ HT.sIx xs.length xs.length hi = xs.length) ∧ Q (.ref a) H
theorem sl_whole : SlR X (rSlW X.K) := by
  intro pins s σ H x v vl vu lo hi sl Q I rx hs pl pu h
  obtain ⟨a, xs, rfl, hx, hw, q⟩ := h
  cases rx
  obtain ⟨its, r, ht, hz⟩ := I.tuple hx
  have hlen : its.toArray.size = xs.length := by rw [List.size_toArray]; exact r.length.symm
  exact ⟨"tuple", _, PyProof.Rows.slot_tuple_getitem.lookup, ht.typeIs, HT.getItem_tuple_whole ht hs pl pu (by rw [hlen]; exact hw) ⟨.ref a, H, I, rfl, q⟩⟩
end
end L2
namespace M
open PySem PySem.Spec PyProof.Rows L2
section
variable {X : Cx} {K : PySem.W.Frag} {A : AS} {H : Hp} {e a b : Expr} {te ti : UE} {pos p2 : Pos} {C : C0} {ρ ρ' : Ev} {σ : L2.St}
/-! ### slices of tuples, the whole too -/
def gSlT (d : D) (lo hi : Option Int) (Q : B → Prop) : Prop := match d with
  | .tup l => Q (.pu (.tup (cutD l lo hi)))
  | .lst l => Q (.ow (cutD l lo hi))
  | .rol l => Q (.ow (cutD l lo hi))
  | _ => False
def uSlT (t : UE) (tl th : UO) : UE := fun ρ Q => t ρ fun b0 ρ1 => tl ρ1 fun lo ρ2 => th ρ2 fun hi ρ3 => gSlT b0.d lo hi fun b => Q b ρ3
theorem cut_whole (l : List D) (lo hi : Option Int) (h : HT.sIx l.length 0 lo = 0 ∧ HT.sIx l.length l.length hi = l.length) : cutD l lo hi = l := by
  unfold cutD
  rw [h.1, h.2]
  simp
theorem pu_sliceT {tl th : UO} {lo hi : Option Expr} (he : PU X e te) (hl : PUO X lo tl) (hu : PUO X hi th) : PU X (.Subscript e (.Slice lo hi none p2) pos) (uSlT te tl th) :=
  PEimp (pe_slice ((sl_list.or sl_tup).or sl_whole) he hl hu) fun σ H Q ⟨C, ρ, Q0, I, h, k⟩ => ⟨C, ρ, _, I, h, fun b0 ρ1 v H1 q f s r => by
    have I1 := (I.frz f).same s
    have rr := r.rep fun a z => I.avF f z
    refine ⟨C, ρ1, _, I1, q, fun l2 ρ2 H2 q2 f2 s2 => ?_⟩
    have I2 := (I1.frz f2).same s2
    refine ⟨C, ρ2, _, I2, q2, fun h3 ρ3 H3 q3 f3 s3 => ?_⟩
    have I3 := (I2.frz f3).same s3
    have s13 := s2.trans s3
    have sAll := s.trans s13
    have fAll := f.trans (f2.trans f3)
    have r' : Rep X.K (Av C ρ3 σ) H3 b0.d v := rr.mono (.sub s13 fun a z => f2.av (f3.av z))
    generalize b0.d = d at r' q3
    cases d with
    | tup l =>
      have r2 := r'
      simp only [Rep] at r'
      obtain ⟨a, vs, rfl, c, rs⟩ := r'
      have hlen := rs.length
      by_cases hw : HT.sIx l.length 0 l2 = 0 ∧ HT.sIx l.length l.length h3 = l.length
      · refine .inr ⟨a, vs, rfl, c.imp And.right id, by rw [← hlen]; exact hw, k _ ρ3 _ _ q3 fAll sAll ?_⟩
        show Rep _ _ _ (.tup (cutD l l2 h3)) _
        rw [cut_whole l l2 h3 hw]
        exact r2
      · exact .inl (.inr ⟨a, vs, rfl, c.imp And.right id, by rw [← hlen]; exact hw, fun p n => k _ ρ3 _ _ q3 fAll (sAll.trans (same_new n _)) (rep_new_tup (fun a z => I3.avSome z) n (rs.cut l2 h3))⟩)
    | lst l =>
      simp only [Rep] at r'
      obtain ⟨a, vs, rfl, n0, c, rs⟩ := r'
      exact .inl (.inl ⟨a, vs, rfl, SqL.of c, fun p n => k _ ρ3 _ _ q3 fAll (sAll.trans (same_new n _)) (rep_new_lst sAll n (rs.cut l2 h3))⟩)
    | rol l =>
      simp only [Rep] at r'
      obtain ⟨a, vs, rfl, c, rs⟩ := r'
      exact .inl (.inl ⟨a, vs, rfl, c.imp And.right id, fun p n => k _ ρ3 _ _ q3 fAll (sAll.trans (same_new n _)) (rep_new_lst sAll n (rs.cut l2 h3))⟩)
    | _ => exact (show False from q3).elim⟩
/-! ### xs[k] op= e, ints -/
def uAugI (i : Nat) (f : Int → Int → Int) (ti te : UE) : US := fun D ρ => ownAt ρ i fun _ => ti ρ fun j ρ1 => ownAt ρ1 i fun l1 => ∃ k n x, j.d = .int k ∧ ixN l1.length k = some n ∧ l1[n]? = some (.int x) ∧
  te ρ1 fun b ρ2 => ownAt ρ2 i fun l => ∃ y, b.d = .int y ∧ D.nx (ρ2.set i (some (.ow (l.set n (.int (f x y))))))
theorem us_augI {x : Str} {p tpos : Pos} {ix : Expr} {op : Operator} {f : Int → Int → Int} (i : Nat) (hx : PE X (.Name x p) (tVar i)) (hi : PU X ix ti) (he : PU X e te) (hp : PIp X op (ipI f))
    (ha : ∀ ov iv new, augStore ix ov iv new = (do holding [new, ov, iv] (setItem ov iv new); release [new, ov, iv] []; pure .next) := by intros; rfl) : PUS X (.AugAssign (.Subscript (.Name x p) ix tpos) op e pos) (uAugI i f ti te) :=
  PSimp (ps_augS hx hi get_list he hp set_list ha) fun D σ H ⟨C, ρ, D0, I, h, k⟩ => by
    obtain ⟨l, hl, h⟩ := ownAt_inv h
    obtain ⟨a, vs, h1, h2, h3, h4⟩ := I.ow i l hl
    refine ⟨.ref a, h1, C, ρ, _, I, h, fun j ρ1 w H1 q f1 s1 r1 => ?_⟩
    obtain ⟨l1, hl1, kk, n, x0, ej, en, ex, q⟩ := ownAt_inv q
    have e1 := f1.ow hl1
    rw [hl] at e1; cases e1
    have I1 := (I.frz f1).same s1
    obtain ⟨a1, vs1, g1, g2, g3, g4⟩ := I1.ow i l hl1
    rw [h1] at g1; cases g1
    have rj := r1.rep fun a z => I.avF f1 z
    rw [ej] at rj
    have := rep_int rj
    subst this
    obtain ⟨v0, ev0, rv0⟩ := g4.get ex
    have := rep_int rv0
    subst this
    have hat : L2.atI vs1 kk = some (.int x0) := by unfold L2.atI; rw [← g4.length, en]; exact ev0
    refine ⟨a, vs1, kk, _, rfl, rfl, SqL.of g2, hat, C, ρ1, _, I1, q, fun b ρ2 w2 H2 q2 f2 s2 r2 => ?_⟩
    obtain ⟨l2, hl2, y, eb, q2⟩ := ownAt_inv q2
    have e2 := f2.ow hl2
    rw [hl1] at e2; cases e2
    have I2 := (I1.frz f2).same s2
    obtain ⟨a2, vs2, k1, k2, k3, k4⟩ := I2.ow i l hl2
    rw [h1] at k1; cases k1
    have rb := r2.rep fun a z => I1.avF f2 z
    rw [eb] at rb
    have := rep_int rb
    subst this
    exact ⟨x0, y, rfl, rfl, a, vs2, kk, n, rfl, rfl, k2, by rw [← k4.length]; exact en, k.nx _ _ _ q2 (I2.write hl2 h1 (k4.set n (show Rep _ _ _ _ _ by simp only [Rep])))⟩
/-! ### == and != of data -/
mutual
def pd : D → Option PyData
  | .non => some .none
  | .bl b => some (.bool b)
  | .int i => some (.int i)
  | .tup l => (pdL l).map .tuple
  | .lst l => (pdL l).map .list
  | .rol l => (pdL l).map .list
  | .str _ => none
  | .ty _ => none
  | .obj _ _ _ => none
def pdL : List D → Option (List PyData)
  | [] => some []
  | d :: r => (pd d).bind fun x => (pdL r).map (x :: ·)
end
theorem pdL_cons {d : D} {r : List D} {xs : List PyData} (h : pdL (d :: r) = some xs) : ∃ x ys, xs = x :: ys ∧ pd d = some x ∧ pdL r = some ys := by
  simp only [pdL] at h
  cases e : pd d with
  | none => rw [e] at h; cases h
  | some x =>
    rw [e] at h
    cases e2 : pdL r with
    | none => rw [e2] at h; cases h
    | some ys => rw [e2] at h; cases h; exact ⟨x, ys, rfl, rfl, rfl⟩
theorem map_some' {α β : Type} {o : Option α} {f : α → β} {y : β} (h : o.map f = some y) : ∃ x, o = some x ∧ y = f x := by
  cases o with
  | none => cases h
  | some x => cases h; exact ⟨x, rfl, rfl⟩
mutual
theorem pd_can : ∀ (d : D) {x : PyData}, pd d = some x → x.canLay0 = true
  | .non, x, h => by simp only [pd] at h; cases h; rfl
  | .bl b, x, h => by simp only [pd] at h; cases h; rfl
  | .int i, x, h => by simp only [pd] at h; cases h; rfl
  | .tup l, x, h => by simp only [pd] at h; obtain ⟨xs, e, rfl⟩ := map_some' h; simp only [PyData.canLay0]; exact pdL_can l e
  | .lst l, x, h => by simp only [pd] at h; obtain ⟨xs, e, rfl⟩ := map_some' h; simp only [PyData.canLay0]; exact pdL_can l e
  | .rol l, x, h => by simp only [pd] at h; obtain ⟨xs, e, rfl⟩ := map_some' h; simp only [PyData.canLay0]; exact pdL_can l e
  | .str _, x, h => by simp only [pd] at h; cases h
  | .ty _, x, h => by simp only [pd] at h; cases h
  | .obj _ _ _, x, h => by simp only [pd] at h; cases h
theorem pdL_can : ∀ (l : List D) {xs : List PyData}, pdL l = some xs → PyData.canLayAll0 xs = true
  | [], xs, h => by simp only [pdL] at h; cases h; rfl
  | d :: r, xs, h => by
    obtain ⟨x, ys, rfl, e1, e2⟩ := pdL_cons h
    simp only [PyData.canLayAll0, Bool.and_eq_true]
    exact ⟨pd_can d e1, pdL_can r e2⟩
end
section
variable {pins : List (Addr × Obj)} {s : Shared}
mutual
theorem rep_reads (I : Inv X pins σ H s) : ∀ (d : D) {x : PyData} {v : V} {u : Value}, pd d = some x → Rep X.K A H d v → RelV v u → ∃ as, Reads s.heap u x as
  | .non, x, v, u, h, r, q => by simp only [pd] at h; cases h; simp only [Rep] at r; subst r; cases q; exact ⟨_, .none⟩
  | .bl b, x, v, u, h, r, q => by simp only [pd] at h; cases h; simp only [Rep] at r; subst r; cases q; exact ⟨_, .bool b⟩
  | .int i, x, v, u, h, r, q => by simp only [pd] at h; cases h; simp only [Rep] at r; subst r; obtain ⟨t, rfl⟩ := q; exact ⟨_, .int i t⟩
  | .tup l, x, v, u, h, r, q => by
    simp only [pd] at h
    obtain ⟨xs, e, rfl⟩ := map_some' h
    simp only [Rep] at r
    obtain ⟨a, vs, rfl, c, rs⟩ := r
    cases q
    obtain ⟨its, rv, ⟨o, ho, hc, n, hd⟩, hz⟩ := I.tuple (c.imp And.right id)
    obtain ⟨as, ra⟩ := repL_reads I l e rs rv
    exact ⟨_, .tuple ho hc hd (by simpa using ra)⟩
  | .lst l, x, v, u, h, r, q => by
    simp only [pd] at h
    obtain ⟨xs, e, rfl⟩ := map_some' h
    simp only [Rep] at r
    obtain ⟨a, vs, rfl, n0, c, rs⟩ := r
    cases q
    obtain ⟨its, rv, p, hz⟩ := I.list (SqL.of c)
    obtain ⟨o, ho, hc, n, hd⟩ := p.isList
    obtain ⟨as, ra⟩ := repL_reads I l e rs rv
    exact ⟨_, .list ho hc hd (by simpa using ra)⟩
  | .rol l, x, v, u, h, r, q => by
    simp only [pd] at h
    obtain ⟨xs, e, rfl⟩ := map_some' h
    simp only [Rep] at r
    obtain ⟨a, vs, rfl, c, rs⟩ := r
    cases q
    obtain ⟨its, rv, p, hz⟩ := I.list (c.imp And.right id)
    obtain ⟨o, ho, hc, n, hd⟩ := p.isList
    obtain ⟨as, ra⟩ := repL_reads I l e rs rv
    exact ⟨_, .list ho hc hd (by simpa using ra)⟩
  | .str _, x, v, u, h, r, q => by simp only [pd] at h; cases h
  | .ty _, x, v, u, h, r, q => by simp only [pd] at h; cases h
  | .obj _ _ _, x, v, u, h, r, q => by simp only [pd] at h; cases h
theorem repL_reads (I : Inv X pins σ H s) : ∀ (l : List D) {xs : List PyData} {vs : List V} {us : List Value}, pdL l = some xs → RepL X.K A H l vs → Vals vs us → ∃ as, ReadsAll s.heap us xs as
  | [], xs, vs, us, h, r, q => by simp only [pdL] at h; cases h; have := r.unnil; subst this; cases q; exact ⟨_, .nil⟩
  | d :: l, xs, vs, us, h, r, q => by
    obtain ⟨x, ys, rfl, e1, e2⟩ := pdL_cons h
    obtain ⟨v, vr, rfl, r1, rs⟩ := r.uncons
    cases q with
    | cons q1 q2 =>
      obtain ⟨as, h1⟩ := rep_reads I d e1 r1 q1
      obtain ⟨bs, h2⟩ := repL_reads I l e2 rs q2
      exact ⟨_, .cons h1 h2⟩
end
end
def gEqD (neg : Bool) (d e : D) (Q : B → Prop) : Prop := ∃ p q, pd d = some p ∧ pd e = some q ∧ p.depth ≤ 60 ∧ Q (.pu (.bl (neg ^^ p.eqv q)))
theorem ou_eqD (hu : X.A.units + 64 < cLine) : OpU X (compareOp .Eq) (gEqD false) := by
  intro A H d e v w Q0 Q hA r1 r2 g k
  obtain ⟨p, q, e1, e2, hd, g⟩ := g
  refine ⟨fun x y H Q => ∃ (A : AS) (d e : D) (p q : PyData), Rep X.K A H d x ∧ Rep X.K A H e y ∧ pd d = some p ∧ pd e = some q ∧ p.depth ≤ 60 ∧ Q (.bl (p.eqv q)) H, ?_, A, d, e, p, q, r1, r2, e1, e2, hd, k _ _ H g (.refl _) (by rw [Bool.false_xor]; exact rep_bl)⟩
  rintro pins s σ H x y v u Q I rx ry ⟨A, d, e, p, q, r1, r2, e1, e2, hd, h⟩
  obtain ⟨as, ra⟩ := rep_reads I d e1 r1 rx
  obtain ⟨bs, rb⟩ := rep_reads I e e2 r2 ry
  exact SeqAt.compareEq_reads ra rb (pd_can d e1) (pd_can e e2) (by omega) ⟨.bl _, H, I, rfl, h⟩
theorem ou_neD (hu : X.A.units + 64 < cLine) : OpU X (compareOp .NotEq) (gEqD true) := by
  intro A H d e v w Q0 Q hA r1 r2 g k
  obtain ⟨p, q, e1, e2, hd, g⟩ := g
  refine ⟨fun x y H Q => ∃ (A : AS) (d e : D) (p q : PyData), Rep X.K A H d x ∧ Rep X.K A H e y ∧ pd d = some p ∧ pd e = some q ∧ p.depth ≤ 60 ∧ Q (.bl (!(p.eqv q))) H, ?_, A, d, e, p, q, r1, r2, e1, e2, hd, k _ _ H g (.refl _) (by rw [Bool.true_xor]; exact rep_bl)⟩
  rintro pins s σ H x y v u Q I rx ry ⟨A, d, e, p, q, r1, r2, e1, e2, hd, h⟩
  obtain ⟨as, ra⟩ := rep_reads I d e1 r1 rx
  obtain ⟨bs, rb⟩ := rep_reads I e e2 r2 ry
  exact SeqAt.compareNe_reads ra rb (pd_can d e1) (pd_can e e2) (by omega) ⟨.bl _, H, I, rfl, h⟩
/-! ### walks over zip, enumerate, reversed(range(n)) -/
def SqA (K : PySem.W.Frag) (A : AS) (H : Hp) (T : Bool) (a : Addr) (vs : List V) : Prop := match T with
  | false => (¬ A a ∧ Rd H a (.lst vs)) ∨ KL K a vs
  | true => (¬ A a ∧ Rd H a (.tup vs)) ∨ KT K a vs
theorem SqA.sqv {T : Bool} {a' : Addr} {vs : List V} {A' : AS} {H' : Hp} (c : SqA K A H T a' vs) (P : Pres A H A' H') : SqV K T H' a' vs := by
  cases T <;> (rcases c with ⟨n, c⟩ | c; exact .inl (Rd.pres P n c).2; exact .inr c)
theorem Pres.self : Pres A H A H := fun _ _ n e => ⟨n, e⟩
theorem Rep.sq {d : D} {v : V} {l : List D} (r : Rep K A H d v) (h : seqOf d = some l) : ∃ T a vs, v = .ref a ∧ SqA K A H T a vs ∧ RepL K A H l vs := by
  cases d with
  | tup l' => cases h; simp only [Rep] at r; obtain ⟨a, vs, e, c, r⟩ := r; exact ⟨true, a, vs, e, c, r⟩
  | lst l' => cases h; simp only [Rep] at r; obtain ⟨a, vs, e, n, c, r⟩ := r; exact ⟨false, a, vs, e, .inl ⟨n, .inl c⟩, r⟩
  | rol l' => cases h; simp only [Rep] at r; obtain ⟨a, vs, e, c, r⟩ := r; exact ⟨false, a, vs, e, c, r⟩
  | _ => cases h
theorem RepL.at {l : List D} {vs : List V} {i : Nat} (r : RepL K A H l vs) (hi : i < l.length) : ∃ x, vs[i]? = some x ∧ Rep K A H (l.getD i .non) x := r.get (by rw [List.getD_eq_getElem?_getD, List.getElem?_eq_getElem hi]; rfl)
theorem itok_zip {T1 T2 : Bool} {l1 l2 : Addr} {vs ws : List V} {l m : List D} (c1 : SqA K A H T1 l1 vs) (c2 : SqA K A H T2 l2 ws) (r1 : RepL K A H l vs) (r2 : RepL K A H m ws) :
    ItOk K A H (Itz K T1 T2 l1 l2) (min l.length m.length) (fun i => .tup [l.getD i .non, m.getD i .non]) := by
  have k1 := r1.length
  have k2 := r2.length
  refine ⟨fun A' H' i P hi => ?_, fun A' H' i x H'' P hA hi y => ?_, fun A' H' P => ⟨vs, ws, c1.sqv P, c2.sqv P, by omega⟩⟩
  · obtain ⟨x, e1, _⟩ := r1.at (i := i) (by omega)
    obtain ⟨y, e2, _⟩ := r2.at (i := i) (by omega)
    exact ⟨vs, ws, x, y, c1.sqv P, c2.sqv P, e1, e2⟩
  · obtain ⟨x1, e1, q1⟩ := r1.at (i := i) (by omega)
    obtain ⟨y1, e2, q2⟩ := r2.at (i := i) (by omega)
    obtain ⟨T, a, b, rfl, hT, rfl, ha, hb⟩ := y
    have ea := ha vs (c1.sqv P)
    have eb := hb ws (c2.sqv P)
    rw [e1] at ea; cases ea
    rw [e2] at eb; cases eb
    exact ⟨same_new hT _, rep_new_tup hA hT (.cons (q1.mono P) (.cons (q2.mono P) .nil))⟩
theorem itok_enum {T : Bool} {l1 : Addr} {vs : List V} {l : List D} (c1 : SqA K A H T l1 vs) (r1 : RepL K A H l vs) : ItOk K A H (Ite K T l1) l.length (fun i => .tup [.int (i : Int), l.getD i .non]) := by
  have k1 := r1.length
  refine ⟨fun A' H' i P hi => ?_, fun A' H' i x H'' P hA hi y => ?_, fun A' H' P => ⟨vs, c1.sqv P, k1.symm⟩⟩
  · obtain ⟨x, e1, _⟩ := r1.at hi
    exact ⟨vs, x, c1.sqv P, e1⟩
  · obtain ⟨x1, e1, q1⟩ := r1.at hi
    obtain ⟨T, a, rfl, hT, rfl, ha⟩ := y
    have ea := ha vs (c1.sqv P)
    rw [e1] at ea; cases ea
    exact ⟨same_new hT _, rep_new_tup hA hT (.cons (show Rep _ _ _ _ _ by simp only [Rep]) (.cons (q1.mono P) .nil))⟩
def uZip (ta : UA) : UI := fun ρ Q => ta ρ fun ds ρ1 => match ds with
  | [d, e] => (match seqOf d, seqOf e with
    | some l, some m => Q (min l.length m.length) (fun i => .tup [l.getD i .non, m.getD i .non]) ρ1
    | _, _ => False)
  | _ => False
theorem ui_zip {elts : List Expr} {kt : Nat} {tp p : Pos} {ta : UA} (hg : Gl X "zip") (hm : X.mg "zip" = none) (ha : PUA X [a, b] ta) (hs : starEach [a, b] X.env = [(false, eval a X.env), (false, eval b X.env)] := by rfl) (hs2 : starEach [b] X.env = [(false, eval b X.env)] := by rfl) :
    PUI X (.Tuple elts kt tp) (.Call (.Name "zip" p) [a, b] [] pos) (uZip ta) :=
  PIimp (pi_zip hg hm ha hs hs2) fun σ H R ⟨C, ρ, Q0, I, h, k⟩ => ⟨C, ρ, _, I, h, fun ds ρ1 vs H1 q f s r => by
    split at q
    · rename_i d e
      obtain ⟨v, vr, rfl, rv, rr⟩ := r.uncons
      obtain ⟨w, wr, rfl, rw', rr'⟩ := rr.uncons
      have := rr'.unnil
      subst this
      split at q
      · rename_i l m e1 e2
        obtain ⟨T1, a1, us, rfl, c1, s1⟩ := rv.sq e1
        obtain ⟨T2, a2, ws, rfl, c2, s2⟩ := rw'.sq e2
        exact ⟨a1, a2, T1, T2, us, ws, rfl, c1.sqv .self, c2.sqv .self, k _ _ ρ1 _ H1 q f s (itok_zip c1 c2 s1 s2)⟩
      · exact q.elim
    · exact q.elim⟩
def uEnum (ta : UA) : UI := fun ρ Q => ta ρ fun ds ρ1 => match ds with
  | [d] => (match seqOf d with
    | some l => Q l.length (fun i => .tup [.int (i : Int), l.getD i .non]) ρ1
    | none => False)
  | _ => False
theorem ui_enum {elts : List Expr} {kt : Nat} {tp p : Pos} {ta : UA} (hg : Gl X "enumerate") (hm : X.mg "enumerate" = none) (ha : PUA X [a] ta) (hs : starEach [a] X.env = [(false, eval a X.env)] := by rfl) :
    PUI X (.Tuple elts kt tp) (.Call (.Name "enumerate" p) [a] [] pos) (uEnum ta) :=
  PIimp (pi_enum hg hm ha hs) fun σ H R ⟨C, ρ, Q0, I, h, k⟩ => ⟨C, ρ, _, I, h, fun ds ρ1 vs H1 q f s r => by
    split at q
    · rename_i d
      obtain ⟨v, vr, rfl, rv, rr⟩ := r.uncons
      have := rr.unnil
      subst this
      split at q
      · rename_i l e1
        obtain ⟨T1, a1, us, rfl, c1, s1⟩ := rv.sq e1
        exact ⟨a1, T1, us, rfl, c1.sqv .self, k _ _ ρ1 _ H1 q f s (itok_enum c1 s1)⟩
      · exact q.elim
    · exact q.elim⟩
def uRevR (ta : UA) : UI := fun ρ Q => ta ρ fun ds ρ1 => match ds with
  | [.int j] => (-(2 ^ 31) ≤ j ∧ j < 2 ^ 31) ∧ Q j.toNat (fun k => .int ((j.toNat : Int) - 1 - k)) ρ1
  | _ => False
theorem ui_revR {tg : Expr} {ta : UA} {p q2 pos2 : Pos} (hg : Gl X "reversed") (hm : X.mg "reversed" = none) (hg2 : Gl X "range") (hm2 : X.mg "range" = none) (ha : PUA X [a] ta) (hs : starEach [a] X.env = [(false, eval a X.env)] := by rfl)
    (hs2 : starEach [.Call (.Name "range" q2) [a] [] pos2] X.env = [(false, eval (.Call (.Name "range" q2) [a] [] pos2) X.env)] := by rfl) :
    PUI X tg (.Call (.Name "reversed" p) [.Call (.Name "range" q2) [a] [] pos2] [] pos) (uRevR ta) :=
  PIimp (pi_revRange hg hm hg2 hm2 ha hs hs2) fun σ H R ⟨C, ρ, Q0, I, h, k⟩ => ⟨C, ρ, _, I, h, fun ds ρ1 vs H1 q f s r => by
    split at q
    · rename_i j
      obtain ⟨v, vr, rfl, rv, rr⟩ := r.uncons
      have := rr.unnil
      subst this
      have := rep_int rv
      subst this
      obtain ⟨⟨h1, h2⟩, q⟩ := q
      exact ⟨j, rfl, h1, h2, k _ _ ρ1 _ H1 q f s itok_down⟩
    · exact q.elim⟩
end
theorem bt_zip : bootBuiltins "zip" = some (.type "zip") := by decide +kernel
theorem bt_enumerate : bootBuiltins "enumerate" = some (.type "enumerate") := by decide +kernel
theorem bt_reversed : bootBuiltins "reversed" = some (.type "reversed") := by decide +kernel
end M

end
section
set_option Elab.async false
set_option linter.all false
set_option maxRecDepth 100000
namespace M
open PySem PySem.Spec PyProof.Rows L2
section
variable {X : Cx} {a b c e : Expr} {ta tb tc te : UE} {pos : Pos}
/-! ### a op b op' c -/
def uChain (g g' : D → D → (B → Prop) → Prop) (ta tb tc : UE) : UE := fun ρ Q => ta ρ fun x ρ1 => tb ρ1 fun y ρ2 => g x.d y.d fun b => isB (fun k ρ3 => if k = true then tc ρ3 fun z ρ4 => g' y.d z.d fun b' => Q b' ρ4 else Q (.pu (.bl false)) ρ3) b ρ2
theorem pu_chain {op op' : CmpOp} {g g' : D → D → (B → Prop) → Prop} (ho : OpU X (compareOp op) g) (ho' : OpU X (compareOp op') g') (ha : PU X a ta) (hb : PU X b tb) (hc : PU X c tc)
    (hm : lastMarks [op, op'] [b, c] = false := by with_unfolding_all rfl) : PU X (.Compare a [op, op'] [b, c] pos) (uChain g g' ta tb tc) :=
  PEimp (pe_chain opAny opAny ha hb hc hm) fun σ H Q ⟨C, ρ, Q0, I, h, k⟩ => ⟨C, ρ, _, I, h, fun x ρ1 v H1 q1 f1 s1 r1 => by
    have I1 := (I.frz f1).same s1
    refine ⟨C, ρ1, _, I1, q1, fun y ρ2 w H2 q2 f2 s2 r2 => ?_⟩
    have I2 := (I1.frz f2).same s2
    have rx : Rep X.K (Av C ρ2 σ) H2 x.d v := (r1.rep fun a z => I.avF f1 z).mono (.sub s2 fun a => f2.av)
    have ry : Rep X.K (Av C ρ2 σ) H2 y.d w := r2.rep fun a z => I1.avF f2 z
    refine ho (Av C ρ2 σ) H2 x.d y.d v w _ _ (fun a z => I2.avSome z) rx ry q2 fun b v' H3 q3 s3 r3 => ?_
    obtain ⟨kk, rfl, q3⟩ := isB_inv q3 r3
    refine ⟨kk, rfl, ?_⟩
    have I3 := I2.same s3
    cases kk with
    | false =>
      rw [if_neg Bool.false_ne_true] at q3 ⊢
      exact k _ _ _ _ q3 (f1.trans f2) (s1.trans (s2.trans s3)) rep_bl
    | true =>
      rw [if_pos rfl] at q3 ⊢
      refine ⟨C, ρ2, _, I3, q3, fun z ρ4 w' H4 q4 f4 s4 r4 => ?_⟩
      have I4 := (I3.frz f4).same s4
      have ry4 : Rep X.K (Av C ρ4 σ) H4 y.d w := ry.mono (.sub (s3.trans s4) fun a => f4.av)
      exact ho' (Av C ρ4 σ) H4 y.d z.d w w' _ Q (fun a z => I4.avSome z) ry4 (r4.rep fun a z => I3.avF f4 z) q4 fun b' v'' H5 q5 s5 r5 => k b' ρ4 v'' H5 q5 (f1.trans (f2.trans f4)) (s1.trans (s2.trans (s3.trans (s4.trans s5)))) (r5.from (s1.trans (s2.trans (s3.trans s4))))⟩
/-! ### xs.pop() as a row -/
theorem RepL.dropLast {K : PySem.W.Frag} {A : AS} {H : Hp} {l : List D} {vs : List V} (h : RepL K A H l vs) : RepL K A H l.dropLast vs.dropLast := by
  rw [List.dropLast_eq_take, List.dropLast_eq_take, h.length]
  exact h.take _
def uPop (i : Nat) : US := fun D ρ => ownAt ρ i fun l => l ≠ [] ∧ D.nx (ρ.set i (some (.ow l.dropLast)))
theorem us_pop {x : Str} {p apos cpos : Pos} (i : Nat) (hx : PE X (.Name x p) (tVar i)) (hbase : attributeBase (.Name x p) "pop" X.env (eval (.Name x p) X.env) = eval (.Name x p) X.env := by rfl) (hline : (apos.endLine == cpos.line) = true := by rfl)
    (hw : swapsWith (.Call (.Attribute (.Name x p) "pop" apos) [] [] cpos) none pos.line X.env = pure false := by rfl) : PUS X (.Expr (.Call (.Attribute (.Name x p) "pop" apos) [] [] cpos) pos) (uPop i) :=
  PSimp (ps_expr (pe_bm0 PySem.F.plainAttrs_list PySem.F.slot_list_pop PySem.F.type_list_pop mt_pop hx hbase hline) hw) fun D σ H ⟨C, ρ, D0, I, h, k⟩ => by
    obtain ⟨l, hl, hne, q⟩ := ownAt_inv h
    obtain ⟨a, vs, h1, h2, h3, h4⟩ := I.ow i l hl
    have hlen := h4.length
    have pos : 0 < vs.length := by rw [← hlen]; exact List.length_pos_iff.mpr hne
    exact ⟨.ref a, h1, .inl ⟨rfl, vs, SqL.of h2⟩, a, vs, vs[vs.length - 1], rfl, rfl, h2, List.getElem?_eq_getElem (by omega), k.nx _ _ _ q (I.write hl h1 h4.dropLast)⟩
end
end M

end
section
set_option Elab.async false
set_option linter.all false
set_option maxRecDepth 100000
namespace L2
open PySem PySem.Spec PyProof.Rows
/-! ### a tuple times an int -/
theorem noFill_tuple_mul : fillsNumberSlot (.type "tuple") "mul" = pure false :=
  PySem.fillsNumberSlot_seq (id := "tuple.__mul__") (r := some (.builtin "tuple.__rmul__")) PySem.F.slot_tuple_mul.lookup (by decide +kernel) PySem.F.slot_tuple_rmul.lookup (by decide +kernel)
theorem repeat_tuple : seqRepeat? (.type "tuple") = pure (some (.builtin "tuple.__mul__")) := by
  unfold seqRepeat?
  rw [PySem.seqSlot_of (T := "tuple") (name := "__mul__") (id := "tuple.__mul__") PySem.F.slot_tuple_mul.lookup (by decide +kernel), PySem.seqSlot_of (T := "tuple") (name := "__rmul__") (id := "tuple.__rmul__") PySem.F.slot_tuple_rmul.lookup (by decide +kernel)]
  rfl
theorem int_rmul_tuple (a : Int) (t : Tok) (l : Addr) (items : Array Value) (n : Nat) (dd : Option Addr) (sl : Array (Option Value)) :
    Meets (Builtin.«int.__rmul__» ⟨[.int a t, .ref l], []⟩) (fun _ R s => s.heap.get? l = some { cls := .type "tuple", dict := dd, data := .seq items n, slots := sl } ∧ R (.ok (.ret Value.notImplemented)) s) :=
  .of_wp fun prog w A R s h => by obtain ⟨hp, g, d, tk, os⟩ := s; obtain ⟨hl, h⟩ := h; wp_walk using wpAny_loadPart' hl; exact ⟨_, rfl, h⟩
theorem tup_mul1 (l : Addr) (items : Array Value) (n : Nat) (dd : Option Addr) (sl : Array (Option Value)) (u : Tok) :
    Meets (Builtin.«tuple.__mul__» ⟨[.ref l, .int 1 u], []⟩) (fun _ R s => s.heap.get? l = some { cls := .type "tuple", dict := dd, data := .seq items n, slots := sl } ∧ R (.ok (.ret (.ref l))) s) :=
  .of_wp fun prog w A R s h => by
    obtain ⟨hp, g, d, tk, os⟩ := s; obtain ⟨hl, h⟩ := h
    have f1 := AutoSeq1.idx_int
    wp_walk using wpAny_loadPart' hl
    exact ⟨_, rfl, h⟩
theorem tup_mul0 (l : Addr) (items : Array Value) (n : Nat) (dd : Option Addr) (sl : Array (Option Value)) (k : Int) (u : Tok) (h1 : ¬ (k < -(2 ^ 63) || k ≥ 2 ^ 63) = true) (hne : ¬ (items.isEmpty || k == 1) = true) (h0 : (k ≤ 0 || items.isEmpty) = true) :
    Meets (Builtin.«tuple.__mul__» ⟨[.ref l, .int k u], []⟩) (fun _ R s => s.heap.get? l = some { cls := .type "tuple", dict := dd, data := .seq items n, slots := sl } ∧ R (.ok (.ret (.ref s.heap.objs.size))) { s with heap := s.heap.push { cls := .type "tuple", data := .seq #[] } }) :=
  .of_wp fun prog w A R s h => by
    obtain ⟨hp, g, d, tk, os⟩ := s; obtain ⟨hl, h⟩ := h
    have f1 := AutoSeq1.idx_int
    wp_walk using wpAny_loadPart' hl
    rw [if_neg h1]
    wp_walk using wpAny_loadPart' hl
    exact ⟨_, rfl, h⟩
theorem tup_mul2 (l : Addr) (items : Array Value) (n : Nat) (dd : Option Addr) (sl : Array (Option Value)) (k : Int) (u : Tok) (h1 : ¬ (k < -(2 ^ 63) || k ≥ 2 ^ 63) = true) (hne : ¬ (items.isEmpty || k == 1) = true) (h0 : ¬ (k ≤ 0 || items.isEmpty) = true)
    (h2 : ¬ items.size * k > (2 ^ 63 - 1) / 8) (h3 : ¬ Builtin.Tuple.tupleTooMany (items.size * k) = true) (hz : (List.foldl (fun x1 x2 => x1 ++ x2) #[] (List.replicate k.toNat items)).size ≤ sizeLine) :
    Meets (Builtin.«tuple.__mul__» ⟨[.ref l, .int k u], []⟩) (fun _ R s => s.heap.get? l = some { cls := .type "tuple", dict := dd, data := .seq items n, slots := sl } ∧ R (.ok (.ret (.ref s.heap.objs.size))) { s with heap := s.heap.push { cls := .type "tuple", data := .seq (List.foldl (fun x1 x2 => x1 ++ x2) #[] (List.replicate k.toNat items)) } }) :=
  .of_wp fun prog w A R s h => by
    obtain ⟨hp, g, d, tk, os⟩ := s; obtain ⟨hl, h⟩ := h
    have f1 := AutoSeq1.idx_int
    wp_walk using wpAny_loadPart' hl
    rw [if_neg h1]
    wp_walk using wpAny_loadPart' hl
    rw [if_neg h2]
    wp_walk using wpAny_loadPart' hl
    all_goals first
      | exact ⟨_, rfl, h⟩
      | (refine wpAny_ite_false (decide_eq_false (Nat.not_lt.mpr hz)) ?_
         wp_walk using wpAny_loadPart' hl
         exact ⟨_, rfl, h⟩)
section
variable {X : Cx}
/-- a tuple that is not empty, times an int -/
theorem op_repT : OpR X (binaryOp .Mult) (fun x y H Q => ∃ a k xs, x = .ref a ∧ y = .int k ∧ SqT X.K H a xs ∧ xs ≠ [] ∧ -(2 ^ 63) ≤ k ∧ k < 2 ^ 63 ∧ xs.length * k.toNat ≤ sizeLine ∧ (k = 1 → Q (.ref a) H) ∧ (k ≠ 1 → ∀ p, H p = none → Q (.ref p) (upd H p (.tup (List.replicate k.toNat xs).flatten)))) := by
  intro pins s σ H x y v u Q I rx ry h
  obtain ⟨a, k, xs, rfl, rfl, ha, hn, h1, h2, hz, q1, q2⟩ := h
  cases rx
  obtain ⟨t, rfl⟩ := ry
  obtain ⟨its, r, p1, _⟩ := I.tuple ha
  have hl := r.length
  obtain ⟨⟨cls, dd, data, sl⟩, ho, hc, n, hd⟩ := id p1
  simp only at hc hd
  subst hc hd
  have ne : its ≠ [] := fun z => hn (List.length_eq_zero_iff.mp (by rw [hl, z]; rfl))
  have ne2 : its.toArray.isEmpty = false := by cases its with
    | nil => exact absurd rfl ne
    | cons b r' => rfl
  have hb : ¬ (decide (k < -(2 ^ 63)) || decide (k ≥ 2 ^ 63)) = true := by simp; omega
  have f0 : ∀ m : Nat, List.foldl (fun x1 x2 => x1 ++ x2) #[] (List.replicate m its.toArray) = (List.replicate m its).flatten.toArray := fun m => by
    have := foldl_rep its m []
    rw [List.nil_append] at this
    exact this
  refine wpAny_binaryOp_repeat_ref (T := "tuple") (U := "int") (by decide) ⟨_, ho, rfl⟩ (fun s' => typeIs_int s' k t) noFill_tuple_mul PySem.F.fills_int_mul PySem.F.slot_int_rmul repeat_tuple PySem.F.slot_int_index.lookup
    (call_meets PySem.F.slot_int_rmul (typeIs_int s k t) PySem.F.entry_int_rmul (PySem.F.args_int_rmul_2 _ _) (int_rmul_tuple k t a its.toArray n dd sl) ⟨ho, rfl, ⟨_, ho, rfl⟩, ?_⟩)
  by_cases k1 : k = 1
  · subst k1
    exact call_meets PySem.F.slot_tuple_mul ⟨_, ho, rfl⟩ PySem.F.entry_tuple_mul (PySem.F.args_tuple_mul_2 _ _) (tup_mul1 a its.toArray n dd sl t) ⟨ho, .ref a, H, I, rfl, q1 rfl⟩
  have hne : ¬ (its.toArray.isEmpty || k == 1) = true := by rw [ne2]; simpa using k1
  by_cases k0 : k ≤ 0
  · have e0 : k.toNat = 0 := by omega
    refine call_meets PySem.F.slot_tuple_mul ⟨_, ho, rfl⟩ PySem.F.entry_tuple_mul (PySem.F.args_tuple_mul_2 _ _) (tup_mul0 a its.toArray n dd sl k t hb hne (by simp [k0])) ⟨ho, ?_⟩
    have q := q2 k1
    rw [e0] at q
    exact ⟨.ref _, _, I.laid (t' := s.toks) (o := .tup []) (fun b ob q => Heap.get?_push_of_some _ q) (Nat.le_refl _) ⟨Nat.zero_le _, _, .nil, IsTup.new _ _⟩, rfl, q _ I.fresh⟩
  · have ek : k = (k.toNat : Int) := by omega
    have em : (its.toArray.size : Int) * k = ((its.toArray.size * k.toNat : Nat) : Int) := by rw [Int.natCast_mul, ← ek]
    have hs : its.toArray.size * k.toNat ≤ sizeLine := by rw [List.size_toArray, ← hl]; exact hz
    have hcap : (sizeLine : Nat) ≤ (2 ^ 63 - 1) / 8 := by decide
    refine call_meets PySem.F.slot_tuple_mul ⟨_, ho, rfl⟩ PySem.F.entry_tuple_mul (PySem.F.args_tuple_mul_2 _ _) (tup_mul2 a its.toArray n dd sl k t hb hne (by rw [ne2]; simp; omega) (by rw [em]; omega) (by rw [em]; unfold Builtin.Tuple.tupleTooMany; rw [decide_eq_true_eq]; omega) (by rw [f0, List.size_toArray, len_rep, Nat.mul_comm]; simpa using hs)) ⟨ho, ?_⟩
    rw [f0]
    exact ⟨.ref _, _, I.laid (t' := s.toks) (o := .tup (List.replicate k.toNat xs).flatten) (fun b ob q => Heap.get?_push_of_some _ q) (Nat.le_refl _) ⟨by rw [len_rep, Nat.mul_comm]; exact hz, _, r.rep k.toNat, IsTup.new _ _⟩, rfl, q2 k1 _ I.fresh⟩
end
end L2

end
section
set_option Elab.async false
set_option linter.all false
set_option maxRecDepth 100000
namespace L2
open PySem PySem.Spec PyProof.Rows
/-! ### reversed of a tuple -/
theorem rev_none : typeLookup (.type "tuple") "__reversed__" = pure none := by rw [typeLookup_type, builtinLookup_eq_fast]; kernel_rfl
theorem sub_tuple_dict : isSubtype (.type "tuple") (.type "dict") = pure false := by rw [isSubtype_type]; kernel_rfl
theorem owner_rev : Manifest.owners.lookup (String.ofList ['d', 'e', 's', 'r', 'e', 'v', 'e', 'r'].reverse) = some Manifest.sig_reversed := by kernel_rfl
theorem slot_rev_next : Slot "reversed" "__next__" "reversed.__next__" :=
  .of (owner := "reversed") (n := "__next__") (by rw [typeLookup_type, builtinLookup_eq_fast]; kernel_rfl) (by decide +kernel) (by decide +kernel) (by decide +kernel)
    (by first | exact .inl (by decide +kernel) | exact .inr (by decide +kernel)) (by rw [isSubtype_type]; kernel_rfl)
theorem entry_rev_next : entryFor table "reversed.__next__" = some Builtin.«reversed.__next__» := entryFor_of_tree (by kernel_rfl)
theorem args_rev_next_1 (a : Value) : argsOk "reversed.__next__" ⟨[a], []⟩ := by
  unfold argsOk; rw [signature?_of (id := "reversed.__next__") (n := ['_', '_', 't', 'x', 'e', 'n', '_', '_']) (o := ['d', 'e', 's', 'r', 'e', 'v', 'e', 'r']) (by kernel_rfl) owner_rev]; kernel_rfl
theorem slot_rev_iter : Slot "reversed" "__iter__" "reversed.__iter__" :=
  .of (owner := "reversed") (n := "__iter__") (by rw [typeLookup_type, builtinLookup_eq_fast]; kernel_rfl) (by decide +kernel) (by decide +kernel) (by decide +kernel)
    (by first | exact .inl (by decide +kernel) | exact .inr (by decide +kernel)) (by rw [isSubtype_type]; kernel_rfl)
theorem args_rev_iter_1 (a : Value) : argsOk "reversed.__iter__" ⟨[a], []⟩ := by
  unfold argsOk; rw [signature?_of (id := "reversed.__iter__") (n := ['_', '_', 'r', 'e', 't', 'i', '_', '_']) (o := ['d', 'e', 's', 'r', 'e', 'v', 'e', 'r']) (by kernel_rfl) owner_rev]; kernel_rfl
theorem entry_rev_iter : entryFor table "reversed.__iter__" = some Builtin.«dict_keyiterator.__iter__» :=
  entryFor_alias (id' := "dict_keyiterator.__iter__") (by kernel_rfl) (by first | rfl | decide +kernel | (unfold String.splitOn; simp +decide [String.splitOnAux])) (by decide +kernel) (by kernel_rfl)
theorem slot_rev_init : Slot "reversed" "__init__" "object.__init__" :=
  .of (owner := "object") (n := "__init__") (by rw [typeLookup_type, builtinLookup_eq_fast]; kernel_rfl) (by decide +kernel) (by decide +kernel) (by decide +kernel)
    (by first | exact .inl (by decide +kernel) | exact .inr (by decide +kernel)) (by rw [isSubtype_type]; kernel_rfl)
theorem called_rev : TypeCalled "reversed" "reversed.__new__" "object.__init__" :=
  ⟨by decide +kernel, by decide +kernel, ⟨_, _, PySem.F.mro_reversed⟩, PySem.F.made_reversed, by decide +kernel, by rw [isSubtype_type]; kernel_rfl, slot_rev_init⟩
theorem rev_new (l : Addr) (items : Array Value) (hfit : (items.size : Int) < 2 ^ 63) :
    Meets (Builtin.«reversed.__new__» ⟨[.type "reversed", .ref l], []⟩) (fun _ R s => s.heap.IsTuple l items ∧ R (.ok (.ret (.ref s.heap.objs.size))) { s with heap := s.heap.push { cls := .type "reversed", data := .fields #[.ref l, rawInt ((items.size : Int) - 1)] }, toks := s.toks + 1 + 1 }) :=
  .of_wp fun prog w A R s h => by
    obtain ⟨hp, g, d, tk, os⟩ := s; obtain ⟨ht, h⟩ := h
    obtain ⟨⟨c, dct, dt, sl⟩, hl, hc, n, hd⟩ := id ht
    replace hc : c = .type "tuple" := hc
    replace hd : dt = .seq items n := hd
    subst hc hd
    have f1 := PySem.F.sub_reversed_self
    have f2 := rev_none
    have f4 := PySem.F.slot_tuple_getitem.lookup
    have f5 := sub_tuple_dict
    have e1 : IsTup (Shared.heap ⟨hp, g, d, tk, os⟩) l items := ht
    wp_walk using wpAny_loadPart' hl, PyProof.Rows.len_tuple e1 hfit
    exact ⟨_, rfl, h⟩
def IsRevT (h : Heap) (a l : Addr) (i : Int) : Prop := ∃ o, h.get? a = some o ∧ o.cls = .type "reversed" ∧ o.data = .fields #[.ref l, rawInt i]
theorem IsRevT.at {h h' : Heap} {a l : Addr} {i : Int} (x : IsRevT h a l i) (e : ∀ o, h.get? a = some o → h'.get? a = some o) : IsRevT h' a l i := let ⟨o, ho, r⟩ := x; ⟨o, e _ ho, r⟩
section
variable {prog : Program} {w : World} {A : Around} {E : Value → Shared → Prop} {s : Shared}
theorem IsRevT.typeIs {a l : Addr} {i : Int} (x : IsRevT s.heap a l i) : s.TypeIs (.ref a) "reversed" := let ⟨o, ho, hc, _⟩ := x; ⟨o, ho, hc⟩
theorem rev_made {l : Addr} {items : Array Value} {Q : Value → Shared → Prop} (hl : s.heap.IsTuple l items) (hfit : (items.size : Int) < 2 ^ 63)
    (h : Q (.ref s.heap.objs.size) { s with heap := s.heap.push { cls := .type "reversed", data := .fields #[.ref l, rawInt ((items.size : Int) - 1)] }, toks := s.toks + 1 + 1 }) :
    wpAny (model prog w) A (call (.type "reversed") [.ref l]) Q E s :=
  callType_new called_rev (by decide) (PySem.F.typeCall_reversed_1 _) (PySem.F.newCall_reversed_1 _) (fun obj => PySem.F.args_object_init_2 obj _) PySem.F.entry_reversed_new (rev_new l items hfit) ⟨hl, ⟨_, Heap.get?_push_size _ rfl, rfl⟩, h⟩
theorem rev_pyIter {it l : Addr} {i : Int} {Q : Value → Shared → Prop} (hit : IsRevT s.heap it l i) (h : Q (.ref it) s) : wpAny (model prog w) A (pyIter (.ref it)) Q E s := by
  refine wpAny_pyIter_slot hit.typeIs slot_rev_iter (wpAny_call_entry slot_rev_iter hit.typeIs entry_rev_iter ?_ (args_rev_iter_1 _))
  show wpAny _ _ (ret (.ref it)) _ _ s
  exact wpAny_pure ⟨_, rfl, "reversed", _, hit.typeIs, slot_rev_next.lookup, h⟩
theorem rev_item {it l : Addr} {i : Nat} {items : Array Value} {x : Value} {Q : Option Value → Shared → Prop} (hit : IsRevT s.heap it l (i : Int)) (hl : s.heap.IsTuple l items) (hx : items[i]? = some x) (hfit : (i : Int) < 2 ^ 63)
    (hQ : ∀ h' tk, IsRevT h' it l ((i : Int) - 1) → Heap.SameBut it s.heap h' → Q (some x) { s with heap := h', toks := tk }) : wpAny (model prog w) A (pyNext (.ref it)) Q E s := by
  obtain ⟨o, ho, hc, hd⟩ := id hit
  have hlt : i < items.size := (Array.getElem?_eq_some_iff.mp hx).1
  have hi : seqIndex? (i : Int) items.size = some i := by
    unfold seqIndex?
    simp
    omega
  have tl : s.TypeIs (.ref l) "tuple" := hl.typeIs
  unfold pyNext
  refine wpAny_bind (wpAny_attempt (wpAny_callSpecial?_slot (name := Str.ofString "__next__") hit.typeIs slot_rev_next
    (wpAny_call_entry slot_rev_next hit.typeIs entry_rev_next ?_ (args_rev_next_1 _))))
  unfold Builtin.«reversed.__next__»
  refine wpAny_bind (wpAny_of_eq (a := (Value.ref it, [])) rfl ?_)
  try dsimp only
  refine wpAny_bind (wpAny_field ho hd (x := .ref l) rfl ?_)
  refine wpAny_bind (wpAny_field ho hd (x := rawInt (i : Int)) rfl ?_)
  show wpAny _ _ (if (i : Int) < 0 then _ else _) _ _ s
  rw [if_neg (by omega)]
  try dsimp only
  refine wpAny_bind (wpAny_specialOf tl PySem.F.slot_tuple_getitem.lookup ?_)
  try dsimp only
  rw [if_neg (by simp)]
  refine wpAny_bind (wpAny_mkInt ?_)
  have ht : IsTup s.heap l items := hl
  refine wpAny_bind (wpAny_attempt (PyProof.Rows.getItem_tuple (s := { s with toks := s.toks + 1 }) ht (by omega) hfit hi hx ?_))
  try dsimp only
  refine wpAny_bind (wpAny_field ho hd (x := rawInt (i : Int)) rfl ?_)
  show wpAny _ _ (setField (.ref it) 1 (rawInt ((i : Int) - 1)) >>= _) _ _ _
  refine wpAny_bind (wpAny_setField ho hd (by simp) ?_)
  refine wpAny_pure ⟨x, rfl, wpAny_pure (hQ _ _ ?_ (Heap.SameBut.update ..))⟩
  exact ⟨_, Heap.get?_update_self _ ho (Obj.isFreed_of_fields (Obj.data_mapFields hd _)), (Obj.cls_mapFields ..).trans hc, by
    rw [Obj.data_mapFields hd]; simp⟩
theorem rev_end {it l : Addr} {Q : Option Value → Shared → Prop} (hh : A.handled = none) (hit : IsRevT s.heap it l (-1))
    (hQ : ∀ h', Heap.ExtBut it s.heap h' → Q none { s with heap := h' }) : wpAny (model prog w) A (pyNext (.ref it)) Q E s := by
  obtain ⟨o, ho, hc, hd⟩ := id hit
  unfold pyNext
  refine wpAny_bind (wpAny_attempt (wpAny_callSpecial?_slot (name := Str.ofString "__next__") hit.typeIs slot_rev_next
    (wpAny_call_entry slot_rev_next hit.typeIs entry_rev_next ?_ (args_rev_next_1 _))))
  unfold Builtin.«reversed.__next__»
  refine wpAny_bind (wpAny_of_eq (a := (Value.ref it, [])) rfl ?_)
  try dsimp only
  refine wpAny_bind (wpAny_field ho hd (x := .ref l) rfl ?_)
  refine wpAny_bind (wpAny_field ho hd (x := rawInt (-1)) rfl ?_)
  show wpAny _ _ (if (-1 : Int) < 0 then _ else _) _ _ s
  rw [if_pos (by decide)]
  refine wpAny_bind (wpAny_rule ?_)
  refine wpAny_bind ?_
  show wpAny _ _ (setField (.ref it) 1 (rawInt (-1)) >>= fun _ => setField (.ref it) 0 .none) _ _ s
  refine wpAny_bind (wpAny_setField ho hd (by simp) ?_)
  refine wpAny_setField (Heap.get?_update_self _ ho (Obj.isFreed_of_fields (Obj.data_mapFields hd _))) (Obj.data_mapFields hd _) (by simp) ?_
  first
  | show wpAny _ _ (newExc (.type "StopIteration") [] >>= _) _ _ _
  | (refine wpAny_bind ?_; show wpAny _ _ (newExc (.type "StopIteration") [] >>= _) _ _ _)
  refine wpAny_bind ?_
  simp only [newExc, newTuple]
  refine wpAny_bind (wpAny_newObj_type ?_ (by size_fits))
  refine wpAny_bind (m := firstArgMember _ _) (wpAny_of_eq (a := Value.none) (by first | rfl | (simp only [firstArgMember]; rfl)) ?_)
  refine wpAny_newObj_type ?_ (by size_fits)
  simp only [raiseNew]
  refine wpAny_bind (wpAny_handled ?_)
  first | rw [show A.in1.handled = none from hh] | rw [hh]
  refine wpAny_bind (wpAny_pure (wpAny_throw ?_))
  refine wpAny_bind (wpAny_isInstance (T := "StopIteration") (b := true) ⟨_, Heap.get?_push_size _ rfl, rfl⟩ isSubtype_stop ?_)
  refine wpAny_pure (hQ _ ?_)
  exact ((((Heap.SameBut.update ..).trans (Heap.SameBut.update ..)).extBut.push _).push _)
end
/-- what reversed(t) yields -/
def Itv (K : PySem.W.Frag) (l : Addr) (n : Nat) : It where
  go := fun i H => i < n ∧ ∃ xs, SqT K H l xs ∧ xs.length = n
  yld := fun i H v H' => H' = H ∧ ∀ xs, SqT K H l xs → xs[n - 1 - i]? = some v
  stop := fun i H => i = n
theorem turn_rev {P : Program} {w : World} {K : PySem.W.Frag} {tg : Expr} {it l : Addr} (n : Nat) (hz : n ≤ sizeLine) : Turn P w K tg (Itv K l n) [it] it (fun i h => IsRevT h it l ((n : Int) - 1 - (i : Int))) where
  mem := by simp
  obj := fun i h st b hb => by
    have e : b = it := by simpa using hb
    subst e
    obtain ⟨o, ho, _, hd⟩ := st
    exact ⟨o, ho, fun v z => by rw [hd] at z; cases z⟩
  keep := fun i h h' st k => st.at fun o e => k it (by simp) _ e
  item := by
    intro X hP hw hK hc i pins s σ H E I hf st hg
    subst hP hw hK
    obtain ⟨f0, f1, f2, f3, f4, f5⟩ := hf it (by simp)
    obtain ⟨hi, xs, hq, hl⟩ := hg
    obtain ⟨its, r, p, _⟩ := I.tuple hq
    have hlen := r.length
    have hx : xs[n - 1 - i]? = some (xs[n - 1 - i]'(by omega)) := List.getElem?_eq_getElem (by omega)
    obtain ⟨u1, hu1, ru1⟩ := r.get hx
    have e1 : (n : Int) - 1 - (i : Int) = ((n - 1 - i : Nat) : Int) := by omega
    have st' := st
    rw [e1] at st'
    have big : (sizeLine : Int) < 2 ^ 63 := by decide
    refine rev_item (items := its.toArray) (x := u1) st' p (by simpa using hu1) (by omega) fun h' tk hr m => ?_
    have I1 : Inv X pins σ H { s with heap := h', toks := tk } := I.turned (fun b o hb e => m.extBut _ _ (by simpa using hb) e) f0 f1 f3 f4 f5
    have e2 : ((n - 1 - i : Nat) : Int) - 1 = (n : Int) - 1 - ((i + 1 : Nat) : Int) := by omega
    rw [e2] at hr
    obtain ⟨o, ho, hoc, hod⟩ := id hr
    exact ⟨_, rfl, go_of (s := { s with heap := h', toks := tk }) (n := "reversed") ho hoc hod (by decide) ⟨xs[n - 1 - i]'(by omega), H, I1, ru1, ⟨rfl, fun ys hy => by rw [I.tuple_inj hy hq]; exact hx⟩, hr, fun b hb => (hf b hb).1⟩⟩
  done := by
    intro X hP hw hK hc i pins s σ H E I hf st hg
    subst hP hw hK
    obtain ⟨f0, f1, f2, f3, f4, f5⟩ := hf it (by simp)
    have hg' : i = n := hg
    have st' := st
    rw [hg', show (n : Int) - 1 - (n : Int) = -1 by omega] at st'
    exact rev_end (I.ok.hd hc) st' fun h' eb => ⟨rfl, I.turned (t' := s.toks) (fun b o hb e => eb b o hb e) f0 f1 f3 f4 f5⟩
  self := fun _ _ _ _ _ st h => rev_pyIter st h
section
variable {X : Cx} {tg : Expr}
def iRevT (K : PySem.W.Frag) (ta : TA) : TI := fun σ H R => ta σ H fun vs H1 => ∃ l xs, vs = [.ref l] ∧ SqT K H1 l xs ∧ R (Itv K l xs.length) H1
theorem pi_revT {a : Expr} {ta : TA} {p pos : Pos} (hg : Gl X "reversed") (hm : X.mg "reversed" = none) (ha : PA X [a] ta) (hs : starEach [a] X.env = [(false, eval a X.env)] := by rfl) :
    PI X tg (.Call (.Name "reversed" p) [a] [] pos) (iRevT X.K ta) := by
  intro pins s σ H R I h
  refine Call_ (ld_blt I hg hm PyProof.Rows.boot_reversed (PyProof.Rows.callWith_type1 (thn (ha pos pins s σ H _ I h) fun us s1 ⟨vs, H1, I1, r1, q1⟩ => ?_) hs rfl))
  obtain ⟨l, xs, e, q1, q⟩ := q1
  subst e
  obtain ⟨u, rfl, r⟩ := vals1 r1
  cases r
  obtain ⟨its, rv, p1, hz⟩ := I1.tuple q1
  have hl := rv.length
  have big : (sizeLine : Int) < 2 ^ 63 := by decide
  refine rev_made p1 (by rw [List.size_toArray]; omega) ?_
  have hi : IsRevT (s1.heap.push { cls := .type "reversed", data := .fields #[.ref l, rawInt ((its.toArray.size : Int) - 1)] }) s1.heap.objs.size l ((xs.length : Int) - 1 - ((0 : Nat) : Int)) := ⟨_, Heap.get?_push_size _ rfl, rfl, by
    rw [List.size_toArray, hl]
    simp⟩
  refine rev_pyIter (s := { s1 with heap := s1.heap.push { cls := .type "reversed", data := .fields #[.ref l, rawInt ((its.toArray.size : Int) - 1)] }, toks := s1.toks + 1 + 1 }) hi ?_
  refine ⟨_, [s1.heap.objs.size], _, _, H1, rfl, I1.kept (t' := s1.toks + 1 + 1) fun b o e => Heap.get?_push_of_some _ e, turn_rev xs.length hz, hi, fun b hb => ?_, q⟩
  have e : b = s1.heap.objs.size := by simpa using hb
  subst e
  exact I1.fpOk (Nat.le_refl _) (I1.hok.fresh (Nat.le_refl _))
end
end L2
namespace M
open PySem PySem.Spec PyProof.Rows L2
section
variable {X : Cx} {A : AS} {H : Hp} {K : PySem.W.Frag} {pos : Pos} {a : Expr}
theorem itok_revT {l1 : Addr} {vs : List V} {l : List D} (c1 : SqA K A H true l1 vs) (r1 : RepL K A H l vs) : ItOk K A H (Itv K l1 vs.length) l.length (fun i => l.getD (l.length - 1 - i) .non) := by
  have k1 := r1.length
  refine ⟨fun A' H' i P hi => ⟨by omega, vs, c1.sqv P, rfl⟩, fun A' H' i x H'' P hA hi y => ?_, fun A' H' P => k1⟩
  obtain ⟨x1, e1, q1⟩ := r1.at (i := l.length - 1 - i) (by omega)
  obtain ⟨e, ha⟩ := y
  subst e
  have ea := ha vs (c1.sqv P)
  rw [← k1, e1] at ea
  cases ea
  exact ⟨.refl _, q1.mono P⟩
def uRevT (ta : UA) : UI := fun ρ Q => ta ρ fun ds ρ1 => match ds with
  | [.tup l] => Q l.length (fun i => l.getD (l.length - 1 - i) .non) ρ1
  | _ => False
theorem ui_revT {tg : Expr} {p : Pos} {ta : UA} (hg : Gl X "reversed") (hm : X.mg "reversed" = none) (ha : PUA X [a] ta) (hs : starEach [a] X.env = [(false, eval a X.env)] := by rfl) :
    PUI X tg (.Call (.Name "reversed" p) [a] [] pos) (uRevT ta) :=
  PIimp (pi_revT hg hm ha hs) fun σ H R ⟨C, ρ, Q0, I, h, k⟩ => ⟨C, ρ, _, I, h, fun ds ρ1 vs H1 q f s r => by
    split at q
    · rename_i l
      obtain ⟨v, vr, rfl, rv, rr⟩ := r.uncons
      have := rr.unnil
      subst this
      simp only [Rep] at rv
      obtain ⟨a1, us, rfl, c1, s1⟩ := rv
      have c2 : SqA _ _ _ true a1 us := c1
      exact ⟨a1, us, rfl, c2.sqv .self, k _ _ ρ1 _ H1 q f s (itok_revT c2 s1)⟩
    · exact q.elim⟩
/-- a tuple times an int -/
def gMulT (d e : D) (Q : B → Prop) : Prop := match d, e with
  | .tup l, .int k => (l ≠ [] ∧ -(2 ^ 63) ≤ k ∧ k < 2 ^ 63 ∧ l.length * k.toNat ≤ sizeLine) ∧ Q (.pu (.tup (List.replicate k.toNat l).flatten))
  | _, _ => False
theorem ou_mulT : OpU X (binaryOp .Mult) gMulT := by
  intro A H d e v w Q0 Q hA r1 r2 g k
  unfold gMulT at g
  split at g
  · rename_i l kk
    have := rep_int r2
    subst this
    simp only [Rep] at r1
    obtain ⟨a, vs, rfl, c1, rs1⟩ := r1
    obtain ⟨⟨h0, h1, h2, h3⟩, g⟩ := g
    refine ⟨_, op_repT, a, kk, vs, rfl, rfl, c1.imp And.right id, fun z => h0 ?_, h1, h2, by rw [← rs1.length]; exact h3, fun z => ?_, fun z p n => k _ _ _ g (same_new n _) (rep_new_tup hA n (rs1.rep _))⟩
    · have := rs1.length
      rw [z] at this
      exact List.length_eq_zero_iff.mp this
    · subst z
      refine k _ _ H g (.refl _) ?_
      show Rep X.K A H (.tup _) (.ref a)
      simp only [Rep]
      exact ⟨a, vs, rfl, c1, by simpa using rs1⟩
  · exact g.elim
end
end M

end
section
set_option Elab.async false
set_option linter.all false
set_option maxRecDepth 100000
namespace M
open PySem PySem.Spec PyProof.Rows L2
section
variable {X : Cx}
theorem repL_intsG {K : PySem.W.Frag} {A : AS} {H : Hp} : ∀ r : List Int, RepL K A H (r.map D.int) (r.map V.int)
  | [] => .nil
  | a :: r => .cons (by simp only [Rep]) (repL_intsG r)
/-- a module's tuple of ints, by its name -/
theorem pu_gtup {x : Str} {a : Addr} {r : List Int} {p : Pos} (hg : Gl X x) (hm : X.mg x = some (.ref a)) (hk : KT X.K a (r.map V.int)) (hd : (x == ("__debug__" : Str)) = false := by decide) : PU X (.Name x p) (uC (.tup (r.map .int))) :=
  pu_glob (pe_glob (v := .ref a) hg hm rfl hd) fun A H => by
    simp only [Rep]
    exact ⟨a, r.map V.int, rfl, .inr hk, repL_intsG r⟩
theorem kt_of {K : PySem.W.Frag} {a : Addr} {od : Option Addr} {its : Array Value} {n : Nat} {sl : Array (Option Value)} {vs : List V} (hl : K.lookup a = some ⟨.type "tuple", od, .seq its n, sl⟩) (hz : its.size ≤ sizeLine) (hv : Vals vs its.toList) : KT K a vs :=
  ⟨_, its, n, hl, rfl, rfl, hz, hv⟩
end
end M

end
section
set_option Elab.async false
set_option linter.all false
set_option maxRecDepth 100000
namespace L2
open PySem PySem.Spec PyProof.Rows
section
variable {X : Cx}
theorem call_any_l (hc : X.calm = true) : CallR X (.builtin "any") (fun xs H Q => ∃ (p : Addr) (bs : List Bool), xs = [.ref p] ∧ SqL X.K H p (bs.map V.bl) ∧ Q (.bl (bs.any id)) H) := by
  intro pins s σ H xs us Q I r h
  obtain ⟨p, bs, rfl, hq, q⟩ := h
  obtain ⟨u, rfl, rx⟩ := vals1 r
  cases rx
  obtain ⟨its, rv, pl, hz⟩ := I.list hq
  have ba := boolsOf rv
  refine call_any_walk (wpAny_pyIter_list pl.isList ?_)
  have hne : p ≠ s.heap.objs.size := by
    obtain ⟨o, n, e, _⟩ := pl
    exact Nat.ne_of_lt (Heap.lt_size e)
  refine ⟨s.heap.objs.size, _, _, _, _, _, fun i => (bs[i]?).getD false, rfl, Walks.list (A := X.A.in1) (I.ok.hd hc) s.heap.objs.size p (fun z => hne z) its.toArray, ⟨⟨_, Heap.get?_push_size _ rfl, rfl, rfl⟩, pl.isList.push _⟩, ?_, fun h' tk hk => ?_⟩
  · intro i v s' Q' E' hP hQ
    obtain ⟨b, hb, rfl⟩ := ba.get i v (by simpa using hP)
    refine wpAny_truthy_bool ?_
    dsimp only at hQ
    rw [hb] at hQ
    exact hQ
  · have e := LSm.range_any bs
    have hl := ba.length
    have e2 : its.toArray.size = bs.length := by rw [List.size_toArray, hl]
    rw [e2, e]
    exact ⟨.bl (bs.any id), H, I.kept fun b o e => hk b o (by simpa using Nat.ne_of_lt (Heap.lt_size e)) (Heap.get?_push_of_some _ e), rfl, q⟩
end
end L2
namespace M
open PySem PySem.Spec PyProof.Rows L2
section
variable {X : Cx}
def gAny : List D → (B → Prop) → Prop := g1 fun d Q => match d with
  | .lst l => (match boolsL l with
    | some bs => Q (.pu (.bl (bs.any id)))
    | none => False)
  | _ => False
theorem cu_any (hc : X.calm = true) : CallU X (.builtin "any") gAny := by
  intro A H ds vs Q0 Q hA r g k
  obtain ⟨d, v, rfl, rfl, rv, g⟩ := g1_inv g r
  cases d with
  | lst l =>
    dsimp only at g
    cases e : boolsL l with
    | none => rw [e] at g; exact g.elim
    | some bs =>
      rw [e] at g
      simp only [Rep] at rv
      obtain ⟨a, vs, rfl, n, c, rs⟩ := rv
      rw [boolsL_rep e rs] at c
      exact ⟨_, call_any_l hc, a, bs, rfl, SqL.of c, k _ _ H g (.refl _) rep_bl⟩
  | _ => exact (show False from g).elim
theorem bt_any : bootBuiltins "any" = some (.builtin "any") := by decide +kernel
end
end M

end
section
set_option Elab.async false
set_option linter.all false
set_option maxRecDepth 100000
namespace L2
open PySem PySem.Spec PyProof.Rows
section
variable {X : Cx}
theorem call_max_l (hc : X.calm = true) : CallR X (.builtin "max") (fun xs H Q => ∃ (p : Addr) (ns : List Int), xs = [.ref p] ∧ SqL X.K H p (ns.map V.int) ∧ 0 < ns.length ∧ ∀ m : Int, m ∈ ns → (∀ a ∈ ns, a ≤ m) → Q (.int m) H) := by
  intro pins s σ H xs us Q I r h
  obtain ⟨p, ns, rfl, hq, hne, q⟩ := h
  obtain ⟨u, rfl, rx⟩ := vals1 r
  cases rx
  obtain ⟨its, rv, pl, hz⟩ := I.list hq
  have hi : IntsAre its ns := by simpa using intsAre_of rv
  obtain ⟨xs, hx⟩ := hi.allInts.items
  have hl' : s.heap.IsList p (intItems xs) := hx ▸ pl.isList
  have hns : ns = xs.toList.map (·.1) := by
    rw [← nums_intItems, ← hx]
    exact (show numsOf its.toArray.toList = ns from hi.numsOf).symm
  have hsz : 0 < xs.size := by
    have h3 := hne
    rw [hns, List.length_map, Array.length_toList] at h3
    exact h3
  refine max_intList (I.ok.hd hc) hl' hsz fun v h' tk hv hk => ?_
  obtain ⟨t, rfl⟩ := intItems_at hv
  obtain ⟨h1, h2⟩ := argBest_gt (numAt xs) (xs.size - 1)
  refine ⟨.int _, H, I.kept hk, ⟨t, rfl⟩, q _ ?_ fun a ha => ?_⟩
  · rw [hns, numAt_eq]; exact getD_mem (by rw [List.length_map, Array.length_toList]; omega)
  · rw [hns] at ha
    obtain ⟨j, hj, rfl⟩ := mem_getD ha
    rw [List.length_map, Array.length_toList] at hj
    rw [← numAt_eq]
    exact h2 j (by omega)
end
end L2
namespace M
open PySem PySem.Spec PyProof.Rows L2
section
variable {X : Cx} {a : Expr} {pos : Pos} {ta : UE}
/-- max of a list of ints -/
def gMaxL : List D → (B → Prop) → Prop := g1 fun d Q => match d with
  | .lst l => (match intsL l with
    | some ns => 0 < ns.length ∧ ∀ m : Int, m ∈ ns → (∀ a ∈ ns, a ≤ m) → Q (.pu (.int m))
    | none => False)
  | _ => False
theorem cu_maxL (hc : X.calm = true) : CallU X (.builtin "max") gMaxL := by
  intro A H ds vs Q0 Q hA r g k
  obtain ⟨d, v, rfl, rfl, rv, g⟩ := g1_inv g r
  cases d with
  | lst l =>
    dsimp only at g
    cases e : intsL l with
    | none => rw [e] at g; exact g.elim
    | some ns =>
      rw [e] at g
      simp only [Rep] at rv
      obtain ⟨a, vs, rfl, n, c, rs⟩ := rv
      rw [intsL_rep e rs] at c
      exact ⟨_, call_max_l hc, a, ns, rfl, SqL.of c, g.1, fun m h1 h2 => k _ _ H (g.2 m h1 h2) (.refl _) repI⟩
  | _ => exact (show False from g).elim
/-- is None -/
def D.isN : D → Bool
  | .non => true
  | _ => false
theorem rep_isN {K : PySem.W.Frag} {A : AS} {H : Hp} : ∀ {d : D} {v : V}, Rep K A H d v → decide (v = .non) = d.isN
  | .non, v, h => by simp only [Rep] at h; subst h; rfl
  | .bl _, v, h => by simp only [Rep] at h; subst h; rfl
  | .int _, v, h => by simp only [Rep] at h; subst h; rfl
  | .str _, v, h => by simp only [Rep] at h; subst h; rfl
  | .ty _, v, h => by simp only [Rep] at h; subst h; rfl
  | .tup _, v, h => by simp only [Rep] at h; obtain ⟨a, vs, rfl, _⟩ := h; rfl
  | .lst _, v, h => by simp only [Rep] at h; obtain ⟨a, vs, rfl, _⟩ := h; rfl
  | .rol _, v, h => by simp only [Rep] at h; obtain ⟨a, vs, rfl, _⟩ := h; rfl
  | .obj _ _ _, v, h => by simp only [Rep] at h; obtain ⟨a, dx, vs, rfl, _⟩ := h; rfl
def uIsN (neg : Bool) (t : UE) : UE := fun ρ Q => t ρ fun b ρ1 => Q (.pu (.bl (neg ^^ b.d.isN))) ρ1
theorem lIsN (σ : L2.St) (H : Hp) (Q : VK) (h : lE X.K (uIsN false ta) σ H Q) : tIsN (lE X.K ta) σ H Q := by
  obtain ⟨C, ρ, Q0, I, h, k⟩ := h
  refine ⟨C, ρ, _, I, h, fun b ρ' v H' q f s r => ?_⟩
  have e := rep_isN (r.rep fun a z => I.avF f z)
  refine k _ ρ' _ H' q f s ?_
  show Rep _ _ _ _ _
  simp only [Rep, Bool.false_xor]
  rw [e]
theorem lNotN (σ : L2.St) (H : Hp) (Q : VK) (h : lE X.K (uIsN true ta) σ H Q) : tNotN (lE X.K ta) σ H Q := by
  obtain ⟨C, ρ, Q0, I, h, k⟩ := h
  refine ⟨C, ρ, _, I, h, fun b ρ' v H' q f s r => ?_⟩
  have e := rep_isN (r.rep fun a z => I.avF f z)
  refine k _ ρ' _ H' q f s ?_
  show Rep _ _ _ _ _
  simp only [Rep, Bool.true_xor]
  rw [e]
theorem pu_isN {j pos'} (ha : PU X a ta) : PU X (.Compare a [.Is] [.Constant .none j pos'] pos) (uIsN false ta) := PEimp (pe_cmp (pc_isN ha)) lIsN
theorem pu_notN {j pos'} (ha : PU X a ta) : PU X (.Compare a [.IsNot] [.Constant .none j pos'] pos) (uIsN true ta) := PEimp (pe_cmp (pc_notN ha)) lNotN
theorem pt_isNU {j pos'} (ha : PU X a ta) : PUT X (.Compare a [.Is] [.Constant .none j pos'] pos) (uTst (uIsN false ta)) := PTimp (pt_cmp (pc_isN ha)) fun σ H Q h => lIsN σ H _ (lTst σ H Q h)
theorem pt_notNU {j pos'} (ha : PU X a ta) : PUT X (.Compare a [.IsNot] [.Constant .none j pos'] pos) (uTst (uIsN true ta)) := PTimp (pt_cmp (pc_notN ha)) fun σ H Q h => lNotN σ H _ (lTst σ H Q h)
end
end M

end
section
set_option Elab.async false
set_option linter.all false
set_option maxRecDepth 100000
namespace M
open PySem PySem.Spec PyProof.Rows L2
/-! ### looking: what is owned stays owned -/
mutual
/-- no list within -/
def D.nl : D → Bool
  | .tup l => D.nls l
  | .lst _ => false
  | .rol _ => false
  | .obj _ _ _ => false
  | .non => true
  | .bl _ => true
  | .int _ => true
  | .str _ => true
  | .ty _ => true
def D.nls : List D → Bool
  | [] => true
  | d :: l => d.nl && D.nls l
end
theorem nls_ints : ∀ r : List Int, D.nls (r.map D.int) = true
  | [] => by simp only [List.map_nil, D.nls]
  | a :: r => by simp only [List.map_cons, D.nls, D.nl, nls_ints r, Bool.and_true]
section
variable {K : PySem.W.Frag} {A A' : AS} {H H' : Hp}
mutual
theorem Rep.nl (p : ∀ a vs, ¬ A a → Rd H a (.tup vs) → ¬ A' a ∧ Rd H' a (.tup vs)) : ∀ {d : D} {v : V}, d.nl = true → Rep K A H d v → Rep K A' H' d v
  | .non, _, _, h => h
  | .bl _, _, _, h => h
  | .int _, _, _, h => h
  | .str _, _, _, h => h
  | .ty _, _, _, h => h
  | .tup l, v, q, h => by
    simp only [Rep] at h ⊢
    obtain ⟨a, vs, e, c, r⟩ := h
    simp only [D.nl] at q
    refine ⟨a, vs, e, ?_, RepL.nl p q r⟩
    rcases c with ⟨n, c⟩ | c
    · exact .inl (p a vs n c)
    · exact .inr c
  | .lst _, _, q, _ => by simp only [D.nl] at q; cases q
  | .rol _, _, q, _ => by simp only [D.nl] at q; cases q
  | .obj _ _ _, _, q, _ => by simp only [D.nl] at q; cases q
theorem RepL.nl (p : ∀ a vs, ¬ A a → Rd H a (.tup vs) → ¬ A' a ∧ Rd H' a (.tup vs)) : ∀ {l : List D} {vs : List V}, D.nls l = true → RepL K A H l vs → RepL K A' H' l vs
  | [], _, _, h => by simp only [RepL] at h ⊢; exact h
  | d :: ds, vs, q, h => by
    simp only [RepL] at h ⊢
    simp only [D.nls, Bool.and_eq_true] at q
    obtain ⟨v, vr, e, r, rs⟩ := h
    exact ⟨v, vr, e, Rep.nl p q.1 r, RepL.nl p q.2 rs⟩
end
end
section
variable {X : Cx} {st : Stmt} {sts : List Stmt} {e o : Expr} {pos : Pos} {t u : US} {te to : UE} {K : PySem.W.Frag} {C : C0} {ρ ρ' : Ev} {σ : L2.St} {H H' : Hp}
/-- a test leaves what is owned as it was -/
def uLook (t : UT) : UT := fun ρ Q => t ρ fun b _ => Q b ρ
theorem pt_look {t : UT} (h : PUT X e t) : PUT X e (uLook t) := PTimp h fun σ H Q ⟨C, ρ, Q0, I, h, k⟩ => ⟨C, ρ, _, I, h, fun b ρ' H' q f s => k b ρ H' q (.refl _) s⟩
/-- and so does an expression whose value holds no list -/
def uLookE (t : UE) : UE := fun ρ Q => t ρ fun b _ => match b with
  | .pu d => d.nl = true ∧ Q (.pu d) ρ
  | _ => False
theorem pu_look (h : PU X e te) : PU X e (uLookE te) := PEimp h fun σ H Q ⟨C, ρ, Q0, I, h, k⟩ => ⟨C, ρ, _, I, h, fun b ρ' v H' q f s r => by
  cases b with
  | pu d =>
    refine k (.pu d) ρ v H' q.2 (.refl _) s ?_
    refine Rep.nl (fun a vs n c => ⟨?_, c⟩) q.1 (show Rep _ _ _ d v from r)
    rintro (z | ⟨i, l, h1, h2⟩)
    · exact n (.inl z)
    · obtain ⟨b, ws, g1, g2, _⟩ := I.ow i l h1
      rw [h2] at g1; cases g1
      have g3 := s _ _ g2
      rcases c with c | ⟨o, c⟩
      · rw [g3] at c; cases c
      · rw [g3] at c; cases c
  | ow l => exact q.elim
  | bo l => exact q.elim⟩
/-! ### the frame of the law itself: nothing that was there ahead need stay -/
def CZ : C0 := ⟨fun _ => none, fun _ => False⟩
def lZ (K : PySem.W.Frag) (t : US) : TS := fun D σ H => ∃ ρ D0, EOk K CZ ρ σ H ∧ t D0 ρ ∧ DOk K CZ D0 D
def PUZ (X : Cx) (st : Stmt) (t : US) : Prop := PS X st (lZ X.K t)
def PUZs (X : Cx) (sts : List Stmt) (t : US) : Prop := PSs X sts (lZ X.K t)
theorem uz_of (h : PUS X st t) : PUZ X st t := PSimp h fun D σ H ⟨ρ, D0, I, h, k⟩ => ⟨CZ, ρ, D0, I, h, k⟩
theorem uz_cons (h1 : PUZ X st t) (h2 : PUZs X sts u) : PUZs X (st :: sts) (uSeq t u) :=
  PSsimp (pss_cons h1 h2) fun D σ H ⟨ρ, D0, I, h, k⟩ => ⟨ρ, { D0 with nx := u D0 }, I, h, ⟨fun ρ' σ' H' q I' => ⟨ρ', D0, I', q, k⟩, k.rt, k.bk, k.ct⟩⟩
theorem uz_one (h1 : PUZ X st t) : PUZs X [st] t := pss_one h1
def keepO : Option B → Option B
  | some (.pu d) => if d.nl = true then some (.pu d) else none
  | some (.ow l) => if D.nls l = true then some (.ow l) else none
  | _ => none
theorem keepO_pu {x : Option B} {d : D} (h : keepO x = some (.pu d)) : x = some (.pu d) ∧ d.nl = true := by
  unfold keepO at h
  split at h
  · split at h
    · cases h; exact ⟨rfl, by assumption⟩
    · cases h
  · split at h <;> cases h
  · cases h
theorem keepO_ow {x : Option B} {l : List D} (h : keepO x = some (.ow l)) : x = some (.ow l) ∧ D.nls l = true := by
  unfold keepO at h
  split at h
  · split at h <;> cases h
  · split at h
    · cases h; exact ⟨rfl, by assumption⟩
    · cases h
  · cases h
theorem keepO_bo {x : Option B} {l : List D} (h : keepO x = some (.bo l)) : False := by
  unfold keepO at h
  split at h
  · split at h <;> cases h
  · split at h <;> cases h
  · cases h
theorem keep_get {i : Nat} {b : B} (h : (ρ.map keepO)[i]? = some (some b)) : ∃ x, ρ[i]? = some x ∧ keepO x = some b := by
  rw [List.getElem?_map] at h
  cases e : ρ[i]? with
  | none => rw [e] at h; cases h
  | some x => rw [e] at h; exact ⟨x, rfl, by simpa using h⟩
theorem own_keep {a : Addr} (h : Av CZ (ρ.map keepO) σ a) : Av CZ ρ σ a := by
  rcases h with z | ⟨i, l, h1, h2⟩
  · exact .inl z
  · obtain ⟨x, g1, g2⟩ := keep_get h1
    obtain ⟨rfl, _⟩ := keepO_ow g2
    exact .inr ⟨i, l, g1, h2⟩
/-- a list that is not owned is changed -/
theorem EOk.hit {a : Addr} {vs vs' : List V} (I : EOk K CZ ρ σ H) (n : ¬ Av CZ ρ σ a) (h : H a = some (.lst vs)) : EOk K CZ (ρ.map keepO) σ (upd H a (.lst vs')) := by
  have T : ∀ b ws, ¬ Av CZ ρ σ b → Rd H b (.tup ws) → ¬ Av CZ (ρ.map keepO) σ b ∧ Rd (upd H a (.lst vs')) b (.tup ws) := by
    intro b ws nb c
    have ne : b ≠ a := by
      rintro rfl
      rcases c with c | ⟨o, c⟩
      · rw [h] at c; cases c
      · rw [h] at c; cases c
    refine ⟨fun z => nb (own_keep z), ?_⟩
    unfold Rd
    rw [upd_ne ne]
    exact c
  refine ⟨by rw [List.length_map]; exact I.len, ?_, ?_, ?_, ?_, fun b o z => (by cases z), fun b z => z.elim⟩
  · intro i d g
    obtain ⟨x, g1, g2⟩ := keep_get g
    obtain ⟨rfl, nl⟩ := keepO_pu g2
    obtain ⟨v, h1, h2⟩ := I.pu i d g1
    exact ⟨v, h1, Rep.nl T nl h2⟩
  · intro i l g
    obtain ⟨x, g1, g2⟩ := keep_get g
    obtain ⟨rfl, nl⟩ := keepO_ow g2
    obtain ⟨b, ws, h1, h2, h3, h4⟩ := I.ow i l g1
    have ne : b ≠ a := by
      rintro rfl
      exact n (.inr ⟨i, l, g1, h1⟩)
    exact ⟨b, ws, h1, by rw [upd_ne ne]; exact h2, h3, RepL.nl T nl h4⟩
  · intro i j l l' b g1 g2 h1 h2
    obtain ⟨x, g3, g4⟩ := keep_get g1
    obtain ⟨rfl, _⟩ := keepO_ow g4
    obtain ⟨y, g5, g6⟩ := keep_get g2
    obtain ⟨rfl, _⟩ := keepO_ow g6
    exact I.inj i j l l' b g3 g5 h1 h2
  · intro i l g
    obtain ⟨x, g1, g2⟩ := keep_get g
    exact (keepO_bo g2).elim
/-- o.append(e), o a list that is not owned -/
def uAppZ (to te : UE) : US := fun D ρ => to ρ fun b ρ1 => match b with
  | .pu (.lst l) => te ρ1 fun _ ρ2 => l.length < sizeLine ∧ D.nx (ρ2.map keepO)
  | _ => False
theorem uz_append {apos cpos : Pos} (ho : PU X o to) (he : PU X e te)
    (hbase : attributeBase o "append" X.env (eval o X.env) = eval o X.env := by rfl)
    (hfew : ((backTo cpos (starEach [e] X.env)).all (fun x => !x.1) && (backToKw cpos (keywordEach [] X.env)).all (fun x => x.1.isSome)
      && decide ([e].length + ([] : List Keyword).length + (if ([] : List Keyword).isEmpty then 0 else 1) < 30)) = true := by rfl)
    (hline : (apos.endLine == cpos.line) = true := by rfl) (hs : starEach [e] X.env = (false, eval e X.env) :: starEach [] X.env := by rfl) (hplain : (backTo cpos (starEach [] X.env)).any (·.1) = false := by rfl)
    (hw : swapsWith (.Call (.Attribute o "append" apos) [e] [] cpos) none pos.line X.env = pure false := by rfl) :
    PUZ X (.Expr (.Call (.Attribute o "append" apos) [e] [] cpos) pos) (uAppZ to te) :=
  PSimp (ps_expr (pe_bm PySem.F.plainAttrs_list PySem.F.slot_list_append PySem.F.type_list_append mt_append ho (pa_cons he pa_nil hs) hbase hfew hline hs hplain) hw) fun D σ H ⟨ρ, D0, I, h, k⟩ => by
    refine ⟨CZ, ρ, _, I, h, fun b ρ1 v H1 q f s r => ?_⟩
    split at q
    case h_2 => exact q.elim
    rename_i l
    have r' : Rep X.K (Av CZ ρ1 σ) H1 (.lst l) v := r
    simp only [Rep] at r'
    obtain ⟨a, vs, rfl, na, h2, rl⟩ := r'
    refine ⟨.inl ⟨rfl, vs, SqL.of h2⟩, CZ, ρ1, _, (I.frz f).same s, q, fun b2 ρ2 v2 H2 q2 f2 s2 r2 => ?_⟩
    have I2 := (((I.frz f).same s).frz f2).same s2
    have g2 := s2 _ _ h2
    exact ⟨a, vs, v2, rfl, rfl, g2, by rw [← rl.length]; exact q2.1, k.nx _ _ _ q2.2 (I2.hit (fun z => na (f2.av z)) g2)⟩
end
/-- law(script), in that frame -/
def spZ (K : PySem.W.Frag) : Sp := fun vs H Q _ => ∃ (a : Addr) (ns : List Int), vs = [.ref a] ∧ ns.length ≤ 63 ∧ SqL K H a (ns.map V.int) ∧ ∀ H', Q (.bl true) H'
theorem fn_pureZ {P : Program} {w : World} {K : PySem.W.Frag} {mg : Str → Option Value} {base : Heap} {x qual : Str} {st : Stmt} {f : Addr} {fd : FuncData} {N : List Str} {z : Str} {k : Nat} (F : Fun K x qual st f fd) (S : FnScope N [z] (defScope st))
    (body : ∀ (cdv : Value) (A : Around) (outer : List Env) (s : Shared) (H : Hp) (E : XK), Room k (A.deeper (envOfC qual (defScope st) s.heap.objs.size f cdv)) →
      ∃ t, PUZs (cxOf CX0 P w K mg base N qual (defScope st) f cdv A outer s H E).nox (defBody st) t ∧ ∀ ds Q, φLaw ds Q → t { nx := fun _ => Q (.pu .non), rt := Q } (init N ds)) :
    FnOk P w K mg base CX0 (k + 1) f fd [z] (spZ K) := by
  refine F.ok S (fun vs H Q E h => ?_) (fun cdv A outer s H vs Q E hr h => ?_)
  · obtain ⟨a, ns, rfl, _⟩ := h
    rfl
  · obtain ⟨a, ns, rfl, hl, hS, q⟩ := h
    obtain ⟨t, ht, hq⟩ := body cdv A outer s H E hr
    have r : RepL K (fun _ => False) H [.rol (ns.map .int)] [.ref a] := .cons (by
      simp only [Rep]
      exact ⟨a, _, rfl, hS.imp (fun z => ⟨fun z => z, z⟩) id, repL_ints ns⟩) .nil
    have I := init_ok (N := N) (A := fun _ => False) (fun _ z => z.elim) r
    have I' : EOk K CZ (init N [.rol (ns.map .int)]) (L2.start N [.ref a]) H := by
      refine ⟨I.len, ?_, ?_, I.inj, ?_, fun b o z => (by cases z), fun b z => z.elim⟩
      · intro i d g
        obtain ⟨v, h1, h2⟩ := I.pu i d g
        exact ⟨v, h1, h2.mono (.sub (.refl _) fun a z => z)⟩
      · intro i l g
        obtain ⟨d, z, _⟩ := init_get g
        cases z
      · intro i l g
        obtain ⟨d, z, _⟩ := init_get g
        cases z
    refine ⟨_, ht, _, _, I', hq _ (fun b => b = .pu (.bl true)) ⟨ns, rfl, hl, rfl⟩, ⟨fun ρ σ H' z _ => (by cases z), fun b v H' z s r => ?_, fun _ _ _ z => z.elim, fun _ _ _ z => z.elim⟩⟩
    have z' : b = .pu (.bl true) := z
    subst z'
    have r' : Rep K CZ.A0 H' (.bl true) v := r
    rw [rep_blv r']
    exact q H'
theorem walkZ {l : PySem.W.OpenLaw} {k : Nat} {x : Str} {q : Program} {loose : List Str} {XP : (Str → Option Value) → Heap → Prop} {YP : World → Heap → Prop} {d : DefRec} {K : Params → PySem.W.Frag} (hn : l.most = some 63) (hdf : d.params.defaults = []) (hr : Room k callerA)
    (hY : ∀ (w : World) (h : Heap), YP w h → (K w.params).In h)
    (F : ∀ (w : World) (mg : Str → Option Value) (fa : Addr) (h : Heap), (K w.params).In h → h.Ns mainGlobals mg → mg d.name = some (.ref fa) →
      ∃ fd : FuncData, (∀ (s : Shared) (u : Value), BindsTo s fd ⟨[u], []⟩ [(x, u)]) ∧ ∀ base : Heap, (K w.params).In base → base.Ns mainGlobals mg → FnOk l.prog w (K w.params) mg base CX0 k fa fd [x] (spZ (K w.params))) :
    PySem.W.WalkO q loose XP YP l.row.toRowW d [] (fun f vs => PySem.call f vs) :=
  L2.walk_of (n := 63) (k := k) (x := x) (CX := fun _ => CX0) (sp := fun w => spZ (K w.params)) hn (by decide) hdf hr hY F (fun _ _ a ns hl _ hS => ⟨a, ns, rfl, hl, hS, fun _ => rfl⟩) fun _ _ _ _ _ z => z
end M

end
section
set_option Elab.async false
set_option linter.all false
set_option maxRecDepth 100000
open PySem L2 M
local macro_rules | `(tactic| walk_at "u") => `(tactic| simp only [uSeq, uSet, uRet, uRetN, uRetV, uIfS, uTst, uOp, uC, uVar, slotE, uVarV, slotV, uV, uIx, gIx, uLen, seqOf, uCall, uCons, uNil, uLst, uTup, uApp, ownAt, uNeg, gAdd, M.gSub, gMul, gDiv, gMod, gPow, gI2, gCmp, gEqB, isB, B.d, uAnd, uOr, uNot, uAndV, uOrV, uNotV, uName, uNext, uPar, uAug, uSl, uPart, uNoPart, gSl, gAbs, gMax, gMin, gToInt, gTupleOf, gListOf, gIsi, g1, g2, gInt, uSetI, uIf,
  List.getElem?_cons_zero, List.getElem?_cons_succ, List.set_cons_zero, List.set_cons_succ, List.length_cons, List.length_nil, decide_eq_true_eq, Bool.false_xor, Bool.true_xor, Bool.not_eq_true', decide_eq_false_iff_not, if_true, if_false, reduceCtorEq])
namespace M
theorem ini1 (d : D) (N : List Str) : init N [d] = some (.pu d) :: List.replicate (N.length - 1) none := rfl
theorem ini2 (d e : D) (N : List Str) : init N [d, e] = some (.pu d) :: some (.pu e) :: List.replicate (N.length - 2) none := rfl
def φ_mixed : Φ := fun ds Q => ∃ c k p : Int, ds = [.int c, .int k, .int p] ∧ 0 ≤ k ∧ k < 4294967296 ∧ 0 < p ∧ ∀ r : Int, 0 ≤ r → r < p → Q (.pu (.int r))
def tr_mixed : US := (uSeq (uSet 3 (uOp gMod (uOp gMul (uOp gAdd (uOp gAdd (uOp gAdd (uVar 0) (uOp gMul (uOp gMul (uC (.int 7)) (uVar 1)) (uVar 1))) (uOp gMul (uC (.int 13)) (uVar 1))) (uC (.int 5))) (uC (.int 48271))) (uC (.int 2147483647)))) (uSeq (uSet 3 (uOp gMod (uOp gMul (uVar 3) (uVar 3)) (uC (.int 2147483629)))) (uRet (uOp gMod (uOp gMul (uVar 3) (uC (.int 39373))) (uVar 2)))))
theorem fmod_pos (i : Int) {j : Int} (h : 0 < j) : i.fmod j = i % j := Int.fmod_eq_emod_of_nonneg i (Int.le_of_lt h)
theorem fdiv_pos (i : Int) {j : Int} (h : 0 < j) : i.fdiv j = i / j := Int.fdiv_eq_ediv_of_nonneg i (Int.le_of_lt h)
theorem cmR {i j : Int} (h1 : -18446744073709551616 < j) (h2 : j < 18446744073709551616) : CMul i j ∨ (Sm i ∧ Sm j) := .inl (.inr ⟨h1, h2⟩)
theorem cmL {i j : Int} (h1 : -18446744073709551616 < i) (h2 : i < 18446744073709551616) : CMul i j ∨ (Sm i ∧ Sm j) := .inl (.inl ⟨h1, h2⟩)
theorem rd_mixed : ∀ ds Q, φ_mixed ds Q → tr_mixed { nx := fun _ => Q (.pu .non), rt := Q } (init ["c", "k", "p", "f"] ds) := by
  rintro ds Q ⟨c, k, p, rfl, h0, h1, hp, h⟩
  unfold tr_mixed
  show (uSeq _ _ : US) _ [some (.pu (.int c)), some (.pu (.int k)), some (.pu (.int p)), none]
  walk_at "u"
  rw [fmod_pos _ (by decide : (0 : Int) < 2147483647), fmod_pos _ (by decide : (0 : Int) < 2147483629), fmod_pos _ hp]
  refine ⟨cmL (by decide) (by decide), cmR (by omega) (by omega), cmL (by decide) (by decide), cmR (by decide) (by decide), by decide, cmR (by omega) (by omega), by decide, cmR (by decide) (by decide), by omega, ?_⟩
  exact h _ (Int.emod_nonneg _ (by omega)) (Int.emod_lt_of_pos _ hp)
theorem uFor_intro {ui : UI} {g : UG} {tb : US} {D : UD} {ρ : Ev} (n : Nat) (it : Nat → M.D) (ρ1 : Ev) (hui : ∀ Q : Nat → (Nat → M.D) → Ev → Prop, Q n it ρ1 → ui ρ Q) (Pv : Nat → Ev → Prop) (h0 : Pv 0 ρ1)
    (hs : ∀ i ρ, i < n → Pv i ρ → g (.pu (it i)) ρ fun ρ2 => tb { D with nx := Pv (i + 1), ct := Pv (i + 1), bk := D.nx } ρ2) (hd : ∀ ρ, Pv n ρ → D.nx ρ) : uFor ui g tb D ρ := hui _ ⟨Pv, h0, hs, hd⟩
theorem atI_map {ws : List Int} {i : Nat} (h : i < ws.length) : atI (ws.map D.int) (0 + (i : Int)) = some (.int ws[i]) := by
  rw [Int.zero_add]
  exact atI_nat (by rw [List.getElem?_map, List.getElem?_eq_getElem h]; rfl)
/-- each drawn number lies below its width -/
def Below (xs ws : List Int) : Prop := xs.length = ws.length ∧ ∀ (j : Nat) (x w : Int), xs[j]? = some x → ws[j]? = some w → 0 ≤ x ∧ x < w
theorem cpl {i j : Int} (h1 : 0 ≤ j) (h2 : j ≤ 1000000) (h3 : i.natAbs < 2 ^ 64) : CPow i j := ⟨h1, h2, h3⟩
def φ_draws : Φ := fun ds Q => ∃ (c : Int) (ws : List Int) (p : Int), ds = [.int c, .lst (ws.map .int), .int p] ∧ ws.length ≤ 1000 ∧ 0 < p ∧ (∀ w ∈ ws, 0 < w ∧ w < 18446744073709551616) ∧ ∀ xs : List Int, Below xs ws → Q (.ow (xs.map .int))
def tr_draws : US := (uSeq (uSet 3 (uC (.int 0))) (uSeq (uIfS (uTst (uOp (gCmp fun i j => decide (j ≤ i)) (uVar 0) (uOp gPow (uC (.int 10)) (uC (.int 18))))) (uSet 3 (uOp M.gSub (uVar 0) (uOp gPow (uC (.int 10)) (uC (.int 18))))) uNext) (uSeq (uSet 4 (uLst uNil)) (uSeq (uFor (uRng1 (uCons (uLen (uVarV 1)) uNil)) (uName 5) (uIfS (uTst (uOp (gCmp fun i j => decide (j < i)) (uVar 3) (uC (.int 1)))) (uSeq (uApp 4 (uOp gMod (uVar 3) (uIx (uVarV 1) (uVar 5)))) (uSet 3 (uOp gDiv (uVar 3) (uIx (uVarV 1) (uVar 5))))) (uApp 4 (uOp gMod (uCall φ_mixed (uCons (uVar 0) (uCons (uVar 5) (uCons (uVar 2) uNil)))) (uIx (uVarV 1) (uVar 5)))))) (uRetV 4)))))
theorem sm64 {i : Int} (h1 : -18446744073709551616 < i) (h2 : i < 18446744073709551616) : Sm i := by
  unfold Sm
  have h3 : i.natAbs < 18446744073709551616 := by omega
  exact Nat.lt_of_lt_of_le h3 (by decide +kernel)
theorem below_snoc {xs ws : List Int} {x : Int} (h : ∀ (j : Nat) (x w : Int), xs[j]? = some x → ws[j]? = some w → 0 ≤ x ∧ x < w) (hl : xs.length < ws.length) (h0 : 0 ≤ x) (h1 : x < ws[xs.length]) :
    ∀ (j : Nat) (y w : Int), (xs ++ [x])[j]? = some y → ws[j]? = some w → 0 ≤ y ∧ y < w := by
  intro j y w e1 e2
  by_cases hj : j < xs.length
  · rw [List.getElem?_append_left hj] at e1
    exact h j y w e1 e2
  · rw [List.getElem?_append_right (by omega)] at e1
    by_cases hj' : j = xs.length
    · subst hj'
      simp at e1
      subst e1
      rw [List.getElem?_eq_getElem hl] at e2
      cases e2
      exact ⟨h0, h1⟩
    · have : j - xs.length ≠ 0 := by omega
      cases e : j - xs.length with
      | zero => omega
      | succ n => rw [e] at e1; simp at e1
theorem rd_draws : ∀ ds Q, φ_draws ds Q → tr_draws { nx := fun _ => Q (.pu .non), rt := Q } (init ["c", "w", "p", "l", "f", "k"] ds) := by
  rintro ds Q ⟨c, ws, p, rfl, hlen, hp, hw, h⟩
  unfold tr_draws
  have tail : ∀ left : Int, (uSeq (uSet 4 (uLst uNil)) (uSeq (uFor (uRng1 (uCons (uLen (uVarV 1)) uNil)) (uName 5) (uIfS (uTst (uOp (gCmp fun i j => decide (j < i)) (uVar 3) (uC (.int 1)))) (uSeq (uApp 4 (uOp gMod (uVar 3) (uIx (uVarV 1) (uVar 5)))) (uSet 3 (uOp gDiv (uVar 3) (uIx (uVarV 1) (uVar 5))))) (uApp 4 (uOp gMod (uCall φ_mixed (uCons (uVar 0) (uCons (uVar 5) (uCons (uVar 2) uNil)))) (uIx (uVarV 1) (uVar 5)))))) (uRetV 4)) : US)
      { nx := fun _ => Q (.pu .non), rt := Q } [some (.pu (.int c)), some (.pu (.lst (ws.map .int))), some (.pu (.int p)), some (.pu (.int left)), none, none] := by
    intro left
    rw [uSeq]
    walk_at "u"
    refine ⟨by decide, ?_⟩
    refine uFor_intro ws.length (fun i => .int (0 + i)) [some (.pu (.int c)), some (.pu (.lst (ws.map .int))), some (.pu (.int p)), some (.pu (.int left)), some (.ow []), none] ?_
      (fun i ρ => ∃ (l : Int) (xs : List Int) (kk : Option B), ρ = [some (.pu (.int c)), some (.pu (.lst (ws.map .int))), some (.pu (.int p)), some (.pu (.int l)), some (.ow (xs.map .int)), kk] ∧ xs.length = i ∧ ∀ (j : Nat) (x w : Int), xs[j]? = some x → ws[j]? = some w → 0 ≤ x ∧ x < w)
      ⟨left, [], none, rfl, rfl, fun j x w e => by simp at e⟩ ?_ ?_
    · intro Q q
      simp only [uRng1]
      walk_at "u"
      rw [List.length_map]
      refine ⟨⟨by omega, by omega⟩, ?_⟩
      rw [Int.toNat_natCast]
      exact q
    · rintro i ρ hi ⟨l, xs, kk, rfl, hl, hb⟩
      subst hl
      obtain ⟨w0, w1⟩ := hw _ (List.getElem_mem hi)
      walk_at "u"
      refine ⟨by decide, ?_⟩
      by_cases hc : 1 < l
      · rw [if_pos hc]
        simp only [atI_map hi]
        rw [fmod_pos _ w0, fdiv_pos _ w0]
        refine ⟨by omega, ?_, ⟨by omega, sm64 (by omega) w1⟩, _, xs ++ [l % ws[xs.length]], _, by rw [List.map_append]; rfl, by simp, below_snoc hb hi (Int.emod_nonneg _ (by omega)) (Int.emod_lt_of_pos _ w0)⟩
        rw [List.length_map]
        exact Nat.lt_of_lt_of_le hi (Nat.le_trans hlen (by decide))
      · rw [if_neg hc]
        refine ⟨c, (0 + (xs.length : Int)), p, rfl, by omega, by omega, hp, fun r r0 r1 => ?_⟩
        simp only [atI_map hi]
        rw [fmod_pos _ w0]
        refine ⟨by omega, ?_, l, xs ++ [r % ws[xs.length]], _, by rw [List.map_append]; rfl, by simp, below_snoc hb hi (Int.emod_nonneg _ (by omega)) (Int.emod_lt_of_pos _ w0)⟩
        rw [List.length_map]
        exact Nat.lt_of_lt_of_le hi (Nat.le_trans hlen (by decide))
    · rintro ρ ⟨l, xs, kk, rfl, hl, hb⟩
      walk_at "u"
      exact h xs ⟨hl, hb⟩
  show (uSeq _ _ : US) _ [some (.pu (.int c)), some (.pu (.lst (ws.map .int))), some (.pu (.int p)), none, none, none]
  refine (show CPow 10 18 ∧ (if decide ((10 : Int) ^ (18 : Int).toNat ≤ c) = true then _ else _) from ⟨cpl (by decide) (by decide) (by decide), ?_⟩)
  split
  · exact ⟨cpl (by decide) (by decide) (by decide), tail _⟩
  · exact tail _
theorem atI_head {d : D} {l : List D} : atI (d :: l) 0 = some d := atI_nat (j := 0) rfl
theorem cutD_map (xs : List Int) (lo hi : Option Int) : ∃ ys : List Int, cutD (xs.map .int) lo hi = ys.map .int := by
  unfold cutD
  refine ⟨(xs.drop (HT.sIx (xs.map D.int).length 0 lo)).take (HT.sIx (xs.map D.int).length (xs.map D.int).length hi - HT.sIx (xs.map D.int).length 0 lo), ?_⟩
  rw [List.map_take, List.map_drop]
theorem getD_map {ys : List Int} {i : Nat} (h : i < (ys.map D.int).length) : ∃ z, (ys.map D.int).getD i .non = .int z := by
  rw [List.length_map] at h
  exact ⟨ys[i], by rw [List.getD_eq_getElem?_getD, List.getElem?_map, List.getElem?_eq_getElem h]; rfl⟩
theorem rep_flat (k : Nat) (z : Int) : (List.replicate k [D.int z]).flatten = (List.replicate k z).map .int := by
  induction k with
  | zero => rfl
  | succ k ih => rw [List.replicate_succ, List.flatten_cons, ih, List.replicate_succ]; rfl
def φ_far : Φ := fun ds Q => ∃ c n m p : Int, ds = [.int c, .int n, .int m, .int p] ∧ 0 ≤ n ∧ n ≤ 500 ∧ 20 ≤ m ∧ 0 < p ∧ ∀ r : Int, -m ≤ r → r ≤ m → Q (.pu (.int r))
def tr_far : US := (uSeq (uSet 4 (uCall φ_draws (uCons (uVar 0) (uCons (uOp gAdd (uLst (uCons (uC (.int 6)) uNil)) (uOp gMul (uLst (uCons (uOp gPow (uC (.int 10)) (uC (.int 8))) uNil)) (uVar 1))) (uCons (uVar 3) uNil))))) (uSeq (uSet 5 (uC (.int 0))) (uSeq (uFor (uSeqI (uSl (uVarV 4) (uPart (uC (.int 1))) uNoPart)) (uName 6) (uSet 5 (uOp gAdd (uOp gMul (uVar 5) (uOp gPow (uC (.int 10)) (uC (.int 8)))) (uVar 6)))) (uSeq (uIfS (uTst (uOp (gEqB false) (uIx (uVarV 4) (uC (.int 0))) (uC (.int 0)))) (uRet (uC (.int 0))) uNext) (uSeq (uIfS (uTst (uOp (gEqB false) (uIx (uVarV 4) (uC (.int 0))) (uC (.int 1)))) (uRet (uOp M.gSub (uOp gMod (uVar 5) (uC (.int 41))) (uC (.int 20)))) uNext) (uRet (uOp M.gSub (uOp gMod (uVar 5) (uOp gAdd (uOp gMul (uC (.int 2)) (uVar 2)) (uC (.int 1)))) (uVar 2))))))))
theorem rd_far : ∀ ds Q, φ_far ds Q → tr_far { nx := fun _ => Q (.pu .non), rt := Q } (init ["c", "n", "m", "p", "f", "a", "b"] ds) := by
  rintro ds Q ⟨c, n, m, p, rfl, n0, n1, hm, hp, h⟩
  unfold tr_far
  show (uSeq _ _ : US) _ [some (.pu (.int c)), some (.pu (.int n)), some (.pu (.int m)), some (.pu (.int p)), none, none, none]
  walk_at "u"
  refine ⟨by decide, cpl (by decide) (by decide) (by decide), by decide, ⟨by omega, by omega, ?_⟩, ?_, ?_⟩
  · show 1 * n.toNat ≤ sizeLine
    have : n.toNat ≤ 500 := by omega
    exact Nat.le_trans (by omega) (show 500 ≤ sizeLine by decide)
  · rw [rep_flat, List.length_map, List.length_replicate]
    exact Nat.le_trans (show 1 + n.toNat ≤ 501 by omega) (by decide)
  refine ⟨c, 6 :: List.replicate n.toNat 100000000, p, by rw [rep_flat]; rfl, ?_, hp, ?_, fun xs hx => ?_⟩
  · rw [List.length_cons, List.length_replicate]; omega
  · intro w hw
    rcases List.mem_cons.mp hw with rfl | hw
    · decide
    · rw [List.eq_of_mem_replicate hw]; decide
  obtain ⟨x0, r, rfl⟩ : ∃ x0 r, xs = x0 :: r := by
    cases xs with
    | nil => have := hx.1; simp at this
    | cons a r => exact ⟨a, r, rfl⟩
  obtain ⟨ys, hy⟩ := cutD_map (x0 :: r) (some 1) none
  refine uFor_intro (ys.map D.int).length (fun i => (ys.map D.int).getD i .non) [some (.pu (.int c)), some (.pu (.int n)), some (.pu (.int m)), some (.pu (.int p)), some (.ow ((x0 :: r).map .int)), some (.pu (.int 0)), none] ?_
    (fun i ρ => ∃ (f : Int) (kk : Option B), ρ = [some (.pu (.int c)), some (.pu (.int n)), some (.pu (.int m)), some (.pu (.int p)), some (.ow ((x0 :: r).map .int)), some (.pu (.int f)), kk])
    ⟨0, none, rfl⟩ ?_ ?_
  · intro Q q
    simp only [uSeqI]
    walk_at "u"
    rw [hy]
    exact q
  · rintro i ρ hi ⟨f, kk, rfl⟩
    obtain ⟨z, hz⟩ := getD_map hi
    rw [hz]
    walk_at "u"
    exact ⟨by decide, cpl (by decide) (by decide) (by decide), cmR (by decide) (by decide), _, _, rfl⟩
  · rintro ρ ⟨f, kk, rfl⟩
    walk_at "u"
    simp only [List.map_cons, atI_head]
    split
    · exact h 0 (by omega) (by omega)
    · split
      · rw [fmod_pos _ (by decide)]
        refine ⟨by decide, h _ ?_ ?_⟩ <;> omega
      · refine ⟨cmL (by decide) (by decide), by omega, ?_⟩
        rw [fmod_pos _ (by omega)]
        have a1 := Int.emod_nonneg f (show (2 * m + 1) ≠ 0 by omega)
        have a2 := Int.emod_lt_of_pos f (show 0 < 2 * m + 1 by omega)
        exact h _ (by omega) (by omega)
def φ_cell : Φ := fun ds Q => ∃ (ns : List Int) (k : Int), ds = [.rol (ns.map .int), .int k] ∧ ns.length ≤ 63 ∧ 0 ≤ k ∧ k < 4294967296 ∧ ∀ r : Int, Q (.pu (.int r))
def tr_cell : US := (uSeq (uIfS (uTst (uOp (gEqB false) (uLen (uVarV 0)) (uC (.int 0)))) (uRet (uOp gMul (uC (.int 7919)) (uOp gAdd (uVar 1) (uC (.int 1))))) uNext) (uSeq (uIfS (uTst (uOp (gCmp fun i j => decide (i < j)) (uVar 1) (uLen (uVarV 0)))) (uRet (uIx (uVarV 0) (uVar 1))) uNext) (uRet (uOp gAdd (uIx (uVarV 0) (uOp gMod (uVar 1) (uLen (uVarV 0)))) (uOp gMul (uC (.int 104729)) (uVar 1))))))
theorem atI_ex {ns : List Int} {k : Int} (h0 : 0 ≤ k) (h1 : k < ns.length) : ∃ z, atI (ns.map D.int) k = some (.int z) := by
  obtain ⟨i, rfl⟩ : ∃ i : Nat, k = (i : Int) := ⟨k.toNat, by omega⟩
  have hi : i < ns.length := by omega
  exact ⟨ns[i], atI_nat (by rw [List.getElem?_map, List.getElem?_eq_getElem hi]; rfl)⟩
theorem rd_cell : ∀ ds Q, φ_cell ds Q → tr_cell { nx := fun _ => Q (.pu .non), rt := Q } (init ["s", "k"] ds) := by
  rintro ds Q ⟨ns, k, rfl, hl, k0, k1, h⟩
  unfold tr_cell
  show (uSeq _ _ : US) _ [some (.pu (.rol (ns.map .int))), some (.pu (.int k))]
  walk_at "u"
  rw [List.length_map]
  split
  · exact ⟨cmL (by decide) (by decide), h _⟩
  · split
    · obtain ⟨z, hz⟩ := atI_ex (ns := ns) k0 (by omega)
      rw [hz]
      exact h z
    · refine ⟨by omega, ?_⟩
      rw [fmod_pos _ (by omega)]
      obtain ⟨z, hz⟩ := atI_ex (ns := ns) (k := k % ns.length) (Int.emod_nonneg _ (by omega)) (Int.emod_lt_of_pos _ (by omega))
      rw [hz]
      exact ⟨cmL (by decide) (by decide), h _⟩
def φ_whole : Φ := fun ds Q => ∃ i : Int, ds = [.int i] ∧ Q (.pu (.bl true))
def tr_whole : US := (uRet (uAndV (uCall gIsi (uCons (uVar 0) (uCons (uC (.ty "int")) uNil))) (uNotV (uCall gIsi (uCons (uVar 0) (uCons (uC (.ty "bool")) uNil))))))
theorem rd_whole : ∀ ds Q, φ_whole ds Q → tr_whole { nx := fun _ => Q (.pu .non), rt := Q } (init ["f"] ds) := by
  rintro ds Q ⟨i, rfl, h⟩
  unfold tr_whole
  show (uRet _ : US) _ [some (.pu (.int i))]
  walk_at "u"
  simpa using h
theorem bt_len : bootBuiltins "len" = some (.builtin "len") := by decide +kernel
theorem bt_abs : bootBuiltins "abs" = some (.builtin "abs") := by decide +kernel
theorem bt_max : bootBuiltins "max" = some (.builtin "max") := by decide +kernel
theorem bt_min : bootBuiltins "min" = some (.builtin "min") := by decide +kernel
theorem bt_isinstance : bootBuiltins "isinstance" = some (.builtin "isinstance") := by decide +kernel
theorem bt_int : bootBuiltins "int" = some (.type "int") := by decide +kernel
theorem bt_bool : bootBuiltins "bool" = some (.type "bool") := by decide +kernel
theorem bt_tuple : bootBuiltins "tuple" = some (.type "tuple") := by decide +kernel
theorem bt_list : bootBuiltins "list" = some (.type "list") := by decide +kernel
theorem len_mixed : ∀ ds Q, φ_mixed ds Q → ds.length = 3 := by rintro ds Q ⟨c, k, p, rfl, _⟩; rfl
theorem len_draws : ∀ ds Q, φ_draws ds Q → ds.length = 3 := by rintro ds Q ⟨c, k, p, rfl, _⟩; rfl
theorem len_far : ∀ ds Q, φ_far ds Q → ds.length = 4 := by rintro ds Q ⟨c, k, m, p, rfl, _⟩; rfl
theorem len_cell : ∀ ds Q, φ_cell ds Q → ds.length = 2 := by rintro ds Q ⟨c, k, rfl, _⟩; rfl
theorem len_whole : ∀ ds Q, φ_whole ds Q → ds.length = 1 := by rintro ds Q ⟨i, rfl, _⟩; rfl
theorem len_law : ∀ ds Q, φLaw ds Q → ds.length = 1 := by rintro ds Q ⟨i, rfl, _⟩; rfl
end M

end
section
set_option Elab.async false
set_option linter.all false
set_option maxRecDepth 100000
open PySem L2 M
local macro_rules | `(tactic| walk_at "u") => `(tactic| simp only [uSeq, uSet, uRet, uRetN, uRetV, uIfS, uTst, uOp, uC, uVar, slotE, uVarV, slotV, uV, uIx, gIx, uLen, seqOf, uCall, uCons, uNil, uLst, uTup, uApp, ownAt, uNeg, gAdd, M.gSub, gMul, gDiv, gMod, gPow, gI2, gCmp, gEqB, isB, B.d, uAnd, uOr, uNot, uAndV, uOrV, uNotV, uName, uNext, uPar, uAug, uSl, uPart, uNoPart, gSl, gAbs, gMax, gMin, gToInt, gTupleOf, gListOf, gIsi, g1, g2, gInt, uSetI, uIf, gAll, gSum, uDrop, lend, capEv, frzL, frz1, Option.bind_some, Option.bind_none, Option.map_some, Option.map_none, Option.join,
  List.getElem?_cons_zero, List.getElem?_cons_succ, List.set_cons_zero, List.set_cons_succ, List.length_cons, List.length_nil, decide_eq_true_eq, Bool.false_xor, Bool.true_xor, Bool.not_eq_true', decide_eq_false_iff_not, if_true, if_false, reduceCtorEq])
namespace M
theorem uRet_eq (t : UE) (D : UD) (ρ : Ev) : uRet t D ρ = t ρ (fun b _ => D.rt b) := rfl
theorem uCall_eq (φ : Φ) (t : UA) (ρ : Ev) (Q : B → Ev → Prop) : uCall φ t ρ Q = t ρ fun ds ρ1 => φ ds fun b => Q b ρ1 := rfl
theorem uCons_eq (t : UE) (u : UA) (ρ : Ev) (Q : List D → Ev → Prop) : uCons t u ρ Q = t ρ fun x ρ1 => u ρ1 fun xs ρ2 => Q (x.d :: xs) ρ2 := rfl
theorem uSeq_eq (t u : US) (D : UD) (ρ : Ev) : uSeq t u D ρ = t { D with nx := u D } ρ := rfl
theorem uSet_eq (i : Nat) (t : UE) (D : UD) (ρ : Ev) : uSet i t D ρ = t ρ fun b ρ1 => D.nx (ρ1.set i (some b)) := rfl
/-- a comprehension without a test whose element is reckoned by f -/
theorem uComp_map {js : List Nat} {cap : List (Option Nat)} {last t0 : Nat} {ui : UI} {te : UE} {ρ : Ev} {Q : B → Ev → Prop} (n : Nat) (it : Nat → D) (ρ1 : Ev) (hui : ∀ Q : Nat → (Nat → D) → Ev → Prop, Q n it ρ1 → ui ρ Q) (hn : n ≤ 1000000)
    (G : Option B → List D → Ev) (x0 : Option B) (h0 : capEv (frzL ρ1 js) cap last = G x0 []) (h1 : ∀ x l b, (G x l).set t0 (some b) = G (some b) l) (h1' : ∀ x l, t0 < (G x l).length) (h2 : ∀ x l (Q : List D → Prop), Q l → ownAt (G x l) last Q) (h3 : ∀ x l l', (G x l).set last (some (.ow l')) = G x l')
    (f : Nat → D) (hte : ∀ i l (Q' : B → Ev → Prop), i < n → Q' (.pu (f i)) (G (some (.pu (it i))) l) → te (G (some (.pu (it i))) l) Q') (hq : Q (.ow ((List.range n).map f)) (frzL ρ1 js)) :
    uComp js cap last ui (uName t0) (fun ρ Q => Q true ρ) te ρ Q := by
  refine hui _ ⟨fun i ρ' => ∃ x, ρ' = G x ((List.range i).map f), ⟨x0, h0⟩, ?_, ?_⟩
  · rintro i ρ' hi ⟨x, rfl⟩
    refine ⟨h1' _ _, ?_⟩
    rw [h1]
    dsimp only
    rw [if_pos rfl]
    refine hte i _ _ hi (h2 _ _ _ ⟨?_, some (.pu (it i)), ?_⟩)
    · rw [List.length_map, List.length_range]
      exact Nat.lt_of_lt_of_le hi (Nat.le_trans hn (by decide))
    · rw [h3, List.range_succ, List.map_append]
      rfl
  · rintro ρ' ⟨x, rfl⟩
    exact h2 _ _ _ hq
def rowD (r : List Int) : D := .tup (r.map .int)
def tabD (t : List (List Int)) : D := .tup (t.map rowD)
theorem cut_to (l : List D) (i : Nat) (h : i ≤ l.length) : cutD l none (some (i : Int)) = l.take i := by
  unfold cutD
  rw [HT.sIx_none, HT.sIx_nat, Nat.min_eq_left h]
  simp
theorem cut_from (l : List D) (i : Nat) (h : i ≤ l.length) : cutD l (some (i : Int)) none = l.drop i := by
  unfold cutD
  rw [HT.sIx_none, HT.sIx_nat, Nat.min_eq_left h]
  rw [List.take_of_length_le (by rw [List.length_drop]; exact Nat.le_refl _)]
def φ_p_without : Φ := fun ds Q => ∃ (t : List (List Int)) (i : Nat), ds = [tabD t, .int (i : Int)] ∧ i < t.length ∧ 2 ≤ t.length ∧ t.length ≤ 1000 ∧ (∀ r ∈ t, 1 ≤ r.length) ∧ Q (.pu (tabD ((t.eraseIdx i).map List.tail)))
def tr_p_without : US := (uRet (uCall gTupleOf (uCons (uComp [] [none, none] 1 (uSeqI (uOp gAdd (uSl (uVarV 0) uNoPart (uPart (uVar 1))) (uSl (uVarV 0) (uPart (uOp gAdd (uVar 1) (uC (.int 1)))) uNoPart))) (uName 0) (fun ρ Q => Q true ρ) (uSl (uVarV 0) (uPart (uC (.int 1))) uNoPart)) uNil)))
theorem len_p_without : ∀ ds Q, φ_p_without ds Q → ds.length = 2 := by rintro ds Q ⟨a, b, rfl, _⟩; rfl
theorem rd_p_without : ∀ ds Q, φ_p_without ds Q → tr_p_without { nx := fun _ => Q (.pu .non), rt := Q } (init ["t", "i"] ds) := by
  rintro ds Q ⟨t, i, rfl, hi, h2, h1000, hr, h⟩
  unfold tr_p_without
  show (uRet _ : US) _ [some (.pu (tabD t)), some (.pu (.int (i : Int)))]
  have hl : (t.map rowD).length = t.length := List.length_map _
  have e1 : cutD (t.map rowD) none (some (i : Int)) = (t.take i).map rowD := by rw [cut_to _ _ (by omega), List.map_take]
  have e2 : cutD (t.map rowD) (some ((i : Int) + 1)) none = (t.drop (i + 1)).map rowD := by
    have := cut_from (t.map rowD) (i + 1) (by omega)
    rw [List.map_drop]
    exact_mod_cast this
  have e3 : (t.take i).map rowD ++ (t.drop (i + 1)).map rowD = (t.eraseIdx i).map rowD := by rw [← List.map_append, ← List.eraseIdx_eq_take_drop_succ]
  have le : (t.eraseIdx i).length = t.length - 1 := List.length_eraseIdx_of_lt hi
  rw [uRet_eq, uCall_eq, uCons_eq]
  refine uComp_map (t0 := 0) ((t.eraseIdx i).map rowD).length (fun k => ((t.eraseIdx i).map rowD).getD k .non) [some (.pu (tabD t)), some (.pu (.int (i : Int)))] ?_ (by rw [List.length_map]; omega)
    (fun x l => [x, some (.ow l)]) none rfl (fun _ _ _ => rfl) (fun _ _ => Nat.zero_lt_succ _) (fun _ _ _ q => q) (fun _ _ _ => rfl) (fun k => rowD (((t.eraseIdx i).getD k []).tail)) ?_ ?_
  · intro Q' q
    simp only [uSeqI, tabD]
    walk_at "u"
    refine ⟨?_, ?_, ?_, ?_⟩
    · rw [hl, HT.sIx_none, HT.sIx_nat]; omega
    · rw [hl, HT.sIx_none]
      have : HT.sIx t.length 0 (some ((i : Int) + 1)) = min (i + 1) t.length := by exact_mod_cast HT.sIx_nat t.length 0 (i + 1)
      rw [this]; omega
    · rw [e1, e2, List.length_map, List.length_map, List.length_take, List.length_drop]
      exact Nat.le_trans (show _ ≤ 2000 by omega) (by decide)
    · rw [e1, e2, e3]
      exact q
  · intro k l Q' hk q
    rw [List.length_map] at hk
    have ek : ((t.eraseIdx i).map rowD).getD k .non = rowD ((t.eraseIdx i).getD k []) := by
      rw [List.getD_eq_getElem?_getD, List.getD_eq_getElem?_getD, List.getElem?_map, List.getElem?_eq_getElem hk]; rfl
    have hm : 1 ≤ ((t.eraseIdx i).getD k []).length := by
      rw [List.getD_eq_getElem?_getD, List.getElem?_eq_getElem hk]
      exact hr _ (List.mem_of_mem_eraseIdx (List.getElem_mem hk))
    rw [ek] at q ⊢
    generalize (t.eraseIdx i).getD k [] = r at hm q
    simp only [rowD] at q ⊢
    walk_at "u"
    have lr : (r.map D.int).length = r.length := List.length_map _
    have ec : cutD (r.map D.int) (some 1) none = r.tail.map D.int := by
      have := cut_from (r.map D.int) 1 (by omega)
      rw [show ((1 : Nat) : Int) = 1 from rfl] at this
      rw [this, ← List.map_drop, List.drop_one]
    refine ⟨?_, by rw [ec]; exact q⟩
    rw [lr]
    have : HT.sIx r.length 0 (some 1) = min 1 r.length := HT.sIx_nat r.length 0 1
    rw [this]; omega
  · have em : (List.range ((t.eraseIdx i).map rowD).length).map (fun k => rowD (((t.eraseIdx i).getD k []).tail)) = ((t.eraseIdx i).map List.tail).map rowD := by
      rw [List.length_map]
      apply List.ext_getElem
      · simp
      · intro k h1 h2
        simp at h1
        simp [h1, List.getD_eq_getElem?_getD]
    rw [em]
    exact h
/-- the determinant by the first places -/
def detN : Nat → List (List Int) → Int
  | 0, _ => 0
  | n + 1, t => if t.length = 1 then (t.getD 0 []).getD 0 0 else ((List.range t.length).map fun i => (if i % 2 = 0 then 1 else -1) * (t.getD i []).getD 0 0 * detN n ((t.eraseIdx i).map List.tail)).sum
structure Sq (n : Nat) (t : List (List Int)) : Prop where
  pos : 1 ≤ t.length
  le : t.length ≤ n
  row : ∀ r ∈ t, r.length = t.length
  small : ∀ r ∈ t, ∀ x ∈ r, x.natAbs < 2 ^ 400
def φ_p_det (n : Nat) : Φ := fun ds Q => ∃ t : List (List Int), ds = [tabD t] ∧ Sq n t ∧ Q (.pu (.int (detN n t)))
def tr_p_det (φ_p_det : Φ) : US := (uSeq (uIfS (uTst (uOp (gEqB false) (uLen (uVarV 0)) (uC (.int 1)))) (uRet (uIx (uV (uIx (uVarV 0) (uC (.int 0)))) (uC (.int 0)))) uNext) (uSeq (uSet 1 (uC (.int 0))) (uSeq (uSet 2 (uC (.int 1))) (uSeq (uFor (uRng1 (uCons (uLen (uVarV 0)) uNil)) (uName 3) (uSeq (uAug 1 (gI2 fun i j Q => Q (.pu (.int (i + j)))) (uOp gMul (uOp gMul (uVar 2) (uIx (uV (uIx (uVarV 0) (uVar 3))) (uC (.int 0)))) (uCall φ_p_det (uCons (uCall φ_p_without (uCons (uVar 0) (uCons (uVar 3) uNil))) uNil)))) (uSet 2 (uNeg (uVar 2))))) (uRetV 1)))))
theorem len_p_det (n : Nat) : ∀ ds Q, φ_p_det n ds Q → ds.length = 1 := by rintro ds Q ⟨a, rfl, _⟩; rfl
theorem Sq.less {n : Nat} {t : List (List Int)} {i : Nat} (h : Sq (n + 1) t) (h2 : t.length ≠ 1) (hi : i < t.length) : Sq n ((t.eraseIdx i).map List.tail) := by
  have le : (t.eraseIdx i).length = t.length - 1 := List.length_eraseIdx_of_lt hi
  have hp := h.pos
  have hl := h.le
  refine ⟨by rw [List.length_map]; omega, by rw [List.length_map]; omega, fun r hr => ?_, fun r hr x hx => ?_⟩
  · obtain ⟨r', hr', rfl⟩ := List.mem_map.mp hr
    rw [List.length_map, List.length_tail, h.row r' (List.mem_of_mem_eraseIdx hr'), le]
  · obtain ⟨r', hr', rfl⟩ := List.mem_map.mp hr
    exact h.small r' (List.mem_of_mem_eraseIdx hr') x (List.mem_of_mem_tail hx)
theorem sum_bound (f : Nat → Int) (b : Nat) : ∀ n : Nat, (∀ i, i < n → (f i).natAbs ≤ b) → (((List.range n).map f).sum).natAbs ≤ n * b
  | 0, _ => by simp
  | n + 1, h => by
    rw [List.range_succ, List.map_append, List.sum_append]
    have h1 := sum_bound f b n fun i hi => h i (Nat.lt_succ_of_lt hi)
    have h2 := h n (Nat.lt_succ_self n)
    have h3 : ((List.map f [n]).sum) = f n := by simp
    rw [h3, Nat.succ_mul]
    omega
theorem det_bound : ∀ (n : Nat) (t : List (List Int)), n ≤ 4 → Sq n t → (detN n t).natAbs ≤ 2 ^ (410 * n)
  | 0, t, _, h => by have := h.pos; have := h.le; omega
  | n + 1, t, hn, h => by
    have entry : ∀ i, i < t.length → ((t.getD i []).getD 0 0).natAbs ≤ 2 ^ 400 := fun i hi => by
      have eg : t.getD i [] = t[i] := by rw [List.getD_eq_getElem?_getD, List.getElem?_eq_getElem hi]; rfl
      rw [eg]
      have hr := h.row _ (List.getElem_mem hi)
      have hp := h.pos
      have h0 : 0 < (t[i]).length := by omega
      rw [List.getD_eq_getElem?_getD, List.getElem?_eq_getElem h0]
      exact Nat.le_of_lt (h.small _ (List.getElem_mem hi) _ (List.getElem_mem h0))
    unfold detN
    split
    · have := entry 0 (by have := h.pos; omega)
      exact Nat.le_trans this (Nat.pow_le_pow_right (by decide) (by omega))
    · rename_i h1
      refine Nat.le_trans (sum_bound _ (2 ^ 400 * 2 ^ (410 * n)) _ fun i hi => ?_) ?_
      · rw [Int.natAbs_mul, Int.natAbs_mul]
        have e1 : (if i % 2 = 0 then (1 : Int) else -1).natAbs = 1 := by split <;> rfl
        rw [e1, Nat.one_mul]
        exact Nat.mul_le_mul (entry i hi) (det_bound n _ (by omega) (h.less h1 hi))
      · have hl := h.le
        have e : 2 ^ (410 * (n + 1)) = 2 ^ 10 * (2 ^ 400 * 2 ^ (410 * n)) := by
          rw [← Nat.pow_add, ← Nat.pow_add]; congr 1; omega
        rw [e]
        exact Nat.mul_le_mul_right _ (by omega)
theorem Sm.pow {i : Int} {k : Nat} (h : i.natAbs ≤ 2 ^ k) (hk : k < 9000) : Sm i := Nat.lt_of_le_of_lt h (Nat.pow_lt_pow_right (by decide) hk)
theorem atI_tab {t : List (List Int)} {i : Nat} (h : i < t.length) : atI (t.map rowD) (0 + (i : Int)) = some (rowD (t.getD i [])) := by
  rw [Int.zero_add]
  refine atI_nat ?_
  rw [List.getElem?_map, List.getElem?_eq_getElem h, List.getD_eq_getElem?_getD, List.getElem?_eq_getElem h]; rfl
theorem atI_row0 {r : List Int} (h : 0 < r.length) : atI (r.map D.int) 0 = some (.int (r.getD 0 0)) := by
  refine atI_nat (j := 0) ?_
  rw [List.getElem?_map, List.getElem?_eq_getElem h, List.getD_eq_getElem?_getD, List.getElem?_eq_getElem h]; rfl
theorem rd_p_det (n : Nat) (hn : n < 4) : ∀ ds Q, φ_p_det (n + 1) ds Q → tr_p_det (φ_p_det n) { nx := fun _ => Q (.pu .non), rt := Q } (init ["t", "o", "s", "i"] ds) := by
  rintro ds Q ⟨t, rfl, sq, h⟩
  have hp := sq.pos
  have hle := sq.le
  have lt : (t.map rowD).length = t.length := List.length_map _
  have lrow : ∀ i, i < t.length → 0 < (t.getD i []).length := fun i hi => by
    rw [List.getD_eq_getElem?_getD, List.getElem?_eq_getElem hi]
    have := sq.row _ (List.getElem_mem hi)
    show 0 < (t[i]).length
    omega
  unfold tr_p_det
  show (uSeq _ _ : US) _ [some (.pu (.tup (t.map rowD))), none, none, none]
  walk_at "u"
  rw [lt]
  split
  · rename_i h1
    have h1' : t.length = 1 := by omega
    have := atI_tab (t := t) (i := 0) (by omega)
    rw [show (0 : Int) + ((0 : Nat) : Int) = 0 from rfl] at this
    rw [this]
    simp only [rowD]
    rw [atI_row0 (lrow 0 (by omega))]
    unfold detN at h
    rw [if_pos h1'] at h
    exact h
  · rename_i h1
    have h1' : t.length ≠ 1 := by omega
    unfold detN at h
    rw [if_neg h1'] at h
    refine uFor_intro t.length (fun i => .int (0 + i)) [some (.pu (.tup (t.map rowD))), some (.pu (.int 0)), some (.pu (.int 1)), none] ?_ (fun i ρ => ∃ x, ρ = [some (.pu (.tup (t.map rowD))), some (.pu (.int ((List.range i).map fun i => (if i % 2 = 0 then 1 else -1) * (t.getD i []).getD 0 0 * detN n ((t.eraseIdx i).map List.tail)).sum)), some (.pu (.int (if i % 2 = 0 then 1 else -1))), x]) ?_ ?_ ?_
    · intro Q' q
      simp only [uRng1]
      walk_at "u"
      rw [lt]
      refine ⟨⟨by omega, by omega⟩, ?_⟩
      rw [Int.toNat_natCast]
      exact q
    · exact ⟨none, rfl⟩
    · rintro i ρ hi ⟨x, rfl⟩
      walk_at "u"
      refine ⟨by decide, ?_⟩
      rw [atI_tab hi]
      simp only [rowD]
      rw [atI_row0 (lrow i hi)]
      have sg : Sm (if i % 2 = 0 then (1 : Int) else -1) := by split <;> exact sm64 (by decide) (by decide)
      have eg : t.getD i [] = t[i] := by rw [List.getD_eq_getElem?_getD, List.getElem?_eq_getElem hi]; rfl
      have en : ((t.getD i []).getD 0 0).natAbs ≤ 2 ^ 400 := by
        have h0 := lrow i hi
        rw [eg] at h0 ⊢
        rw [List.getD_eq_getElem?_getD, List.getElem?_eq_getElem h0]
        exact Nat.le_of_lt (sq.small _ (List.getElem_mem hi) _ (List.getElem_mem h0))
      have se : Sm ((t.getD i []).getD 0 0) := Sm.pow en (by decide)
      refine ⟨.inr ⟨sg, se⟩, t, i, by rw [Int.zero_add]; rfl, hi, by omega, by omega, fun r hr => by rw [sq.row r hr]; exact hp, ?_⟩
      refine ⟨_, rfl, sq.less h1' hi, ?_⟩
      have sd : Sm (detN n ((t.eraseIdx i).map List.tail)) := Sm.pow (det_bound n _ (by omega) (sq.less h1' hi)) (by omega)
      have sp : Sm ((if i % 2 = 0 then (1 : Int) else -1) * (t.getD i []).getD 0 0) := by
        refine Sm.pow (k := 400) ?_ (by decide)
        rw [Int.natAbs_mul]
        have e1 : (if i % 2 = 0 then (1 : Int) else -1).natAbs = 1 := by split <;> rfl
        rw [e1, Nat.one_mul]
        exact en
      walk_at "u"
      refine ⟨.inr ⟨sp, sd⟩, some (.pu (.int (0 + (i : Int)))), ?_⟩
      have e2 : -(if i % 2 = 0 then (1 : Int) else -1) = (if (i + 1) % 2 = 0 then 1 else -1) := by
        by_cases q : i % 2 = 0
        · rw [if_pos q, if_neg (by omega)]
        · rw [if_neg q, if_pos (by omega)]; rfl
      rw [e2, List.range_succ, List.map_append, List.sum_append]
      simp
    · rintro ρ ⟨x, rfl⟩
      walk_at "u"
      exact h
/-! Newton's sums -/
def newtonStep (p : List Int) (k : Nat) (sums : List Int) : Int :=
  -(((List.range (min (k - 1) (p.length - 1))).map fun i => p.getD (p.length - 1 - (i + 1)) 0 * sums.getD (k - (i + 1)) 0).sum + (if k ≤ p.length - 1 then (k : Int) * p.getD (p.length - 1 - k) 0 else 0))
def newton (p : List Int) : Nat → List Int
  | 0 => [((p.length - 1 : Nat) : Int)]
  | k + 1 => newton p k ++ [newtonStep p (k + 1) (newton p k)]
theorem newton_len (p : List Int) : ∀ k, (newton p k).length = k + 1
  | 0 => rfl
  | k + 1 => by unfold newton; rw [List.length_append, newton_len p k]; rfl
structure Poly499 (p : List Int) : Prop where
  lo : 3 ≤ p.length
  hi : p.length ≤ 5
  small : ∀ x ∈ p, x.natAbs ≤ 499
theorem getD_bound {l : List Int} {b : Nat} (h : ∀ x ∈ l, x.natAbs ≤ b) (i : Nat) : (l.getD i 0).natAbs ≤ b := by
  rw [List.getD_eq_getElem?_getD]
  cases e : l[i]? with
  | none => exact Nat.zero_le _
  | some x => exact h x (List.mem_of_getElem? e)
theorem newton_bound {p : List Int} (hp : Poly499 p) : ∀ k, k ≤ 6 → ∀ x ∈ newton p k, x.natAbs ≤ 2 ^ (15 * k + 3)
  | 0, _, x, hx => by
    have := hp.hi
    have e : x = ((p.length - 1 : Nat) : Int) := by simpa [newton] using hx
    rw [e, Int.natAbs_natCast]
    have : (2 : Nat) ^ (15 * 0 + 3) = 8 := rfl
    omega
  | k + 1, hk, x, hx => by
    have ih := newton_bound hp k (by omega)
    have ep : (2 : Nat) ^ (15 * (k + 1) + 3) = 32768 * 2 ^ (15 * k + 3) := by
      rw [show 15 * (k + 1) + 3 = 15 + (15 * k + 3) by omega, Nat.pow_add]
    have hb : 8 ≤ 2 ^ (15 * k + 3) := by
      rw [Nat.pow_add]
      have : 1 ≤ 2 ^ (15 * k) := Nat.one_le_two_pow
      omega
    unfold newton at hx
    rcases List.mem_append.mp hx with hx | hx
    · have := ih x hx
      omega
    · have e : x = newtonStep p (k + 1) (newton p k) := by simpa using hx
      rw [e]
      unfold newtonStep
      rw [Int.natAbs_neg]
      have hl := hp.hi
      have s1 := sum_bound (fun i => p.getD (p.length - 1 - (i + 1)) 0 * (newton p k).getD (k + 1 - (i + 1)) 0) (499 * 2 ^ (15 * k + 3)) (min (k + 1 - 1) (p.length - 1)) fun i _ => by
        rw [Int.natAbs_mul]
        exact Nat.mul_le_mul (getD_bound hp.small _) (getD_bound ih _)
      have s2 : (if k + 1 ≤ p.length - 1 then ((k + 1 : Nat) : Int) * p.getD (p.length - 1 - (k + 1)) 0 else 0).natAbs ≤ 4 * 499 := by
        split
        · rw [Int.natAbs_mul, Int.natAbs_natCast]
          exact Nat.mul_le_mul (by omega) (getD_bound hp.small _)
        · exact Nat.zero_le _
      have s3 : min (k + 1 - 1) (p.length - 1) * (499 * 2 ^ (15 * k + 3)) ≤ 4 * (499 * 2 ^ (15 * k + 3)) := Nat.mul_le_mul_right _ (by omega)
      have s4 := Int.natAbs_add_le (((List.range (min (k + 1 - 1) (p.length - 1))).map fun i => p.getD (p.length - 1 - (i + 1)) 0 * (newton p k).getD (k + 1 - (i + 1)) 0).sum) (if k + 1 ≤ p.length - 1 then ((k + 1 : Nat) : Int) * p.getD (p.length - 1 - (k + 1)) 0 else 0)
      omega
def φ_p_root_sums : Φ := fun ds Q => ∃ (p : List Int) (m : Nat), ds = [rowD p, .int (m : Int)] ∧ Poly499 p ∧ 1 ≤ m ∧ m ≤ 7 ∧ Q (.ow ((newton p (m - 1)).map .int))
def tr_p_root_sums : US := (uSeq (uSet 2 (uOp M.gSub (uLen (uVarV 0)) (uC (.int 1)))) (uSeq (uSet 3 (uLst (uCons (uVar 2) uNil))) (uSeq (uFor (uRng2 (uCons (uC (.int 1)) (uCons (uVar 1) uNil))) (uName 4) (uSeq (uSet 5 (uCall gSum (uCons (uComp [2, 4] [none, some 0, some 2, some 3, some 4, none] 5 (uRng2 (uCons (uC (.int 1)) (uCons (uOp gAdd (uCall gMin (uCons (uOp M.gSub (uVar 4) (uC (.int 1))) (uCons (uVar 2) uNil))) (uC (.int 1))) uNil))) (uName 0) (fun ρ Q => Q true ρ) (uOp gMul (uIx (uVarV 1) (uOp M.gSub (uVar 2) (uVar 0))) (uIx (uVarV 3) (uOp M.gSub (uVar 4) (uVar 0))))) uNil))) (uSeq (uIfS (uTst (uOp (gCmp fun i j => decide (i ≤ j)) (uVar 4) (uVar 2))) (uAug 5 (gI2 fun i j Q => Q (.pu (.int (i + j)))) (uOp gMul (uVar 4) (uIx (uVarV 0) (uOp M.gSub (uVar 2) (uVar 4))))) uNext) (uApp 3 (uNeg (uVar 5)))))) (uRetV 3))))
theorem len_p_root_sums : ∀ ds Q, φ_p_root_sums ds Q → ds.length = 2 := by rintro ds Q ⟨a, b, rfl, _⟩; rfl
theorem atI_ints {ns : List Int} {k : Nat} (h : k < ns.length) : atI (ns.map D.int) (k : Int) = some (.int (ns.getD k 0)) := by
  refine atI_nat ?_
  rw [List.getElem?_map, List.getElem?_eq_getElem h, List.getD_eq_getElem?_getD, List.getElem?_eq_getElem h]; rfl
theorem rd_p_root_sums : ∀ ds Q, φ_p_root_sums ds Q → tr_p_root_sums { nx := fun _ => Q (.pu .non), rt := Q } (init ["p", "m", "n", "s", "k", "t"] ds) := by
  rintro ds Q ⟨p, m, rfl, hp, m1, m7, h⟩
  have hlo := hp.lo
  have hhi := hp.hi
  have lp : (p.map D.int).length = p.length := List.length_map _
  unfold tr_p_root_sums
  show (uSeq _ _ : US) _ [some (.pu (.tup (p.map .int))), some (.pu (.int (m : Int))), none, none, none, none]
  rw [uSeq_eq, uSet_eq]
  walk_at "u"
  rw [lp]
  refine ⟨by decide, ?_⟩
  have en : (p.length : Int) - 1 = ((p.length - 1 : Nat) : Int) := by omega
  rw [en]
  refine uFor_intro (m - 1) (fun i => .int (1 + i)) [some (.pu (.tup (p.map .int))), some (.pu (.int (m : Int))), some (.pu (.int ((p.length - 1 : Nat) : Int))), some (.ow ((newton p 0).map .int)), none, none] ?_
    (fun i ρ => ∃ x4 x5, ρ = [some (.pu (.tup (p.map .int))), some (.pu (.int (m : Int))), some (.pu (.int ((p.length - 1 : Nat) : Int))), some (.ow ((newton p i).map .int)), x4, x5]) ⟨none, none, rfl⟩ ?_ ?_
  · intro Q' q
    simp only [uRng2]
    walk_at "u"
    refine ⟨by omega, ?_⟩
    rw [show ((m : Int) - 1).toNat = m - 1 by omega]
    exact q
  · rintro i ρ hi ⟨x4, x5, rfl⟩
    have bn := newton_bound hp i (by omega)
    refine ⟨by show 4 < 6; decide, ?_⟩
    dsimp only [List.set_cons_succ, List.set_cons_zero]
    rw [uSeq_eq, uSet_eq, uCall_eq, uCons_eq]
    refine uComp_map (t0 := 0) (min i (p.length - 1)) (fun j => .int (1 + j)) [some (.pu (.tup (p.map .int))), some (.pu (.int (m : Int))), some (.pu (.int ((p.length - 1 : Nat) : Int))), some (.ow ((newton p i).map .int)), some (.pu (.int (1 + (i : Int)))), x5] ?_ (by omega)
      (fun x l => [x, some (.pu (.tup (p.map .int))), some (.pu (.int ((p.length - 1 : Nat) : Int))), some (.bo ((newton p i).map .int)), some (.pu (.int (1 + (i : Int)))), some (.ow l)]) none rfl (fun _ _ _ => rfl) (fun _ _ => Nat.zero_lt_succ _) (fun _ _ _ q => q) (fun _ _ _ => rfl)
      (fun j => .int (p.getD (p.length - 1 - (j + 1)) 0 * (newton p i).getD (i + 1 - (j + 1)) 0)) ?_ ?_
    · intro Q' q
      simp only [uRng2]
      walk_at "u"
      have e : (if ((p.length - 1 : Nat) : Int) < 1 + (i : Int) - 1 then ((p.length - 1 : Nat) : Int) else 1 + (i : Int) - 1) = ((min i (p.length - 1) : Nat) : Int) := by split <;> omega
      rw [e]
      refine ⟨by omega, ?_⟩
      rw [show (((min i (p.length - 1) : Nat) : Int) + 1 - 1).toNat = min i (p.length - 1) by omega]
      exact q
    · intro j l Q' hj q
      have hj1 : j < i := by omega
      have hj2 : j < p.length - 1 := by omega
      walk_at "u"
      rw [show ((p.length - 1 : Nat) : Int) - (1 + (j : Int)) = ((p.length - 1 - (j + 1) : Nat) : Int) by omega, show 1 + (i : Int) - (1 + (j : Int)) = ((i + 1 - (j + 1) : Nat) : Int) by omega]
      rw [atI_ints (by omega), atI_ints (by rw [newton_len]; omega)]
      exact ⟨.inr ⟨Sm.pow (k := 9) (Nat.le_trans (getD_bound hp.small _) (by decide)) (by decide), Sm.pow (getD_bound bn _) (by omega)⟩, q⟩
    · have es : ((List.range (min i (p.length - 1))).map fun j => D.int (p.getD (p.length - 1 - (j + 1)) 0 * (newton p i).getD (i + 1 - (j + 1)) 0)) = ((List.range (min i (p.length - 1))).map fun j => p.getD (p.length - 1 - (j + 1)) 0 * (newton p i).getD (i + 1 - (j + 1)) 0).map D.int := by
        rw [List.map_map]; rfl
      rw [es]
      generalize hT : ((List.range (min i (p.length - 1))).map fun j => p.getD (p.length - 1 - (j + 1)) 0 * (newton p i).getD (i + 1 - (j + 1)) 0) = T
      walk_at "u"
      rw [intsL_map]
      dsimp only
      have last : ∀ z : Int, z = -(newtonStep p (i + 1) (newton p i)) → (newton p i).map D.int ++ [D.int (-z)] = (newton p (i + 1)).map D.int := fun z hz => by
        rw [hz]
        conv => rhs; unfold newton
        rw [List.map_append]
        simp
      have lz : ((newton p i).map D.int).length < sizeLine := by
        rw [List.length_map, newton_len]
        exact Nat.lt_of_lt_of_le (show _ < 100 by omega) (by decide)
      by_cases hk : i + 1 ≤ p.length - 1
      · rw [if_pos (by omega)]
        rw [show ((p.length - 1 : Nat) : Int) - (1 + (i : Int)) = ((p.length - 1 - (i + 1) : Nat) : Int) by omega, atI_ints (by omega)]
        have hz1 : T.sum + (1 + (i : Int)) * p.getD (p.length - 1 - (i + 1)) 0 = -(newtonStep p (i + 1) (newton p i)) := by
          unfold newtonStep
          rw [Int.neg_neg, if_pos hk, ← hT]
          rw [show i + 1 - 1 = i from rfl, show ((i + 1 : Nat) : Int) = 1 + (i : Int) by omega]
        dsimp only
        rw [last _ hz1]
        exact ⟨.inr ⟨sm64 (by omega) (by omega), Sm.pow (k := 9) (Nat.le_trans (getD_bound hp.small _) (by decide)) (by decide)⟩, lz, _, _, rfl⟩
      · rw [if_neg (by omega)]
        have hz1 : T.sum = -(newtonStep p (i + 1) (newton p i)) := by
          unfold newtonStep
          rw [Int.neg_neg, if_neg hk, ← hT, Int.add_zero]
          rfl
        rw [last _ hz1]
        exact ⟨lz, _, _, rfl⟩
  · rintro ρ ⟨x4, x5, rfl⟩
    walk_at "u"
    exact h
theorem void_p_det : ∀ ds Q, ¬ φ_p_det 0 ds Q := by
  rintro ds Q ⟨t, rfl, sq, _⟩
  have := sq.pos
  have := sq.le
  omega
end M

end
section
set_option Elab.async false
set_option linter.all false
set_option maxRecDepth 100000
open PySem L2 M
namespace M
/-- a comprehension over pairs, whose element is reckoned by f -/
theorem uComp_map2 {js : List Nat} {cap : List (Option Nat)} {last t0 t1 : Nat} {ui : UI} {te : UE} {ρ : Ev} {Q : B → Ev → Prop} (n : Nat) (i1 i2 : Nat → D) (ρ1 : Ev) (hui : ∀ Q : Nat → (Nat → D) → Ev → Prop, Q n (fun i => .tup [i1 i, i2 i]) ρ1 → ui ρ Q) (hn : n ≤ 1000000)
    (G : Option B → Option B → List D → Ev) (x0 y0 : Option B) (h0 : capEv (frzL ρ1 js) cap last = G x0 y0 []) (h1 : ∀ x y l b c, ((G x y l).set t0 (some b)).set t1 (some c) = G (some b) (some c) l) (h1' : ∀ x y l, t0 < (G x y l).length ∧ t1 < (G x y l).length)
    (h2 : ∀ x y l (Q : List D → Prop), Q l → ownAt (G x y l) last Q) (h3 : ∀ x y l l', (G x y l).set last (some (.ow l')) = G x y l')
    (f : Nat → D) (hte : ∀ i l (Q' : B → Ev → Prop), i < n → Q' (.pu (f i)) (G (some (.pu (i1 i))) (some (.pu (i2 i))) l) → te (G (some (.pu (i1 i))) (some (.pu (i2 i))) l) Q') (hq : Q (.ow ((List.range n).map f)) (frzL ρ1 js)) :
    uComp js cap last ui (uTupG (uGCons t0 (uGCons t1 uGNil))) (fun ρ Q => Q true ρ) te ρ Q := by
  refine hui _ ⟨fun i ρ' => ∃ x y, ρ' = G x y ((List.range i).map f), ⟨x0, y0, h0⟩, ?_, ?_⟩
  · rintro i ρ' hi ⟨x, y, rfl⟩
    refine ⟨(h1' _ _ _).1, by rw [List.length_set]; exact (h1' _ _ _).2, rfl, ?_⟩
    rw [h1]
    dsimp only
    rw [if_pos rfl]
    refine hte i _ _ hi (h2 _ _ _ _ ⟨?_, some (.pu (i1 i)), some (.pu (i2 i)), ?_⟩)
    · rw [List.length_map, List.length_range]
      exact Nat.lt_of_lt_of_le hi (Nat.le_trans hn (by decide))
    · rw [h3, List.range_succ, List.map_append]
      rfl
  · rintro ρ' ⟨x, y, rfl⟩
    exact h2 _ _ _ _ hq
/-- a comprehension whose elements are known to hold P -/
theorem uComp_some' {js : List Nat} {cap : List (Option Nat)} {last t0 : Nat} {ui : UI} {te : UE} {ρ : Ev} {Q : B → Ev → Prop} (n : Nat) (it : Nat → D) (ρ1 : Ev) (hui : ∀ Q : Nat → (Nat → D) → Ev → Prop, Q n it ρ1 → ui ρ Q) (hn : n ≤ 1000)
    (G : Option B → List D → Ev) (x0 : Option B) (h0 : capEv (frzL ρ1 js) cap last = G x0 []) (h1 : ∀ x l b, (G x l).set t0 (some b) = G (some b) l) (h1' : ∀ x l, t0 < (G x l).length) (h2 : ∀ x l (Q : List D → Prop), Q l → ownAt (G x l) last Q) (h3 : ∀ x l l', (G x l).set last (some (.ow l')) = G x l')
    (P : D → Prop) (hte : ∀ i l (Q' : B → Ev → Prop), i < n → (∀ d, P d → Q' (.pu d) (G (some (.pu (it i))) l)) → te (G (some (.pu (it i))) l) Q') (hq : ∀ l : List D, l.length = n → (∀ d ∈ l, P d) → Q (.ow l) (frzL ρ1 js)) :
    uComp js cap last ui (uName t0) (fun ρ Q => Q true ρ) te ρ Q := by
  refine hui _ ⟨fun i ρ' => ∃ x l, l.length = i ∧ (∀ d ∈ l, P d) ∧ ρ' = G x l, ⟨x0, [], rfl, by simp, h0⟩, ?_, ?_⟩
  · rintro i ρ' hi ⟨x, l, hl, hP, rfl⟩
    refine ⟨h1' _ _, ?_⟩
    rw [h1]
    dsimp only
    rw [if_pos rfl]
    refine hte i _ _ hi fun d hd => h2 _ _ _ ⟨?_, some (.pu (it i)), l ++ [d], ?_, ?_, ?_⟩
    · exact Nat.lt_of_lt_of_le (by omega) (Nat.le_trans hn (by decide))
    · rw [List.length_append, hl]; rfl
    · intro e he
      rcases List.mem_append.mp he with he | he
      · exact hP e he
      · have : e = d := by simpa using he
        rw [this]; exact hd
    · rw [h3]; rfl
  · rintro ρ' ⟨x, l, hl, hP, rfl⟩
    exact h2 _ _ _ (hq l hl hP)
theorem ints_of' {P : Int → Prop} : ∀ {l : List D}, (∀ d ∈ l, ∃ z, d = .int z ∧ P z) → ∃ zs : List Int, l = zs.map D.int ∧ ∀ z ∈ zs, P z
  | [], _ => ⟨[], rfl, by simp⟩
  | d :: l, h => by
    obtain ⟨z, rfl, hz⟩ := h d (by simp)
    obtain ⟨zs, rfl, hzs⟩ := ints_of' (l := l) fun e he => h e (by simp [he])
    refine ⟨z :: zs, rfl, fun y hy => ?_⟩
    rcases List.mem_cons.mp hy with rfl | hy
    · exact hz
    · exact hzs y hy
theorem cp10' {j : Int} (h1 : 0 ≤ j) (h2 : j ≤ 1000000) : CPow 10 j := ⟨h1, h2, by decide⟩
/-! rows and tables as functions -/
def rwF (n : Nat) (f : Nat → Int) : List Int := (List.range n).map f
theorem rwF_len (n : Nat) (f : Nat → Int) : (rwF n f).length = n := by simp [rwF]
theorem rwF_get {n i : Nat} {f : Nat → Int} (h : i < n) : (rwF n f)[i]? = some (f i) := by simp [rwF, h]
theorem rwF_mlen (n : Nat) (f : Nat → Int) : ((rwF n f).map D.int).length = n := by simp [rwF]
theorem rwF_mget {n i : Nat} {f : Nat → Int} (h : i < n) : ((rwF n f).map D.int)[i]? = some (.int (f i)) := by simp [rwF, h]
theorem rwF_getD {n i : Nat} {f : Nat → Int} (h : i < n) : ((rwF n f).map D.int).getD i .non = .int (f i) := by rw [List.getD_eq_getElem?_getD, rwF_mget h]; rfl
theorem rwF_at {n i : Nat} {f : Nat → Int} (h : i < n) : atI ((rwF n f).map D.int) (i : Int) = some (.int (f i)) := atI_nat (rwF_mget h)
theorem rwF_set {n j : Nat} {f : Nat → Int} {v : Int} (h : j < n) : ((rwF n f).map D.int).set j (.int v) = (rwF n fun x => if x = j then v else f x).map D.int := by
  apply List.ext_getElem?
  intro k
  by_cases hk : k < n
  · rw [rwF_mget hk]
    by_cases e : j = k
    · subst e
      rw [get_set_eq (by rw [rwF_mlen]; exact hk), if_pos rfl]
    · rw [get_set_ne e, rwF_mget hk, if_neg (fun z => e z.symm)]
  · rw [List.getElem?_eq_none (by rw [List.length_set, rwF_mlen]; omega), List.getElem?_eq_none (by rw [rwF_mlen]; omega)]
theorem rwF_congr {n : Nat} {f g : Nat → Int} (h : ∀ i, i < n → f i = g i) : rwF n f = rwF n g := by
  unfold rwF
  apply List.map_congr_left
  intro i hi
  exact h i (List.mem_range.mp hi)
theorem rwF_of (r : List Int) : r = rwF r.length (fun j => r.getD j 0) := by
  apply List.ext_getElem?
  intro k
  by_cases hk : k < r.length
  · rw [rwF_get hk, List.getElem?_eq_getElem hk, List.getD_eq_getElem?_getD, List.getElem?_eq_getElem hk]; rfl
  · rw [List.getElem?_eq_none (by omega), List.getElem?_eq_none (by rw [rwF_len]; omega)]
theorem map_ints (n : Nat) (f : Nat → Int) : (List.range n).map (fun k => D.int (f k)) = (rwF n f).map D.int := by
  unfold rwF
  rw [List.map_map]
  rfl
def tbF (n m : Nat) (t : Nat → Nat → Int) : List D := (List.range n).map fun i => rowD (rwF m (t i))
theorem tbF_len (n m : Nat) (t : Nat → Nat → Int) : (tbF n m t).length = n := by simp [tbF]
theorem tbF_get {n m i : Nat} {t : Nat → Nat → Int} (h : i < n) : (tbF n m t)[i]? = some (rowD (rwF m (t i))) := by simp [tbF, h]
theorem tbF_at {n m i : Nat} {t : Nat → Nat → Int} (h : i < n) : atI (tbF n m t) (i : Int) = some (rowD (rwF m (t i))) := atI_nat (tbF_get h)
theorem tbF_snoc (n m : Nat) (t : Nat → Nat → Int) (f : Nat → Int) : tbF n m t ++ [rowD (rwF m f)] = tbF (n + 1) m (fun i => if i = n then f else t i) := by
  unfold tbF
  rw [List.range_succ, List.map_append]
  congr 1
  · apply List.map_congr_left
    intro i hi
    have := List.mem_range.mp hi
    show _ = rowD (rwF m (if i = n then f else t i))
    rw [if_neg (by omega)]
  · simp
theorem ix_nat {n i : Nat} (h : i < n) : ixN n (i : Int) = some i := by
  unfold ixN
  have h2 : (i : Int) < (n : Int) := by omega
  simp [h, h2]
theorem uTst_eq (t : UE) (ρ : Ev) (Q : Bool → Ev → Prop) : uTst t ρ Q = t ρ (isB Q) := rfl
theorem uOp_eq (g : D → D → (B → Prop) → Prop) (ta tb : UE) (ρ : Ev) (Q : B → Ev → Prop) : uOp g ta tb ρ Q = ta ρ fun x ρ1 => tb ρ1 fun y ρ2 => g x.d y.d fun b => Q b ρ2 := rfl
theorem uIfS_eq (c : UT) (t u : US) (E : UD) (ρ : Ev) : uIfS c t u E ρ = c ρ fun b ρ1 => if b = true then t E ρ1 else u E ρ1 := rfl
theorem uNot_eq (t : UT) (ρ : Ev) (Q : Bool → Ev → Prop) : uNot t ρ Q = t ρ fun c ρ1 => Q (!c) ρ1 := rfl
theorem uVar_pu {ρ : Ev} {i : Nat} {d : D} {Q : B → Ev → Prop} (h : ρ[i]? = some (some (.pu d))) : uVar i ρ Q = Q (.pu d) ρ := by unfold uVar slotE; rw [h]
theorem uVar_ow {ρ : Ev} {i : Nat} {l : List D} {Q : B → Ev → Prop} (h : ρ[i]? = some (some (.ow l))) : uVar i ρ Q = Q (.pu (.lst l)) (ρ.set i (some (.pu (.lst l)))) := by unfold uVar slotE; rw [h]
/-! equality of data -/
theorem pdL_ints : ∀ r : List Int, pdL (r.map D.int) = some (r.map PyData.int)
  | [] => by simp [pdL]
  | a :: r => by simp [pdL, pd, pdL_ints r]
theorem pd_row (r : List Int) : pd (rowD r) = some (.tuple (r.map .int)) := by simp [rowD, pd, pdL_ints]
theorem pd_lst (r : List Int) : pd (.lst (r.map D.int)) = some (.list (r.map .int)) := by simp [pd, pdL_ints]
theorem dep_ints : ∀ r : List Int, PyData.depthAll (r.map PyData.int) = 0
  | [] => by simp [PyData.depthAll]
  | a :: r => by simp [PyData.depthAll, PyData.depth, dep_ints r]
theorem dep_row (r : List Int) : (PyData.tuple (r.map .int)).depth ≤ 60 := by simp [PyData.depth, dep_ints]
theorem dep_lst (r : List Int) : (PyData.list (r.map .int)).depth ≤ 60 := by simp [PyData.depth, dep_ints]
theorem eqv_row (a b : List Int) : (PyData.tuple (a.map .int)).eqv (.tuple (b.map .int)) = decide (a = b) := by simp only [PyData.eqv]; exact PySem.W.ked_eqvAll a b
theorem eqv_lst (a b : List Int) : (PyData.list (a.map .int)).eqv (.list (b.map .int)) = decide (a = b) := by simp only [PyData.eqv]; exact PySem.W.ked_eqvAll a b
theorem gEqD_row {neg : Bool} {a b : List Int} {Q : B → Prop} (h : Q (.pu (.bl (neg ^^ decide (a = b))))) : gEqD neg (rowD a) (rowD b) Q := ⟨_, _, pd_row a, pd_row b, dep_row a, by rw [eqv_row]; exact h⟩
theorem gEqD_lst {neg : Bool} {a b : List Int} {Q : B → Prop} (h : Q (.pu (.bl (neg ^^ decide (a = b))))) : gEqD neg (.lst (a.map .int)) (.lst (b.map .int)) Q := ⟨_, _, pd_lst a, pd_lst b, dep_lst a, by rw [eqv_lst]; exact h⟩
end M

end
section
set_option Elab.async false
set_option linter.all false
set_option maxRecDepth 100000
open PySem L2 M
local macro_rules | `(tactic| walk_at "u") => `(tactic| simp only [uRev, gRev, uSlT, gSlT, uChain, uPop, uRevT, gMulT, gAny, uIsN, D.isN, gMaxL, uLook, uLookE, uAppZ, uSeq, uSet, uRet, uRetN, uRetV, uIfS, uTst, uOp, uC, uVar, slotE, uVarV, slotV, uV, uIx, gIx, uLen, seqOf, uCall, uCons, uNil, uLst, uTup, uApp, ownAt, uNeg, gAdd, M.gSub, gMul, gDiv, gMod, gPow, gI2, gCmp, gEqB, isB, B.d, uAnd, uOr, uNot, uAndV, uOrV, uNotV, uName, uNext, uPar, uAug, uSl, uPart, uNoPart, gSl, gAbs, gMax, gMin, gToInt, gTupleOf, gListOf, gIsi, g1, g2, gInt, uSetI, uIf, gAll, gSum, uDrop, uAsg, uTupG, uGCons, uGNil, uRng1, uRng2, uRngD, uRevR, uZip, uEnum, uSeqI, lend, capEv, frzL, frz1, Option.bind_some, Option.bind_none, Option.map_some, Option.map_none, Option.join,
  List.getElem?_cons_zero, List.getElem?_cons_succ, List.set_cons_zero, List.set_cons_succ, List.length_cons, List.length_nil, decide_eq_true_eq, Bool.false_xor, Bool.true_xor, Bool.not_eq_true', decide_eq_false_iff_not, if_true, if_false, reduceCtorEq])
namespace M
def T_SMALL_PRIMES : List Int := [2, 3, 5, 7, 11, 13, 17, 19, 23, 29, 31, 37, 41, 43, 47, 53, 59, 61, 67, 71, 73, 79, 83, 89, 97, 101, 103, 107, 109, 113, 127, 131, 137, 139, 149, 151, 157, 163, 167, 173, 179, 181, 191, 193, 197, 199]
theorem tp_ok : ∀ p ∈ T_SMALL_PRIMES, 2 ≤ p ∧ p < 200 := by decide +kernel
theorem tp_asc : T_SMALL_PRIMES.Pairwise (fun a b => a < b) := by decide +kernel
theorem tp_len : T_SMALL_PRIMES.length = 46 := rfl
def φ_p_small_primes : Φ := fun ds Q => ds = [] ∧ Q (.ow (T_SMALL_PRIMES.map .int))
def tr_p_small_primes : US := (uRet (uCall gListOf (uCons (uC (.tup (T_SMALL_PRIMES.map .int))) uNil)))
theorem len_p_small_primes : ∀ ds Q, φ_p_small_primes ds Q → ds.length = 0 := by rintro ds Q ⟨rfl, _⟩; rfl
theorem rd_p_small_primes : ∀ ds Q, φ_p_small_primes ds Q → tr_p_small_primes { nx := fun _ => Q (.pu .non), rt := Q } (init [] ds) := by
  rintro ds Q ⟨rfl, h⟩
  unfold tr_p_small_primes
  show (uRet _ : US) _ []
  walk_at "u"
  exact h
/-! divided_out -/
def φ_p_divided_out : Φ := fun ds Q => ∃ m p : Int, ds = [.int m, .int p] ∧ 1 ≤ m ∧ 2 ≤ p ∧ p < 200 ∧ ∀ (o : Nat) (r : Int), m = p ^ o * r → 1 ≤ r → r % p ≠ 0 → Q (.pu (.tup [.int (o : Int), .int r]))
def tr_p_divided_out : US := (uSeq (uSet 2 (uC (.int 0))) (uSeq (uSet 3 (uVar 0)) (uSeq (uWhile (uTst (uOp (gEqB false) (uOp gMod (uVar 3) (uVar 1)) (uC (.int 0)))) (uSeq (uSet 3 (uOp gDiv (uVar 3) (uVar 1))) (uAug 2 (gI2 fun i j Q => Q (.pu (.int (i + j)))) (uC (.int 1))))) (uRet (uTup (uCons (uVar 2) (uCons (uVar 3) uNil)))))))
theorem len_p_divided_out : ∀ ds Q, φ_p_divided_out ds Q → ds.length = 2 := by rintro ds Q ⟨m, p, rfl, _⟩; rfl
theorem rd_p_divided_out : ∀ ds Q, φ_p_divided_out ds Q → tr_p_divided_out { nx := fun _ => Q (.pu .non), rt := Q } (init ["m", "p", "o", "r"] ds) := by
  rintro ds Q ⟨m, p, rfl, m1, p2, p3, h⟩
  unfold tr_p_divided_out
  show (uSeq _ _ : US) _ [some (.pu (.int m)), some (.pu (.int p)), none, none]
  walk_at "u"
  refine ⟨fun n ρ => ∃ (o : Nat) (r : Int), ρ = [some (.pu (.int m)), some (.pu (.int p)), some (.pu (.int (o : Int))), some (.pu (.int r))] ∧ n = r.natAbs ∧ m = p ^ o * r ∧ 1 ≤ r, ⟨_, 0, m, rfl, rfl, by rw [Int.pow_zero, Int.one_mul], m1⟩, ?_⟩
  rintro n ρ ⟨o, r, rfl, rfl, e, r1⟩
  walk_at "u"
  refine ⟨by omega, ?_⟩
  rw [fmod_pos _ (by omega)]
  by_cases c : r % p = 0
  · rw [if_pos c]
    refine ⟨⟨by omega, sm64 (by omega) (by omega)⟩, ?_⟩
    rw [fdiv_pos _ (by omega)]
    obtain ⟨q, rfl⟩ := Int.dvd_of_emod_eq_zero c
    rw [Int.mul_ediv_cancel_left _ (by omega)]
    have q1 : 1 ≤ q := by
      refine Decidable.byContradiction fun z => ?_
      have : p * q ≤ 0 := Int.mul_nonpos_of_nonneg_of_nonpos (by omega) (by omega)
      omega
    refine ⟨q.natAbs, ?_, o + 1, q, by rw [Int.natCast_succ], rfl, by rw [e, Int.pow_succ, Int.mul_assoc], q1⟩
    have : 2 * q ≤ p * q := Int.mul_le_mul_of_nonneg_right p2 (by omega)
    omega
  · rw [if_neg c]
    refine ⟨by decide, h o r e r1 c⟩
/-! parted -/
def pairD (x : Int × Nat) : D := .tup [.int x.1, .int (x.2 : Int)]
def prodL : List (Int × Nat) → Int
  | [] => 1
  | x :: l => x.1 ^ x.2 * prodL l
theorem prodL_append : ∀ a b, prodL (a ++ b) = prodL a * prodL b
  | [], b => by rw [List.nil_append]; show _ = 1 * _; rw [Int.one_mul]
  | x :: a, b => by
    show x.1 ^ x.2 * prodL (a ++ b) = x.1 ^ x.2 * prodL a * prodL b
    rw [prodL_append a b, Int.mul_assoc]
theorem pow_one_le {p : Int} (h : 1 ≤ p) : ∀ o : Nat, 1 ≤ p ^ o
  | 0 => by rw [Int.pow_zero]; exact Int.le_refl _
  | o + 1 => by
    rw [Int.pow_succ]
    have := pow_one_le h o
    have := Int.mul_le_mul this h (by omega) (by omega)
    omega
theorem prodL_one : ∀ l : List (Int × Nat), (∀ x ∈ l, 1 ≤ x.1) → 1 ≤ prodL l
  | [], _ => Int.le_refl _
  | x :: l, h => by
    show 1 ≤ x.1 ^ x.2 * prodL l
    have h1 := pow_one_le (h x (.head _)) x.2
    have h2 := prodL_one l fun y hy => h y (.tail _ hy)
    have := Int.mul_le_mul h1 h2 (by omega) (by omega)
    omega
theorem prodL_mem : ∀ (l : List (Int × Nat)) (x : Int × Nat), (∀ x ∈ l, 1 ≤ x.1) → x ∈ l → x.1 ^ x.2 ≤ prodL l
  | y :: l, x, h, hx => by
    show _ ≤ y.1 ^ y.2 * prodL l
    have h1 := pow_one_le (h y (.head _)) y.2
    have h2 := prodL_one l fun y hy => h y (.tail _ hy)
    rcases List.mem_cons.mp hx with rfl | hx
    · have := Int.mul_le_mul_of_nonneg_left h2 (show 0 ≤ x.1 ^ x.2 by omega)
      omega
    · have h3 := prodL_mem l x (fun y hy => h y (.tail _ hy)) hx
      have := Int.mul_le_mul_of_nonneg_right h1 (show 0 ≤ prodL l by omega)
      omega
structure PtK (m : Int) (k : Nat) (l : List (Int × Nat)) (r : Int) : Prop where
  prod : prodL l * r = m
  pos : 1 ≤ r
  asc : l.Pairwise fun a b => a.1 < b.1
  mem : ∀ x ∈ l, x.1 ∈ T_SMALL_PRIMES.take k ∧ 1 ≤ x.2
  nd : ∀ p ∈ T_SMALL_PRIMES.take k, r % p ≠ 0
  len : l.length ≤ k
def φ_p_parted : Φ := fun ds Q => ∃ m : Int, ds = [.int m] ∧ 1 ≤ m ∧ ∀ l r, PtK m 46 l r → Q (.pu (.tup [.lst (l.map pairD), .int r]))
def tr_p_parted3 : US := (uRet (uTup (uCons (uVar 1) (uCons (uVar 2) uNil))))
def tr_p_parted2 : US := (uSeq (uFor (uSeqI (uC (.tup (T_SMALL_PRIMES.map .int)))) (uName 3) (uSeq (uAsg (uCall φ_p_divided_out (uCons (uVar 2) (uCons (uVar 3) uNil))) (uTupG (uGCons 4 (uGCons 2 uGNil)))) (uIfS (uTst (uOp (gCmp fun i j => decide (j < i)) (uVar 4) (uC (.int 0)))) (uApp 1 (uTup (uCons (uVar 3) (uCons (uVar 4) uNil)))) uNext))) tr_p_parted3)
def tr_p_parted1 : US := (uSeq (uSet 2 (uVar 0)) tr_p_parted2)
def tr_p_parted : US := (uSeq (uSet 1 (uLst uNil)) tr_p_parted1)
theorem len_p_parted : ∀ ds Q, φ_p_parted ds Q → ds.length = 1 := by rintro ds Q ⟨m, rfl, _⟩; rfl
theorem tp_take {k : Nat} (h : k < 46) : ∃ p, T_SMALL_PRIMES[k]? = some p ∧ 2 ≤ p ∧ p < 200 ∧ T_SMALL_PRIMES.take (k + 1) = T_SMALL_PRIMES.take k ++ [p] ∧ ∀ x ∈ T_SMALL_PRIMES.take k, x < p := by
  have hk : k < T_SMALL_PRIMES.length := by rw [tp_len]; exact h
  obtain ⟨a, b⟩ := tp_ok _ (List.getElem_mem hk)
  refine ⟨_, List.getElem?_eq_getElem hk, a, b, by rw [List.take_succ, List.getElem?_eq_getElem hk]; rfl, fun x hx => ?_⟩
  obtain ⟨i, hi, rfl⟩ := List.mem_iff_getElem.mp hx
  rw [List.length_take] at hi
  rw [List.getElem_take]
  exact List.pairwise_iff_getElem.mp tp_asc i k (by omega) hk (by omega)
theorem PtK.step {m : Int} {k : Nat} {l : List (Int × Nat)} {r p r' : Int} {o : Nat} (h : PtK m k l r) (p2 : 2 ≤ p) (ht : T_SMALL_PRIMES.take (k + 1) = T_SMALL_PRIMES.take k ++ [p]) (lt : ∀ x ∈ T_SMALL_PRIMES.take k, x < p) (e : r = p ^ o * r') (r1 : 1 ≤ r') (nd : r' % p ≠ 0) :
    PtK m (k + 1) (if 0 < o then l ++ [(p, o)] else l) r' := by
  have ndq : ∀ q ∈ T_SMALL_PRIMES.take (k + 1), r' % q ≠ 0 := by
    intro q hq z
    rw [ht] at hq
    rcases List.mem_append.mp hq with hq | hq
    · refine h.nd q hq ?_
      rw [e]
      exact Int.emod_eq_zero_of_dvd (Int.dvd_trans (Int.dvd_of_emod_eq_zero z) (Int.dvd_mul_left _ _))
    · rw [List.mem_singleton.mp hq] at z
      exact nd z
  have sub : ∀ x, x ∈ T_SMALL_PRIMES.take k → x ∈ T_SMALL_PRIMES.take (k + 1) := fun x hx => by rw [ht]; exact List.mem_append_left _ hx
  by_cases c : 0 < o
  · rw [if_pos c]
    refine ⟨?_, r1, ?_, ?_, ndq, ?_⟩
    · rw [prodL_append]
      show prodL l * (p ^ o * 1) * r' = m
      rw [Int.mul_one, Int.mul_assoc, ← e]
      exact h.prod
    · rw [List.pairwise_append]
      refine ⟨h.asc, List.pairwise_singleton _ _, fun a ha b hb => ?_⟩
      rw [List.mem_singleton.mp hb]
      exact lt _ (h.mem a ha).1
    · intro x hx
      rcases List.mem_append.mp hx with hx | hx
      · exact ⟨sub _ (h.mem x hx).1, (h.mem x hx).2⟩
      · rw [List.mem_singleton.mp hx]
        exact ⟨by rw [ht]; exact List.mem_append_right _ (List.mem_singleton.mpr rfl), c⟩
    · rw [List.length_append]
      exact Nat.succ_le_succ h.len
  · rw [if_neg c]
    have o0 : o = 0 := by omega
    subst o0
    rw [Int.pow_zero, Int.one_mul] at e
    subst e
    exact ⟨h.prod, h.pos, h.asc, fun x hx => ⟨sub _ (h.mem x hx).1, (h.mem x hx).2⟩, ndq, Nat.le_succ_of_le h.len⟩
theorem rd_p_parted : ∀ ds Q, φ_p_parted ds Q → tr_p_parted { nx := fun _ => Q (.pu .non), rt := Q } (init ["m", "l", "r", "p", "o"] ds) := by
  rintro ds Q ⟨m, rfl, m1, h⟩
  unfold tr_p_parted
  show (uSeq _ _ : US) _ [some (.pu (.int m)), none, none, none, none]
  rw [uSeq_eq]
  walk_at "u"
  refine ⟨by decide, ?_⟩
  unfold tr_p_parted1
  rw [uSeq_eq]
  walk_at "u"
  unfold tr_p_parted2
  rw [uSeq_eq]
  refine uFor_intro 46 (fun i => (T_SMALL_PRIMES.map D.int).getD i .non) [some (.pu (.int m)), some (.ow []), some (.pu (.int m)), none, none] ?_
    (fun i ρ => ∃ (l : List (Int × Nat)) (r : Int) (x y : Option B), ρ = [some (.pu (.int m)), some (.ow (l.map pairD)), some (.pu (.int r)), x, y] ∧ PtK m i l r)
    ⟨[], m, none, none, rfl, by show 1 * m = m; rw [Int.one_mul], m1, .nil, (by simp), (by simp), Nat.le_refl _⟩ ?_ ?_
  · intro Q' q
    walk_at "u"
    exact q
  · rintro i ρ hi ⟨l, r, x, y, rfl, pt⟩
    obtain ⟨p, e1, p2, p3, e2, lt⟩ := tp_take hi
    have e3 : (T_SMALL_PRIMES.map D.int).getD i .non = .int p := by
      rw [List.getD_eq_getElem?_getD, List.getElem?_map, e1]
      rfl
    rw [e3]
    walk_at "u"
    refine ⟨by decide, r, p, rfl, pt.pos, p2, p3, fun o r' e r1 nd => ?_⟩
    have st := pt.step p2 e2 lt e r1 nd
    walk_at "u"
    refine ⟨by decide, by decide, trivial, ?_⟩
    by_cases c : (0 : Int) < (o : Int)
    · rw [if_pos c]
      rw [if_pos (show 0 < o by omega)] at st
      refine ⟨by decide, ?_, l ++ [(p, o)], r', _, _, by rw [List.map_append]; rfl, st⟩
      rw [List.length_map]
      exact Nat.lt_of_le_of_lt pt.len (Nat.lt_of_lt_of_le hi (by decide))
    · rw [if_neg c]
      rw [if_neg (show ¬ 0 < o by omega)] at st
      exact ⟨l, r', _, _, rfl, st⟩
  · rintro ρ ⟨l, r, x, y, rfl, pt⟩
    dsimp only
    unfold tr_p_parted3
    walk_at "u"
    exact ⟨by decide, h l r pt⟩
/-! the law's own defs -/
theorem uComp_filter {js : List Nat} {cap : List (Option Nat)} {last t0 : Nat} {ui : UI} {tt : UT} {te : UE} {ρ : Ev} {Q : B → Ev → Prop} (n : Nat) (it : Nat → D) (ρ1 : Ev) (hui : ∀ Q : Nat → (Nat → D) → Ev → Prop, Q n it ρ1 → ui ρ Q) (hn : n ≤ 1000)
    (G : Option B → List D → Ev) (x0 : Option B) (h0 : capEv (frzL ρ1 js) cap last = G x0 []) (h1 : ∀ x l b, (G x l).set t0 (some b) = G (some b) l) (h1' : ∀ x l, t0 < (G x l).length) (h2 : ∀ x l (Q : List D → Prop), Q l → ownAt (G x l) last Q) (h3 : ∀ x l l', (G x l).set last (some (.ow l')) = G x l')
    (c : Nat → Bool) (f : Nat → D) (htt : ∀ i l (Q' : Bool → Ev → Prop), i < n → Q' (c i) (G (some (.pu (it i))) l) → tt (G (some (.pu (it i))) l) Q')
    (hte : ∀ i l (Q' : B → Ev → Prop), i < n → Q' (.pu (f i)) (G (some (.pu (it i))) l) → te (G (some (.pu (it i))) l) Q') (hq : Q (.ow (((List.range n).filter c).map f)) (frzL ρ1 js)) :
    uComp js cap last ui (uName t0) tt te ρ Q := by
  refine hui _ ⟨fun i ρ' => ∃ x, ρ' = G x (((List.range i).filter c).map f), ⟨x0, h0⟩, ?_, ?_⟩
  · rintro i ρ' hi ⟨x, rfl⟩
    refine ⟨h1' _ _, ?_⟩
    rw [h1]
    dsimp only
    refine htt i _ _ hi ?_
    by_cases hc : c i = true
    · rw [if_pos hc]
      refine hte i _ _ hi (h2 _ _ _ ⟨?_, some (.pu (it i)), ?_⟩)
      · rw [List.length_map]
        exact Nat.lt_of_le_of_lt (List.length_filter_le ..) (by rw [List.length_range]; exact Nat.lt_of_lt_of_le hi (Nat.le_trans hn (by decide)))
      · rw [h3, List.range_succ, List.filter_append, List.map_append]
        simp [hc]
        rfl
    · rw [if_neg hc]
      refine ⟨some (.pu (it i)), ?_⟩
      rw [List.range_succ, List.filter_append, List.map_append]
      simp [hc]
  · rintro ρ' ⟨x, rfl⟩
    exact h2 _ _ _ hq
theorem atI_in {ns : List Int} {k : Int} (h0 : 0 ≤ k) (h1 : k < ns.length) : ∃ z ∈ ns, atI (ns.map D.int) k = some (.int z) := by
  obtain ⟨i, rfl⟩ : ∃ i : Nat, k = (i : Int) := ⟨k.toNat, by omega⟩
  have hi : i < ns.length := by omega
  exact ⟨ns[i], List.getElem_mem hi, atI_nat (by rw [List.getElem?_map, List.getElem?_eq_getElem hi]; rfl)⟩
def prB (i k : Nat) : Bool := if (2 : Int) + (i : Int) = 2 + (k : Int) then true else !decide (((2 : Int) + (i : Int)) % (2 + (k : Int)) = 0)
def prC (i : Nat) : Bool := ((List.range 13).map (prB i)).all id
def prL : List Int := ((List.range 198).filter prC).map fun i : Nat => (2 : Int) + (i : Int)
theorem prL_eq : prL = T_SMALL_PRIMES := by decide +kernel
def φ_primes : Φ := fun ds Q => ds = [] ∧ Q (.ow (T_SMALL_PRIMES.map .int))
def tr_primes : US := (uRet (uComp [] [none, none] 1 (uRng2 (uCons (uC (.int 2)) (uCons (uC (.int 200)) uNil))) (uName 0) (uTst (uCall gAll (uCons (uComp [0] [none, some 0, none] 2 (uRng2 (uCons (uC (.int 2)) (uCons (uC (.int 15)) uNil))) (uName 0) (fun ρ Q => Q true ρ) (uOrV (uOp (gEqB false) (uVar 1) (uVar 0)) (uOp (gEqB true) (uOp gMod (uVar 1) (uVar 0)) (uC (.int 0))))) uNil))) (uVar 0)))
theorem len_primes : ∀ ds Q, φ_primes ds Q → ds.length = 0 := by rintro ds Q ⟨rfl, _⟩; rfl
theorem rd_primes : ∀ ds Q, φ_primes ds Q → tr_primes { nx := fun _ => Q (.pu .non), rt := Q } (init [] ds) := by
  rintro ds Q ⟨rfl, h⟩
  unfold tr_primes
  show (uRet _ : US) _ []
  rw [uRet_eq]
  refine uComp_filter (t0 := 0) 198 (fun k => .int (2 + (k : Int))) [] ?_ (by decide) (fun x l => [x, some (.ow l)]) none rfl (fun _ _ _ => rfl) (fun _ _ => Nat.zero_lt_succ _) (fun _ _ _ q => q) (fun _ _ _ => rfl) prC (fun i => .int (2 + (i : Int))) ?_ ?_ ?_
  · intro Q' q
    walk_at "u"
    exact ⟨by decide, q⟩
  · intro i l Q' hi q
    show (uCall gAll (uCons _ uNil)) _ _
    rw [uCall_eq, uCons_eq]
    refine uComp_map (t0 := 0) 13 (fun k => .int (2 + (k : Int))) [some (.pu (.int (2 + (i : Int)))), some (.ow l)] ?_ (by decide) (fun x l' => [x, some (.pu (.int (2 + (i : Int)))), some (.ow l')]) none rfl (fun _ _ _ => rfl) (fun _ _ => Nat.zero_lt_succ _) (fun _ _ _ q => q) (fun _ _ _ => rfl) (fun k => .bl (prB i k)) ?_ ?_
    · intro Q'' q'
      walk_at "u"
      exact ⟨by decide, q'⟩
    · intro k l' Q'' hk q'
      walk_at "u"
      unfold prB at q'
      by_cases c : (2 : Int) + (i : Int) = 2 + (k : Int)
      · rw [if_pos c] at q' ⊢
        exact q'
      · rw [if_neg c] at q' ⊢
        refine ⟨by omega, ?_⟩
        rw [fmod_pos _ (by omega)]
        exact q'
    · have e : (List.range 13).map (fun k => D.bl (prB i k)) = ((List.range 13).map (prB i)).map D.bl := by rw [List.map_map]; rfl
      rw [e]
      walk_at "u"
      rw [boolsL_map]
      exact q
  · intro i l Q' hi q
    walk_at "u"
    exact q
  · have e : ((List.range 198).filter prC).map (fun i : Nat => D.int (2 + (i : Int))) = prL.map .int := by unfold prL; rw [List.map_map]; rfl
    rw [e, prL_eq]
    exact h
def φ_row : Φ := fun ds Q => ∃ (r : List Int), ds = [rowD r, .int (r.length : Int)] ∧ r.length ≤ 1000 ∧ Q (.pu (.bl true))
def tr_row : US := (uSeq (uIfS (uOr (uNot (uTst (uCall gIsi (uCons (uVar 0) (uCons (uC (.ty "tuple")) uNil))))) (uTst (uOp (gEqB true) (uLen (uVarV 0)) (uVar 1)))) (uRet (uC (.bl false))) uNext) (uRet (uCall gAll (uCons (uComp [] [none, none] 1 (uSeqI (uVar 0)) (uName 0) (fun ρ Q => Q true ρ) (uCall φ_whole (uCons (uVar 0) uNil))) uNil))))
theorem len_row : ∀ ds Q, φ_row ds Q → ds.length = 2 := by rintro ds Q ⟨r, rfl, _⟩; rfl
theorem rd_row : ∀ ds Q, φ_row ds Q → tr_row { nx := fun _ => Q (.pu .non), rt := Q } (init ["f", "m"] ds) := by
  rintro ds Q ⟨r, rfl, hl, h⟩
  unfold tr_row
  simp only [rowD]
  show (uSeq _ _ : US) _ [some (.pu (.tup (r.map .int))), some (.pu (.int (r.length : Int)))]
  rw [uSeq_eq]
  have two : (uRet (uCall gAll (uCons (uComp [] [none, none] 1 (uSeqI (uVar 0)) (uName 0) (fun ρ Q => Q true ρ) (uCall φ_whole (uCons (uVar 0) uNil))) uNil)) : US) { nx := fun _ => Q (.pu .non), rt := Q } [some (.pu (.tup (r.map .int))), some (.pu (.int (r.length : Int)))] := by
    rw [uRet_eq, uCall_eq, uCons_eq]
    refine uComp_map (t0 := 0) r.length (fun k => (r.map D.int).getD k .non) [some (.pu (.tup (r.map .int))), some (.pu (.int (r.length : Int)))] ?_ (by omega) (fun x l => [x, some (.ow l)]) none rfl (fun _ _ _ => rfl) (fun _ _ => Nat.zero_lt_succ _) (fun _ _ _ q => q) (fun _ _ _ => rfl) (fun _ => .bl true) ?_ ?_
    · intro Q' q
      walk_at "u"
      rw [List.length_map]
      exact q
    · intro k l Q' hk q
      obtain ⟨z, hz⟩ := getD_map (ys := r) (i := k) (by rw [List.length_map]; exact hk)
      rw [hz] at q ⊢
      walk_at "u"
      exact ⟨z, rfl, q⟩
    · walk_at "u"
      have e : (List.range r.length).map (fun _ => D.bl true) = (List.replicate r.length true).map D.bl := by apply List.ext_getElem <;> simp
      rw [e, boolsL_map]
      dsimp only
      have e2 : (List.replicate r.length true).all id = true := by simp
      rw [e2]
      exact h
  walk_at "u"
  simp only [List.length_map, Bool.not_true, decide_true, Bool.false_eq_true, if_false]
  exact two
theorem at0 {a b : D} : atI [a, b] 0 = some a := atI_nat (j := 0) rfl
theorem at1 {a b : D} : atI [a, b] 1 = some b := atI_nat (j := 1) rfl
end M

end
section
set_option Elab.async false
set_option linter.all false
set_option maxRecDepth 100000
open PySem L2 M
local macro_rules | `(tactic| walk_at "u") => `(tactic| simp only [uRev, gRev, uSlT, gSlT, uChain, uPop, uRevT, gMulT, gAny, uIsN, D.isN, gMaxL, uLook, at0, at1, Bool.not_true, Bool.not_false, decide_true, Bool.false_eq_true, uLookE, uAppZ, uSeq, uSet, uRet, uRetN, uRetV, uIfS, uTst, uOp, uC, uVar, slotE, uVarV, slotV, uV, uIx, gIx, uLen, seqOf, uCall, uCons, uNil, uLst, uTup, uApp, ownAt, uNeg, gAdd, M.gSub, gMul, gDiv, gMod, gPow, gI2, gCmp, gEqB, isB, B.d, uAnd, uOr, uNot, uAndV, uOrV, uNotV, uName, uNext, uPar, uAug, uSl, uPart, uNoPart, gSl, gAbs, gMax, gMin, gToInt, gTupleOf, gListOf, gIsi, g1, g2, gInt, uSetI, uIf, gAll, gSum, uDrop, uAsg, uTupG, uGCons, uGNil, uRng1, uRng2, uRngD, uRevR, uZip, uEnum, uSeqI, lend, capEv, frzL, frz1, Option.bind_some, Option.bind_none, Option.map_some, Option.map_none, Option.join,
  List.getElem?_cons_zero, List.getElem?_cons_succ, List.set_cons_zero, List.set_cons_succ, List.length_cons, List.length_nil, decide_eq_true_eq, Bool.false_xor, Bool.true_xor, Bool.not_eq_true', decide_eq_false_iff_not, if_true, if_false, reduceCtorEq])
namespace M
def φ_right : Φ := fun ds Q => ∃ (l : List (Int × Nat)) (r m : Int), ds = [.tup [.lst (l.map pairD), .int r], .int m, .lst (T_SMALL_PRIMES.map .int)] ∧ PtK m 46 l r ∧ m < 2 ^ 2000 ∧ Q (.pu (.bl true))
def tr_right5 : US := (uRet (uAndV (uOp (gEqB false) (uVar 3) (uVar 1)) (uCall gAll (uCons (uComp [] [none, some 0, none] 2 (uSeqI (uVar 2)) (uName 0) (fun ρ Q => Q true ρ) (uOp (gEqB true) (uOp gMod (uIx (uVarV 1) (uC (.int 1))) (uVar 0)) (uC (.int 0)))) uNil))))
def tr_right4 : US := (uSeq (uFor (uSeqI (uIx (uVarV 0) (uC (.int 0)))) (uName 5) (uSeq (uIfS (uOr (uNot (uTst (uCall φ_row (uCons (uVar 5) (uCons (uC (.int 2)) uNil))))) (uOr (uTst (uOp (gCmp fun i j => decide (i ≤ j)) (uIx (uVarV 5) (uC (.int 0))) (uVar 4))) (uTst (uOp (gIn true) (uIx (uVarV 5) (uC (.int 0))) (uVar 2))))) (uRet (uC (.bl false))) uNext) (uSeq (uIfS (uOr (uTst (uOp (gCmp fun i j => decide (i < j)) (uIx (uVarV 5) (uC (.int 1))) (uC (.int 1)))) (uTst (uOp (gCmp fun i j => decide (j < i)) (uIx (uVarV 5) (uC (.int 1))) (uC (.int 2000))))) (uRet (uC (.bl false))) uNext) (uSeq (uSet 4 (uIx (uVarV 5) (uC (.int 0)))) (uFor (uRng1 (uCons (uIx (uVarV 5) (uC (.int 1))) uNil)) (uName 6) (uSet 3 (uOp gMul (uVar 3) (uIx (uVarV 5) (uC (.int 0)))))))))) tr_right5)
def tr_right3 : US := (uSeq (uSet 4 (uC (.int 1))) tr_right4)
def tr_right2 : US := (uSeq (uSet 3 (uIx (uVarV 0) (uC (.int 1)))) tr_right3)
def tr_right1 : US := (uSeq (uIfS (uOr (uNot (uTst (uCall gIsi (uCons (uIx (uVarV 0) (uC (.int 0))) (uCons (uC (.ty "list")) uNil))))) (uOr (uNot (uTst (uCall φ_whole (uCons (uIx (uVarV 0) (uC (.int 1))) uNil)))) (uTst (uOp (gCmp fun i j => decide (i < j)) (uIx (uVarV 0) (uC (.int 1))) (uC (.int 1)))))) (uRet (uC (.bl false))) uNext) tr_right2)
def tr_right : US := (uSeq (uIfS (uOr (uNot (uTst (uCall gIsi (uCons (uVar 0) (uCons (uC (.ty "tuple")) uNil))))) (uTst (uOp (gEqB true) (uLen (uVarV 0)) (uC (.int 2))))) (uRet (uC (.bl false))) uNext) tr_right1)
theorem len_right : ∀ ds Q, φ_right ds Q → ds.length = 3 := by rintro ds Q ⟨l, r, m, rfl, _⟩; rfl
theorem PtK.often {m : Int} {l : List (Int × Nat)} {r : Int} (h : PtK m 46 l r) (hm : m < 2 ^ 2000) (x : Int × Nat) (hx : x ∈ l) : x.2 ≤ 2000 := by
  have one : ∀ y ∈ l, 1 ≤ y.1 := fun y hy => by
    have := tp_ok _ (List.mem_of_mem_take (h.mem y hy).1)
    omega
  have h1 := prodL_mem l x one hx
  have h2 := prodL_one l one
  have h3 : prodL l ≤ m := by
    rw [← h.prod]
    have := Int.mul_le_mul_of_nonneg_left h.pos (show 0 ≤ prodL l by omega)
    omega
  have p2 := (tp_ok _ (List.mem_of_mem_take (h.mem x hx).1)).1
  refine Decidable.byContradiction fun z => ?_
  obtain ⟨q, hq⟩ : ∃ q : Nat, x.1 = (q : Int) := ⟨x.1.toNat, by omega⟩
  rw [hq] at h1 p2
  have h4 : 2 ^ 2000 ≤ q ^ x.2 := Nat.le_trans (Nat.pow_le_pow_right (by decide) (show 2000 ≤ x.2 by omega)) (Nat.pow_le_pow_left (show 2 ≤ q by omega) _)
  have h5 : ((2 ^ 2000 : Nat) : Int) ≤ ((q ^ x.2 : Nat) : Int) := Int.ofNat_le.mpr h4
  rw [Int.natCast_pow, Int.natCast_pow] at h5
  exact absurd (Int.le_trans h5 (Int.le_trans h1 h3)) (Int.not_le.mpr hm)
theorem rd_right : ∀ ds Q, φ_right ds Q → tr_right { nx := fun _ => Q (.pu .non), rt := Q } (init ["f", "m", "p", "a", "l", "r", "g"] ds) := by
  rintro ds Q ⟨l, r, m, rfl, pt, hm, h⟩
  unfold tr_right
  show (uSeq _ _ : US) _ [some (.pu (.tup [.lst (l.map pairD), .int r])), some (.pu (.int m)), some (.pu (.lst (T_SMALL_PRIMES.map .int))), none, none, none, none]
  rw [uSeq_eq]
  walk_at "u"
  rw [if_neg (by decide)]
  unfold tr_right1
  rw [uSeq_eq]
  walk_at "u"
  refine ⟨r, rfl, ?_⟩
  walk_at "u"
  have r1 := pt.pos
  rw [if_neg (by omega)]
  unfold tr_right2
  rw [uSeq_eq]
  walk_at "u"
  unfold tr_right3
  rw [uSeq_eq]
  walk_at "u"
  unfold tr_right4
  rw [uSeq_eq]
  refine uFor_intro l.length (fun i => (l.map pairD).getD i .non) [some (.pu (.tup [.lst (l.map pairD), .int r])), some (.pu (.int m)), some (.pu (.lst (T_SMALL_PRIMES.map .int))), some (.pu (.int r)), some (.pu (.int 1)), none, none] ?_
    (fun i ρ => ∃ (L : Int) (x y : Option B), ρ = [some (.pu (.tup [.lst (l.map pairD), .int r])), some (.pu (.int m)), some (.pu (.lst (T_SMALL_PRIMES.map .int))), some (.pu (.int (r * prodL (l.take i)))), some (.pu (.int L)), x, y] ∧ ∀ j (hj : j < l.length), i ≤ j → L < l[j].1)
    ⟨1, none, none, by rw [List.take_zero]; show _ = [_, _, _, some (B.pu (.int (r * 1))), _, _, _]; rw [Int.mul_one], fun j hj _ => ?_⟩ ?_ ?_
  · intro Q' q
    walk_at "u"
    rw [List.length_map]
    exact q
  · have := (tp_ok _ (List.mem_of_mem_take (pt.mem _ (List.getElem_mem hj)).1)).1
    omega
  · rintro i ρ hi ⟨L, x, y, rfl, hL⟩
    have e3 : (l.map pairD).getD i .non = pairD l[i] := by
      rw [List.getD_eq_getElem?_getD, List.getElem?_map, List.getElem?_eq_getElem hi]
      rfl
    rw [e3]
    obtain ⟨hmem, ho⟩ := pt.mem _ (List.getElem_mem hi)
    have hmem := List.mem_of_mem_take hmem
    obtain ⟨p2, p3⟩ := tp_ok _ hmem
    have ho2 := pt.often hm _ (List.getElem_mem hi)
    have hlt := hL i hi (Nat.le_refl _)
    have hnx : ∀ j (hj : j < l.length), i + 1 ≤ j → l[i].1 < l[j].1 := fun j hj h => List.pairwise_iff_getElem.mp pt.asc i j hi hj (by omega)
    have htk : l.take (i + 1) = l.take i ++ [l[i]] := by rw [List.take_succ, List.getElem?_eq_getElem hi]; rfl
    generalize l[i] = z at *
    obtain ⟨p, o⟩ := z
    dsimp only at *
    simp only [pairD]
    walk_at "u"
    refine ⟨by decide, [p, (o : Int)], rfl, show 2 ≤ 1000 by decide, ?_⟩
    walk_at "u"
    rw [if_neg (by omega)]
    refine ⟨p, T_SMALL_PRIMES, rfl, .inr (.inl rfl), ?_⟩
    rw [decide_eq_true hmem]
    show (if (false : Bool) = true then _ else _)
    rw [if_neg (by decide), if_neg (by omega), if_neg (by omega)]
    refine uFor_intro o (fun i => .int (0 + i)) [some (.pu (.tup [.lst (l.map pairD), .int r])), some (.pu (.int m)), some (.pu (.lst (T_SMALL_PRIMES.map .int))), some (.pu (.int (r * prodL (l.take i)))), some (.pu (.int p)), some (.pu (.tup [.int p, .int (o : Int)])), y] ?_
      (fun k ρ => ∃ y, ρ = [some (.pu (.tup [.lst (l.map pairD), .int r])), some (.pu (.int m)), some (.pu (.lst (T_SMALL_PRIMES.map .int))), some (.pu (.int (r * (prodL (l.take i) * p ^ k)))), some (.pu (.int p)), some (.pu (.tup [.int p, .int (o : Int)])), y]) ⟨y, by rw [Int.pow_zero, Int.mul_one]⟩ ?_ ?_
    · intro Q' q
      walk_at "u"
      refine ⟨⟨by omega, by omega⟩, ?_⟩
      rw [Int.toNat_natCast]
      exact q
    · rintro k ρ hk ⟨y, rfl⟩
      walk_at "u"
      refine ⟨by decide, cmR (by omega) (by omega), some (.pu (.int (0 + (k : Int)))), ?_⟩
      rw [Int.pow_succ, ← Int.mul_assoc (prodL (l.take i)), Int.mul_assoc r]
    · rintro ρ ⟨y, rfl⟩
      refine ⟨p, some (.pu (.tup [.int p, .int (o : Int)])), y, ?_, hnx⟩
      rw [htk, prodL_append]
      show _ = [_, _, _, some (B.pu (.int (r * (prodL (l.take i) * (p ^ o * 1))))), _, _, _]
      rw [Int.mul_one]
  · rintro ρ ⟨L, x, y, rfl, hL⟩
    dsimp only
    rw [List.take_length, show r * prodL l = m by rw [Int.mul_comm]; exact pt.prod]
    unfold tr_right5
    have e : ∀ (t : UE) (D : UD) (ρ : Ev), (uRet (uAndV (uOp (gEqB false) (uVar 3) (uVar 1)) t) : US) D ρ = uOp (gEqB false) (uVar 3) (uVar 1) ρ (fun x ρ1 => isB (fun c ρ1 => if c = true then t ρ1 (fun b _ => D.rt b) else D.rt (.pu (.bl false))) x ρ1) := fun _ _ _ => rfl
    rw [e]
    walk_at "u"
    refine uComp_map (t0 := 0) 46 (fun k => (T_SMALL_PRIMES.map D.int).getD k .non) [some (.pu (.tup [.lst (l.map pairD), .int r])), some (.pu (.int m)), some (.pu (.lst (T_SMALL_PRIMES.map .int))), some (.pu (.int m)), some (.pu (.int L)), x, y] ?_ (by decide) (fun x l' => [x, some (.pu (.tup [.lst (l.map pairD), .int r])), some (.ow l')]) none rfl (fun _ _ _ => rfl) (fun _ _ => Nat.zero_lt_succ _) (fun _ _ _ q => q) (fun _ _ _ => rfl) (fun k => .bl true) ?_ ?_
    · intro Q' q
      walk_at "u"
      exact q
    · intro k l' Q' hk q
      obtain ⟨p, e1, p2, p3, e2, lt⟩ := tp_take hk
      have e3 : (T_SMALL_PRIMES.map D.int).getD k .non = .int p := by
        rw [List.getD_eq_getElem?_getD, List.getElem?_map, e1]
        rfl
      have nd := pt.nd p (by
        rw [List.take_of_length_le (by rw [tp_len]; exact Nat.le_refl _)]
        exact List.mem_of_getElem? e1)
      rw [e3] at q ⊢
      walk_at "u"
      refine ⟨by omega, ?_⟩
      rw [fmod_pos _ (by omega), decide_eq_false nd]
      exact q
    · have e2 : (List.range 46).map (fun _ => D.bl true) = (List.replicate 46 true).map D.bl := rfl
      rw [e2]
      dsimp only
      rw [boolsL_map]
      exact h
def tr_law11 : US := (uRet (uAndV (uOp (gEqD false) (uCall φ_p_small_primes uNil) (uVar 1)) (uCall φ_right (uCons (uCall φ_p_parted (uCons (uVar 3) uNil)) (uCons (uVar 3) (uCons (uVar 1) uNil))))))
def tr_law10 : US := (uSeq (uAppZ (uIx (uVarV 5) (uC (.int 0))) (uTup (uCons (uC (.int 211)) (uCons (uC (.int 1)) uNil)))) tr_law11)
def tr_law9 : US := (uSeq (uIfS (uLook (uNot (uTst (uCall φ_right (uCons (uVar 5) (uCons (uVar 3) (uCons (uVar 1) uNil))))))) (uRet (uC (.bl false))) uNext) tr_law10)
def tr_law8 : US := (uSeq (uSet 5 (uCall φ_p_parted (uCons (uVar 3) uNil))) tr_law9)
def tr_law7 : US := (uSeq (uSetI 7 (uC (.int 4)) (uC (.int 0))) tr_law8)
def tr_law6 : US := (uSeq (uApp 7 (uC (.int 211))) tr_law7)
def tr_law5 : US := (uSeq (uIfS (uLook (uOr (uNot (uTst (uCall gIsi (uCons (uVar 7) (uCons (uC (.ty "list")) uNil))))) (uOr (uTst (uOp (gEqD true) (uVar 7) (uVar 1))) (uNot (uTst (uCall gAll (uCons (uComp [] [none, none] 1 (uSeqI (uVar 7)) (uName 0) (fun ρ Q => Q true ρ) (uCall φ_whole (uCons (uVar 0) uNil))) uNil))))))) (uRet (uC (.bl false))) uNext) tr_law6)
def tr_law4 : US := (uSeq (uSet 7 (uCall φ_p_small_primes uNil)) tr_law5)
def tr_law3 : US := (uSeq (uFor (uRng2 (uCons (uC (.int 1)) (uCons (uCall gMax (uCons (uC (.int 7)) (uCons (uCall gMin (uCons (uLen (uVarV 0)) (uCons (uC (.int 63)) uNil))) uNil))) uNil))) (uName 4) (uSeq (uSet 5 (uCall φ_draws (uCons (uCall φ_cell (uCons (uVar 0) (uCons (uVar 4) uNil))) (uCons (uLst (uCons (uC (.int 46)) (uCons (uC (.int 4)) uNil))) (uCons (uC (.int 999999929)) uNil))))) (uFor (uRng1 (uCons (uIx (uVarV 5) (uC (.int 1))) uNil)) (uName 6) (uSet 3 (uOp gMul (uVar 3) (uIx (uVarV 1) (uIx (uVarV 5) (uC (.int 0))))))))) tr_law4)
def tr_law2 : US := (uSeq (uSet 3 (uCall gMax (uCons (uC (.int 1)) (uCons (uCall gAbs (uCons (uCall φ_far (uCons (uCall φ_cell (uCons (uVar 0) (uCons (uC (.int 0)) uNil))) (uCons (uC (.int 9)) (uCons (uVar 2) (uCons (uC (.int 999999937)) uNil))))) uNil)) uNil)))) tr_law3)
def tr_law1 : US := (uSeq (uSet 2 (uIx (uV (uLst (uCons (uOp gPow (uC (.int 10)) (uC (.int 20))) (uCons (uOp gMul (uOp gPow (uC (.int 10)) (uC (.int 35))) (uOp gPow (uC (.int 10)) (uC (.int 35)))) uNil)))) (uCall gToInt (uCons (uOp (gEqB false) (uIx (uV (uCall φ_draws (uCons (uCall φ_cell (uCons (uVar 0) (uCons (uC (.int 1)) uNil))) (uCons (uLst (uCons (uC (.int 46)) (uCons (uC (.int 4)) (uCons (uC (.int 8)) uNil)))) (uCons (uC (.int 999999929)) uNil))))) (uC (.int 2))) (uC (.int 7))) uNil)))) tr_law2)
def tr_law : US := (uSeq (uSet 1 (uCall φ_primes uNil)) tr_law1)
theorem rd_law11 (Q : B → Prop) (a b c d e f : Option B) (m : Int) (m1 : 1 ≤ m) (hm : m < 2 ^ 2000) (hQ : Q (.pu (.bl true))) :
    tr_law11 { nx := fun _ => Q (.pu .non), rt := Q } [a, some (.ow (T_SMALL_PRIMES.map .int)), b, some (.pu (.int m)), c, d, e, f] := by
  unfold tr_law11
  rw [uRet_eq]
  simp only [uAndV, uOp, uCall, uNil]
  refine ⟨rfl, ?_⟩
  walk_at "u"
  refine gEqD_lst ?_
  walk_at "u"
  refine ⟨m, rfl, m1, fun l r pt => ?_⟩
  walk_at "u"
  exact ⟨l, r, m, rfl, pt, hm, hQ⟩
theorem rd_law8 (Q : B → Prop) (a b c d e f : Option B) (m : Int) (m1 : 1 ≤ m) (hm : m < 2 ^ 2000) (hQ : Q (.pu (.bl true))) :
    tr_law8 { nx := fun _ => Q (.pu .non), rt := Q } [a, some (.ow (T_SMALL_PRIMES.map .int)), b, some (.pu (.int m)), c, d, e, f] := by
  unfold tr_law8
  rw [uSeq_eq]
  walk_at "u"
  refine ⟨m, rfl, m1, fun l r pt => ?_⟩
  walk_at "u"
  unfold tr_law9
  rw [uSeq_eq]
  walk_at "u"
  refine ⟨l, r, m, rfl, pt, hm, ?_⟩
  walk_at "u"
  unfold tr_law10
  rw [uSeq_eq]
  walk_at "u"
  refine ⟨by decide, by rw [List.length_map]; exact Nat.lt_of_le_of_lt pt.len (by decide), ?_⟩
  have e1 : keepO (some (.ow (T_SMALL_PRIMES.map .int))) = some (.ow (T_SMALL_PRIMES.map .int)) := by
    unfold keepO
    dsimp only
    rw [if_pos (nls_ints _)]
  have e2 : keepO (some (.pu (.int m))) = some (.pu (.int m)) := rfl
  simp only [List.map_cons, List.map_nil, e2]
  rw [e1]
  exact rd_law11 Q _ _ _ _ _ _ m m1 hm hQ
theorem rd_law4 (Q : B → Prop) (a b c d e f : Option B) (m : Int) (m1 : 1 ≤ m) (hm : m < 2 ^ 2000) (hQ : Q (.pu (.bl true))) :
    tr_law4 { nx := fun _ => Q (.pu .non), rt := Q } [a, some (.ow (T_SMALL_PRIMES.map .int)), b, some (.pu (.int m)), c, d, e, f] := by
  unfold tr_law4
  rw [uSeq_eq]
  walk_at "u"
  refine ⟨rfl, ?_⟩
  walk_at "u"
  unfold tr_law5
  rw [uSeq_eq]
  walk_at "u"
  refine gEqD_lst ?_
  rw [decide_eq_true rfl]
  show (if (false : Bool) = true then _ else _)
  rw [if_neg (by decide)]
  refine uComp_map (t0 := 0) 46 (fun k => (T_SMALL_PRIMES.map D.int).getD k .non) [a, some (.pu (.lst (T_SMALL_PRIMES.map .int))), b, some (.pu (.int m)), c, d, e, some (.pu (.lst (T_SMALL_PRIMES.map .int)))] ?_ (by decide) (fun x l' => [x, some (.ow l')]) none rfl (fun _ _ _ => rfl) (fun _ _ => Nat.zero_lt_succ _) (fun _ _ _ q => q) (fun _ _ _ => rfl) (fun k => .bl true) ?_ ?_
  · intro Q' q
    walk_at "u"
    exact q
  · intro k l' Q' hk q
    obtain ⟨z, hz⟩ := getD_map (ys := T_SMALL_PRIMES) (i := k) (by rw [List.length_map]; exact hk)
    rw [hz] at q ⊢
    walk_at "u"
    exact ⟨z, rfl, q⟩
  · have e2 : (List.range 46).map (fun _ => D.bl true) = (List.replicate 46 true).map D.bl := rfl
    rw [e2]
    dsimp only
    rw [boolsL_map]
    dsimp only
    rw [if_neg (by decide)]
    unfold tr_law6
    rw [uSeq_eq]
    walk_at "u"
    refine ⟨by rw [List.length_map]; decide, ?_⟩
    unfold tr_law7
    rw [uSeq_eq]
    walk_at "u"
    have e3 : ixN (T_SMALL_PRIMES.map D.int ++ [D.int 211]).length 0 = some 0 := by decide +kernel
    rw [e3]
    dsimp only
    exact rd_law8 Q a b c d e _ m m1 hm hQ
theorem tp_at {k : Int} (h0 : 0 ≤ k) (h1 : k < 46) : ∃ p : Int, atI (T_SMALL_PRIMES.map D.int) k = some (.int p) ∧ 2 ≤ p ∧ p < 200 := by
  obtain ⟨p, hp, e⟩ := atI_in (ns := T_SMALL_PRIMES) h0 (by rw [tp_len]; exact h1)
  exact ⟨p, e, tp_ok p hp⟩
theorem rd_law3 (Q : B → Prop) (ns : List Int) (hl : ns.length ≤ 63) (b c d e f : Option B) (m : Int) (m1 : 1 ≤ m) (hm : m ≤ 10 ^ 70) (hQ : Q (.pu (.bl true))) :
    tr_law3 { nx := fun _ => Q (.pu .non), rt := Q } [some (.pu (.rol (ns.map .int))), some (.ow (T_SMALL_PRIMES.map .int)), b, some (.pu (.int m)), c, d, e, f] := by
  unfold tr_law3
  rw [uSeq_eq]
  obtain ⟨n, hn, hn2⟩ : ∃ n : Nat, (if (if (63 : Int) < (ns.length : Int) then (63 : Int) else (ns.length : Int)) > 7 then (if (63 : Int) < (ns.length : Int) then (63 : Int) else (ns.length : Int)) else 7) = 1 + (n : Int) ∧ n ≤ 62 := by
    refine ⟨((if (if (63 : Int) < (ns.length : Int) then (63 : Int) else (ns.length : Int)) > 7 then (if (63 : Int) < (ns.length : Int) then (63 : Int) else (ns.length : Int)) else 7) - 1).toNat, ?_, ?_⟩ <;> split <;> split <;> omega
  refine uFor_intro n (fun i => .int (1 + i)) [some (.pu (.rol (ns.map .int))), some (.ow (T_SMALL_PRIMES.map .int)), b, some (.pu (.int m)), c, d, e, f] ?_
    (fun i ρ => ∃ (x y z : Option B) (q : Int), ρ = [some (.pu (.rol (ns.map .int))), some (.ow (T_SMALL_PRIMES.map .int)), b, some (.pu (.int q)), x, y, z, f] ∧ 1 ≤ q ∧ q ≤ 10 ^ 70 * 8000000 ^ i) ⟨c, d, e, m, rfl, m1, by rw [Int.pow_zero, Int.mul_one]; exact hm⟩ ?_ ?_
  · intro Q' q
    walk_at "u"
    rw [List.length_map, hn]
    refine ⟨⟨by decide, by decide, by omega, by omega⟩, ?_⟩
    rw [show (1 + (n : Int) - 1).toNat = n by omega]
    exact q
  · rintro i ρ hi ⟨x, y, z, q, rfl, q1, q2⟩
    walk_at "u"
    refine ⟨by decide, ns, (1 + (i : Int)), rfl, hl, by omega, by omega, fun w => ⟨by decide, w, [46, 4], 999999929, rfl, by decide, by decide, by decide, fun xs hx => ?_⟩⟩
    obtain ⟨u, v, rfl⟩ : ∃ u v, xs = [u, v] := by
      match xs, hx.1 with
      | [u, v], _ => exact ⟨u, v, rfl⟩
    have b0 := hx.2 0 u 46 rfl rfl
    have b1 := hx.2 1 v 4 rfl rfl
    obtain ⟨p, ep, p2, p3⟩ := tp_at b0.1 b0.2
    obtain ⟨k, rfl⟩ : ∃ k : Nat, v = (k : Int) := ⟨v.toNat, by omega⟩
    have k3 : k ≤ 3 := by omega
    show (uFor _ _ _ : US) _ [some (.pu (.rol (ns.map .int))), some (.ow (T_SMALL_PRIMES.map .int)), b, some (.pu (.int q)), some (.pu (.int (1 + (i : Int)))), some (.ow [.int u, .int (k : Int)]), z, f]
    refine uFor_intro k (fun i => .int (0 + i)) [some (.pu (.rol (ns.map .int))), some (.ow (T_SMALL_PRIMES.map .int)), b, some (.pu (.int q)), some (.pu (.int (1 + (i : Int)))), some (.ow [.int u, .int (k : Int)]), z, f] ?_
      (fun j ρ => ∃ (z : Option B) (q' : Int), ρ = [some (.pu (.rol (ns.map .int))), some (.ow (T_SMALL_PRIMES.map .int)), b, some (.pu (.int q')), some (.pu (.int (1 + (i : Int)))), some (.ow [.int u, .int (k : Int)]), z, f] ∧ 1 ≤ q' ∧ q' ≤ q * 200 ^ j) ⟨z, q, rfl, q1, by rw [Int.pow_zero, Int.mul_one]; exact Int.le_refl _⟩ ?_ ?_
    · intro Q' q
      walk_at "u"
      refine ⟨⟨by omega, by omega⟩, ?_⟩
      rw [Int.toNat_natCast]
      exact q
    · rintro j ρ hj ⟨z, q', rfl, h1, h2⟩
      walk_at "u"
      rw [ep]
      dsimp only
      refine ⟨by decide, cmR (by omega) (by omega), some (.pu (.int (0 + (j : Int)))), q' * p, rfl, ?_, ?_⟩
      · have := Int.mul_le_mul h1 (show (1 : Int) ≤ p by omega) (by omega) (by omega)
        omega
      · rw [Int.pow_succ, ← Int.mul_assoc]
        exact Int.mul_le_mul h2 (by omega) (by omega) (by omega)
    · rintro ρ ⟨z, q', rfl, h1, h2⟩
      refine ⟨_, _, z, q', rfl, h1, Int.le_trans h2 ?_⟩
      rw [Int.pow_succ 8000000, ← Int.mul_assoc]
      refine Int.mul_le_mul q2 ?_ ?_ ?_
      · match k, k3 with
        | 0, _ => decide
        | 1, _ => decide
        | 2, _ => decide
        | 3, _ => decide
      · exact Int.le_of_lt (Int.pow_pos (by decide))
      · exact Int.le_of_lt (Int.mul_pos (Int.pow_pos (by decide)) (Int.pow_pos (by decide)))
  · rintro ρ ⟨x, y, z, q, rfl, q1, q2⟩
    refine rd_law4 Q _ _ _ _ _ _ q q1 (Int.lt_of_le_of_lt q2 ?_) hQ
    have h1 : (10 : Nat) ^ 70 * 8000000 ^ n < 2 ^ 2000 := Nat.lt_of_le_of_lt (Nat.mul_le_mul_left _ (Nat.pow_le_pow_right (by decide) hn2)) (by decide +kernel)
    have h2 : ((10 ^ 70 * 8000000 ^ n : Nat) : Int) < ((2 ^ 2000 : Nat) : Int) := Int.ofNat_lt.mpr h1
    rw [Int.natCast_mul, Int.natCast_pow, Int.natCast_pow, Int.natCast_pow] at h2
    exact h2
theorem most_at {b : Int} (h0 : 0 ≤ b) (h1 : b ≤ 1) : ∃ m : Int, atI [D.int (10 ^ (20 : Int).toNat), .int (10 ^ (35 : Int).toNat * 10 ^ (35 : Int).toNat)] b = some (.int m) ∧ 20 ≤ m ∧ m ≤ 10 ^ 70 := by
  rcases (show b = 0 ∨ b = 1 by omega) with rfl | rfl
  · exact ⟨_, at0, by decide, by decide⟩
  · exact ⟨_, at1, by decide, by decide⟩
theorem rd_law : ∀ ds Q, φLaw ds Q → tr_law { nx := fun _ => Q (.pu .non), rt := Q } (init ["s", "p", "o", "m", "k", "f", "a", "t"] ds) := by
  rintro ds Q ⟨ns, rfl, hl, hQ⟩
  unfold tr_law
  show (uSeq _ _ : US) _ [some (.pu (.rol (ns.map .int))), none, none, none, none, none, none, none]
  rw [uSeq_eq]
  walk_at "u"
  refine ⟨rfl, ?_⟩
  walk_at "u"
  unfold tr_law1
  rw [uSeq_eq]
  walk_at "u"
  refine ⟨cpl (by decide) (by decide) (by decide), cpl (by decide) (by decide) (by decide), cpl (by decide) (by decide) (by decide), .inr ⟨by unfold Sm; decide +kernel, by unfold Sm; decide +kernel⟩, by decide, ns, 1, rfl, hl, by decide, by decide, fun w => ⟨by decide, w, [46, 4, 8], 999999929, rfl, by decide, by decide, by decide, fun xs hx => ?_⟩⟩
  obtain ⟨u, v, t, rfl⟩ : ∃ u v t, xs = [u, v, t] := by
    match xs, hx.1 with
    | [u, v, t], _ => exact ⟨u, v, t, rfl⟩
  have a2 : atI [D.int u, .int v, .int t] 2 = some (.int t) := atI_nat (j := 2) rfl
  simp only [List.map_cons, List.map_nil]
  rw [a2]
  dsimp only
  obtain ⟨M, eM, M1, M2⟩ := most_at (b := if t = 7 then 1 else 0) (by split <;> decide) (by split <;> decide)
  rw [eM]
  dsimp only
  unfold tr_law2
  rw [uSeq_eq]
  walk_at "u"
  refine ⟨ns, 0, rfl, hl, by decide, by decide, fun w' => ⟨w', 9, M, 999999937, rfl, by decide, by decide, M1, by decide, fun x x1 x2 => ?_⟩⟩
  walk_at "u"
  refine rd_law3 Q ns hl _ _ _ _ _ _ ?_ ?_ hQ
  · split <;> split <;> omega
  · split <;> split <;> omega
end M

end
namespace M
open PySem PySem.Spec PyProof.Rows L2
set_option maxHeartbeats 4000000
def top (i : Nat) : Stmt := PySem.Challenge.pw_ringhouse_k03_parted.main.body.getD i (.Pass ⟨0, 0, 0, 0⟩)
abbrev s_p_small_primes : Stmt := top 2
abbrev s_p_parted : Stmt := top 3
abbrev s_p_divided_out : Stmt := top 4
abbrev s_whole : Stmt := top 6
abbrev s_row : Stmt := top 7
abbrev s_primes : Stmt := top 8
abbrev s_mixed : Stmt := top 9
abbrev s_draws : Stmt := top 10
abbrev s_far : Stmt := top 11
abbrev s_cell : Stmt := top 12
abbrev s_right : Stmt := top 13
abbrev s_law : Stmt := top 14
theorem sc_p_small_primes : FnScope [] [] (defScope s_p_small_primes) := ⟨rfl, rfl, rfl, by decide +kernel, rfl, by decide +kernel, by decide +kernel⟩
theorem sc_p_parted : FnScope ["m", "rows", "rest", "p", "often"] ["m"] (defScope s_p_parted) := ⟨rfl, rfl, rfl, by decide +kernel, rfl, by decide +kernel, by decide +kernel⟩
theorem sc_p_divided_out : FnScope ["m", "p", "often", "rest"] ["m", "p"] (defScope s_p_divided_out) := ⟨rfl, rfl, rfl, by decide +kernel, rfl, by decide +kernel, by decide +kernel⟩
theorem sc_whole : FnScope ["_law_found"] ["_law_found"] (defScope s_whole) := ⟨rfl, rfl, rfl, by decide +kernel, rfl, by decide +kernel, by decide +kernel⟩
theorem sc_row : FnScope ["_law_found", "_law_many"] ["_law_found", "_law_many"] (defScope s_row) := ⟨rfl, rfl, rfl, by decide +kernel, rfl, by decide +kernel, by decide +kernel⟩
theorem sc_primes : FnScope [] [] (defScope s_primes) := ⟨rfl, rfl, rfl, by decide +kernel, rfl, by decide +kernel, by decide +kernel⟩
theorem sc_mixed : FnScope ["_law_cell_here", "_law_k", "_law_prime", "_law_far_here"] ["_law_cell_here", "_law_k", "_law_prime"] (defScope s_mixed) := ⟨rfl, rfl, rfl, by decide +kernel, rfl, by decide +kernel, by decide +kernel⟩
theorem sc_draws : FnScope ["_law_cell_here", "_law_widths", "_law_prime", "_law_left", "_law_found", "_law_k"] ["_law_cell_here", "_law_widths", "_law_prime"] (defScope s_draws) := ⟨rfl, rfl, rfl, by decide +kernel, rfl, by decide +kernel, by decide +kernel⟩
theorem sc_far : FnScope ["_law_cell_here", "_law_parts", "_law_most", "_law_prime", "_law_found", "_law_far_here", "_law_part"] ["_law_cell_here", "_law_parts", "_law_most", "_law_prime"] (defScope s_far) := ⟨rfl, rfl, rfl, by decide +kernel, rfl, by decide +kernel, by decide +kernel⟩
theorem sc_cell : FnScope ["_law_script", "_law_k"] ["_law_script", "_law_k"] (defScope s_cell) := ⟨rfl, rfl, rfl, by decide +kernel, rfl, by decide +kernel, by decide +kernel⟩
theorem sc_right : FnScope ["_law_found", "_law_m", "_law_primes_here", "_law_far_here", "_law_last", "_law_row_here", "_law_again"] ["_law_found", "_law_m", "_law_primes_here"] (defScope s_right) := ⟨rfl, rfl, rfl, by decide +kernel, rfl, by decide +kernel, by decide +kernel⟩
theorem sc_law : FnScope ["_law_script", "_law_primes_here", "_law_most", "_law_m", "_law_k", "_law_found", "_law_again", "_law_told"] ["_law_script"] (defScope s_law) := ⟨rfl, rfl, rfl, by decide +kernel, rfl, by decide +kernel, by decide +kernel⟩
section
variable {P : Program} {w : World} {K : PySem.W.Frag} {mg : Str → Option Value} {base : Heap}
theorem der_p_small_primes (z_list : mg "list" = none)  {a_SMALL_PRIMES : Addr} (g_SMALL_PRIMES : mg "SMALL_PRIMES" = some (.ref a_SMALL_PRIMES)) (k_SMALL_PRIMES : KT K a_SMALL_PRIMES (T_SMALL_PRIMES.map V.int))  {f : Addr} {cdv : Value} {A : Around} {outer : List Env} {s : Shared} {H : Hp} {E : XK} (hr : Room 0 (A.deeper (envOfC "small_primes" (defScope s_p_small_primes) s.heap.objs.size f cdv))) :
    PUSs (cxOf CX0 P w K mg base [] "small_primes" (defScope s_p_small_primes) f cdv A outer s H E).nox (defBody s_p_small_primes) tr_p_small_primes :=
  (us_one (us_ret (pu_callTy cu_list rfl z_list bt_list (pua_cons (pu_gtup rfl g_SMALL_PRIMES k_SMALL_PRIMES) pua_nil))))
theorem der_p_parted   {a_SMALL_PRIMES : Addr} (g_SMALL_PRIMES : mg "SMALL_PRIMES" = some (.ref a_SMALL_PRIMES)) (k_SMALL_PRIMES : KT K a_SMALL_PRIMES (T_SMALL_PRIMES.map V.int)) (F_p_divided_out : Fn P w K mg base "divided_out" ["m", "p"] 1 φ_p_divided_out) {f : Addr} {cdv : Value} {A : Around} {outer : List Env} {s : Shared} {H : Hp} {E : XK} (hr : Room 1 (A.deeper (envOfC "parted" (defScope s_p_parted) s.heap.objs.size f cdv))) :
    PUSs (cxOf CX0 P w K mg base ["m", "rows", "rest", "p", "often"] "parted" (defScope s_p_parted) f cdv A outer s H E).nox (defBody s_p_parted) tr_p_parted :=
  (us_cons (us_set 1 sc_p_parted.nd rfl (Or.inl rfl) (pu_lst pua_nil) (hl := il (n := 5) rfl (by decide))) (us_cons (us_set 2 sc_p_parted.nd rfl (Or.inl rfl) (pu_var 0 (pv 0)) (hl := il (n := 5) rfl (by decide))) (us_cons (us_for PassesOwn.never rfl (ui_seq (pu_gtup rfl g_SMALL_PRIMES k_SMALL_PRIMES)) (ug_name 3 (pg_name sc_p_parted.nd rfl (Or.inl rfl))) (us_cons (us_asg (pu_fn F_p_divided_out hr (by decide) rfl (pua_cons (pu_var 2 (pv 2)) (pua_cons (pu_var 3 (pv 3)) pua_nil))) (ug_tup rfl (ugs_cons 4 (pg_name sc_p_parted.nd rfl (Or.inl rfl)) (ugs_cons 2 (pg_name sc_p_parted.nd rfl (Or.inl rfl)) ugs_nil)) (glen_cons (glen_cons glen_nil)))) (us_one (us_if (pt_cmpU ou_gt (pu_var 4 (pv 4)) pu_int (nomark _)) (us_one (us_append 1 (pv 1) (pu_tup (pua_cons (pu_var 3 (pv 3)) (pua_cons (pu_var 4 (pv 4)) pua_nil))))) us_nil)))) (us_one (us_ret (pu_tup (pua_cons (pu_var 1 (pv 1)) (pua_cons (pu_var 2 (pv 2)) pua_nil))))))))
theorem der_p_divided_out     {f : Addr} {cdv : Value} {A : Around} {outer : List Env} {s : Shared} {H : Hp} {E : XK} (hr : Room 0 (A.deeper (envOfC "divided_out" (defScope s_p_divided_out) s.heap.objs.size f cdv))) :
    PUSs (cxOf CX0 P w K mg base ["m", "p", "often", "rest"] "divided_out" (defScope s_p_divided_out) f cdv A outer s H E).nox (defBody s_p_divided_out) tr_p_divided_out :=
  (us_cons (us_set 2 sc_p_divided_out.nd rfl (Or.inl rfl) pu_int (hl := il (n := 4) rfl (by decide))) (us_cons (us_set 3 sc_p_divided_out.nd rfl (Or.inl rfl) (pu_var 0 (pv 0)) (hl := il (n := 4) rfl (by decide))) (us_cons (us_while PassesOwn.never (pt_cmpU ou_eq (pu_op ou_mod (pu_var 3 (pv 3)) (pu_var 1 (pv 1))) pu_int (nomark _)) (us_cons (us_set 3 sc_p_divided_out.nd rfl (Or.inl rfl) (pu_op ou_div (pu_var 3 (pv 3)) (pu_var 1 (pv 1))) (hl := il (n := 4) rfl (by decide))) (us_one (us_aug 2 sc_p_divided_out.nd rfl (Or.inl rfl) pu_int iu_add (hl := il (n := 4) rfl (by decide)))))) (us_one (us_ret (pu_tup (pua_cons (pu_var 2 (pv 2)) (pua_cons (pu_var 3 (pv 3)) pua_nil))))))))
theorem der_whole (z_isinstance : mg "isinstance" = none) (z_int : mg "int" = none) (z_bool : mg "bool" = none)    {f : Addr} {cdv : Value} {A : Around} {outer : List Env} {s : Shared} {H : Hp} {E : XK} (hr : Room 0 (A.deeper (envOfC "_law_whole" (defScope s_whole) s.heap.objs.size f cdv))) :
    PUSs (cxOf CX0 P w K mg base ["_law_found"] "_law_whole" (defScope s_whole) f cdv A outer s H E).nox (defBody s_whole) tr_whole :=
  (us_one (us_ret (pu_and (pu_callB cu_isi rfl z_isinstance bt_isinstance (pua_cons (pu_var 0 (pv 0)) (pua_cons (pu_ty rfl z_int bt_int) pua_nil))) (pu_one (pu_not (pu_callB cu_isi rfl z_isinstance bt_isinstance (pua_cons (pu_var 0 (pv 0)) (pua_cons (pu_ty rfl z_bool bt_bool) pua_nil))))))))
theorem der_row (z_isinstance : mg "isinstance" = none) (z_tuple : mg "tuple" = none) (z_len : mg "len" = none) (z_all : mg "all" = none)   (F_whole : Fn P w K mg base "_law_whole" ["_law_found"] 1 φ_whole) {f : Addr} {cdv : Value} {A : Around} {outer : List Env} {s : Shared} {H : Hp} {E : XK} (hr : Room 1 (A.deeper (envOfC "_law_row" (defScope s_row) s.heap.objs.size f cdv))) :
    PUSs (cxOf CX0 P w K mg base ["_law_found", "_law_many"] "_law_row" (defScope s_row) f cdv A outer s H E).nox (defBody s_row) tr_row :=
  (us_cons (us_if (PUW.pt (pw_orU (pt_notU (pt_of (pu_callB cu_isi rfl z_isinstance bt_isinstance (pua_cons (pu_var 0 (pv 0)) (pua_cons (pu_ty rfl z_tuple bt_tuple) pua_nil))))) (pw_or1U (pt_cmpU ou_ne (pu_len (pv_var 0 (pv 0)) rfl z_len) (pu_var 1 (pv 1)) (nomark _))))) (us_one (us_ret pu_bl)) us_nil) (us_one (us_ret (pu_callB (cu_all rfl) rfl z_all bt_all (pua_cons (pu_compL (js := []) (N := ["_law_place", ".acc"]) (cap := [none, none]) (last := 1) (esc := (defScope s_row).names) (XN := ["_law_found", "_law_many"]) rfl rfl (by decide +kernel) (by decide) (by decide) rfl (ui_seq (pu_var 0 (pv 0))) (fun _ _ _ _ _ _ => (ug_name 0 (pg_name (show List.Nodup (["_law_place", ".acc"] : List Str) by decide +kernel) rfl (Or.inl rfl)))) (fun _ _ _ _ _ _ => put_nil) (fun _ _ _ _ _ _ => (pu_fn F_whole hr (by decide) rfl (pua_cons (pu_var 0 (pv 0)) pua_nil)))) pua_nil)))))
theorem der_primes (z_range : mg "range" = none) (z_all : mg "all" = none)    {f : Addr} {cdv : Value} {A : Around} {outer : List Env} {s : Shared} {H : Hp} {E : XK} (hr : Room 0 (A.deeper (envOfC "_law_primes" (defScope s_primes) s.heap.objs.size f cdv))) :
    PUSs (cxOf CX0 P w K mg base [] "_law_primes" (defScope s_primes) f cdv A outer s H E).nox (defBody s_primes) tr_primes :=
  (us_one (us_ret (pu_compL (js := []) (N := ["_law_n", ".acc"]) (cap := [none, none]) (last := 1) (esc := (defScope s_primes).names) (XN := []) rfl rfl (by decide +kernel) (by decide) (by decide) rfl (ui_range2 rfl z_range (pua_cons pu_int (pua_cons pu_int pua_nil))) (fun _ _ _ _ _ _ => (ug_name 0 (pg_name (show List.Nodup (["_law_n", ".acc"] : List Str) by decide +kernel) rfl (Or.inr rfl)))) (fun _ _ _ _ _ _ => (put_one (pt_of (pu_callB (cu_all rfl) rfl z_all bt_all (pua_cons (pu_compL (js := [0]) (N := ["_law_d", "_law_n", ".acc"]) (cap := [none, some 0, none]) (last := 2) (esc := [(".0", NameKind.local), ("_law_n", NameKind.cell), ("all", NameKind.globalImplicit), ("range", NameKind.globalImplicit)]) (XN := ["_law_n", ".acc"]) rfl rfl (by decide +kernel) (by decide) (by decide) rfl (ui_range2 rfl z_range (pua_cons pu_int (pua_cons pu_int pua_nil))) (fun _ _ _ _ _ _ => (ug_name 0 (pg_name (show List.Nodup (["_law_d", "_law_n", ".acc"] : List Str) by decide +kernel) rfl (Or.inl rfl)))) (fun _ _ _ _ _ _ => put_nil) (fun _ _ _ _ _ _ => (pu_or (pu_cmp ou_eq (pu_var 1 (pv 1)) (pu_var 0 (pv 0)) (nomark _)) (pu_one (pu_cmp ou_ne (pu_op ou_mod (pu_var 1 (pv 1)) (pu_var 0 (pv 0))) pu_int (nomark _)))))) pua_nil))))) (fun _ _ _ _ _ _ => (pu_var 0 (pv 0))))))
theorem der_mixed     {f : Addr} {cdv : Value} {A : Around} {outer : List Env} {s : Shared} {H : Hp} {E : XK} (hr : Room 0 (A.deeper (envOfC "_law_mixed" (defScope s_mixed) s.heap.objs.size f cdv))) :
    PUSs (cxOf CX0 P w K mg base ["_law_cell_here", "_law_k", "_law_prime", "_law_far_here"] "_law_mixed" (defScope s_mixed) f cdv A outer s H E).nox (defBody s_mixed) tr_mixed :=
  (us_cons (us_set 3 sc_mixed.nd rfl (Or.inl rfl) (pu_op ou_mod (pu_op ou_mul (pu_op ou_add (pu_op ou_add (pu_op ou_add (pu_var 0 (pv 0)) (pu_op ou_mul (pu_op ou_mul pu_int (pu_var 1 (pv 1))) (pu_var 1 (pv 1)))) (pu_op ou_mul pu_int (pu_var 1 (pv 1)))) pu_int) pu_int) pu_int) (hl := il (n := 4) rfl (by decide))) (us_cons (us_set 3 sc_mixed.nd rfl (Or.inl rfl) (pu_op ou_mod (pu_op ou_mul (pu_var 3 (pv 3)) (pu_var 3 (pv 3))) pu_int) (hl := il (n := 4) rfl (by decide))) (us_one (us_ret (pu_op ou_mod (pu_op ou_mul (pu_var 3 (pv 3)) pu_int) (pu_var 2 (pv 2)))))))
theorem der_draws (z_range : mg "range" = none) (z_len : mg "len" = none)   (F_mixed : Fn P w K mg base "_law_mixed" ["_law_cell_here", "_law_k", "_law_prime"] 1 φ_mixed) {f : Addr} {cdv : Value} {A : Around} {outer : List Env} {s : Shared} {H : Hp} {E : XK} (hr : Room 1 (A.deeper (envOfC "_law_draws" (defScope s_draws) s.heap.objs.size f cdv))) :
    PUSs (cxOf CX0 P w K mg base ["_law_cell_here", "_law_widths", "_law_prime", "_law_left", "_law_found", "_law_k"] "_law_draws" (defScope s_draws) f cdv A outer s H E).nox (defBody s_draws) tr_draws :=
  (us_cons (us_set 3 sc_draws.nd rfl (Or.inl rfl) pu_int (hl := il (n := 6) rfl (by decide))) (us_cons (us_if (pt_cmpU ou_ge (pu_var 0 (pv 0)) (pu_op ou_pow pu_int pu_int) (nomark _)) (us_one (us_set 3 sc_draws.nd rfl (Or.inl rfl) (pu_op ou_sub (pu_var 0 (pv 0)) (pu_op ou_pow pu_int pu_int)) (hl := il (n := 6) rfl (by decide)))) us_nil) (us_cons (us_set 4 sc_draws.nd rfl (Or.inl rfl) (pu_lst pua_nil) (hl := il (n := 6) rfl (by decide))) (us_cons (us_for PassesOwn.never rfl (ui_range1 rfl z_range (pua_cons (pu_len (pv_var 1 (pv 1)) rfl z_len) pua_nil)) (ug_name 5 (pg_name sc_draws.nd rfl (Or.inl rfl))) (us_one (us_if (pt_cmpU ou_gt (pu_var 3 (pv 3)) pu_int (nomark _)) (us_cons (us_append 4 (pv 4) (pu_op ou_mod (pu_var 3 (pv 3)) (pu_ix (pv_var 1 (pv 1)) (pu_var 5 (pv 5)) (fun _ _ => rfl)))) (us_one (us_set 3 sc_draws.nd rfl (Or.inl rfl) (pu_op ou_div (pu_var 3 (pv 3)) (pu_ix (pv_var 1 (pv 1)) (pu_var 5 (pv 5)) (fun _ _ => rfl))) (hl := il (n := 6) rfl (by decide))))) (us_one (us_append 4 (pv 4) (pu_op ou_mod (pu_fn F_mixed hr (by decide) rfl (pua_cons (pu_var 0 (pv 0)) (pua_cons (pu_var 5 (pv 5)) (pua_cons (pu_var 2 (pv 2)) pua_nil)))) (pu_ix (pv_var 1 (pv 1)) (pu_var 5 (pv 5)) (fun _ _ => rfl)))))))) (us_one (us_retV 4 (pv 4)))))))
theorem der_far    (F_draws : Fn P w K mg base "_law_draws" ["_law_cell_here", "_law_widths", "_law_prime"] 2 φ_draws) {f : Addr} {cdv : Value} {A : Around} {outer : List Env} {s : Shared} {H : Hp} {E : XK} (hr : Room 2 (A.deeper (envOfC "_law_far" (defScope s_far) s.heap.objs.size f cdv))) :
    PUSs (cxOf CX0 P w K mg base ["_law_cell_here", "_law_parts", "_law_most", "_law_prime", "_law_found", "_law_far_here", "_law_part"] "_law_far" (defScope s_far) f cdv A outer s H E).nox (defBody s_far) tr_far :=
  (us_cons (us_set 4 sc_far.nd rfl (Or.inl rfl) (pu_fn F_draws hr (by decide) rfl (pua_cons (pu_var 0 (pv 0)) (pua_cons (pu_op ou_add (pu_lst (pua_cons pu_int pua_nil)) (pu_op ou_mul (pu_lst (pua_cons (pu_op ou_pow pu_int pu_int) pua_nil)) (pu_var 1 (pv 1)))) (pua_cons (pu_var 3 (pv 3)) pua_nil)))) (hl := il (n := 7) rfl (by decide))) (us_cons (us_set 5 sc_far.nd rfl (Or.inl rfl) pu_int (hl := il (n := 7) rfl (by decide))) (us_cons (us_for PassesOwn.never rfl (ui_seq (pu_slice (pv_var 4 (pv 4)) (puo_some pu_int) puo_none)) (ug_name 6 (pg_name sc_far.nd rfl (Or.inl rfl))) (us_one (us_set 5 sc_far.nd rfl (Or.inl rfl) (pu_op ou_add (pu_op ou_mul (pu_var 5 (pv 5)) (pu_op ou_pow pu_int pu_int)) (pu_var 6 (pv 6))) (hl := il (n := 7) rfl (by decide))))) (us_cons (us_if (pt_cmpU ou_eq (pu_ix (pv_var 4 (pv 4)) pu_int (fun _ _ => rfl)) pu_int (nomark _)) (us_one (us_ret pu_int)) us_nil) (us_cons (us_if (pt_cmpU ou_eq (pu_ix (pv_var 4 (pv 4)) pu_int (fun _ _ => rfl)) pu_int (nomark _)) (us_one (us_ret (pu_op ou_sub (pu_op ou_mod (pu_var 5 (pv 5)) pu_int) pu_int))) us_nil) (us_one (us_ret (pu_op ou_sub (pu_op ou_mod (pu_var 5 (pv 5)) (pu_op ou_add (pu_op ou_mul pu_int (pu_var 2 (pv 2))) pu_int)) (pu_var 2 (pv 2))))))))))
theorem der_cell (z_len : mg "len" = none)    {f : Addr} {cdv : Value} {A : Around} {outer : List Env} {s : Shared} {H : Hp} {E : XK} (hr : Room 0 (A.deeper (envOfC "_law_cell" (defScope s_cell) s.heap.objs.size f cdv))) :
    PUSs (cxOf CX0 P w K mg base ["_law_script", "_law_k"] "_law_cell" (defScope s_cell) f cdv A outer s H E).nox (defBody s_cell) tr_cell :=
  (us_cons (us_if (pt_cmpU ou_eq (pu_len (pv_var 0 (pv 0)) rfl z_len) pu_int (nomark _)) (us_one (us_ret (pu_op ou_mul pu_int (pu_op ou_add (pu_var 1 (pv 1)) pu_int)))) us_nil) (us_cons (us_if (pt_cmpU ou_lt (pu_var 1 (pv 1)) (pu_len (pv_var 0 (pv 0)) rfl z_len) (nomark _)) (us_one (us_ret (pu_ix (pv_var 0 (pv 0)) (pu_var 1 (pv 1)) (fun _ _ => rfl)))) us_nil) (us_one (us_ret (pu_op ou_add (pu_ix (pv_var 0 (pv 0)) (pu_op ou_mod (pu_var 1 (pv 1)) (pu_len (pv_var 0 (pv 0)) rfl z_len)) (fun _ _ => rfl)) (pu_op ou_mul pu_int (pu_var 1 (pv 1))))))))
theorem der_right (z_isinstance : mg "isinstance" = none) (z_tuple : mg "tuple" = none) (z_len : mg "len" = none) (z_list : mg "list" = none) (z_range : mg "range" = none) (z_all : mg "all" = none)   (F_whole : Fn P w K mg base "_law_whole" ["_law_found"] 1 φ_whole) (F_row : Fn P w K mg base "_law_row" ["_law_found", "_law_many"] 2 φ_row) {f : Addr} {cdv : Value} {A : Around} {outer : List Env} {s : Shared} {H : Hp} {E : XK} (hr : Room 2 (A.deeper (envOfC "_law_right" (defScope s_right) s.heap.objs.size f cdv))) :
    PUSs (cxOf CX0 P w K mg base ["_law_found", "_law_m", "_law_primes_here", "_law_far_here", "_law_last", "_law_row_here", "_law_again"] "_law_right" (defScope s_right) f cdv A outer s H E).nox (defBody s_right) tr_right :=
  (us_cons (us_if (PUW.pt (pw_orU (pt_notU (pt_of (pu_callB cu_isi rfl z_isinstance bt_isinstance (pua_cons (pu_var 0 (pv 0)) (pua_cons (pu_ty rfl z_tuple bt_tuple) pua_nil))))) (pw_or1U (pt_cmpU ou_ne (pu_len (pv_var 0 (pv 0)) rfl z_len) pu_int (nomark _))))) (us_one (us_ret pu_bl)) us_nil) (us_cons (us_if (PUW.pt (pw_orU (pt_notU (pt_of (pu_callB cu_isi rfl z_isinstance bt_isinstance (pua_cons (pu_ix (pv_var 0 (pv 0)) pu_int (fun _ _ => rfl)) (pua_cons (pu_ty rfl z_list bt_list) pua_nil))))) (pw_orU (pt_notU (pt_of (pu_fn F_whole hr (by decide) rfl (pua_cons (pu_ix (pv_var 0 (pv 0)) pu_int (fun _ _ => rfl)) pua_nil)))) (pw_or1U (pt_cmpU ou_lt (pu_ix (pv_var 0 (pv 0)) pu_int (fun _ _ => rfl)) pu_int (nomark _)))))) (us_one (us_ret pu_bl)) us_nil) (us_cons (us_set 3 sc_right.nd rfl (Or.inl rfl) (pu_ix (pv_var 0 (pv 0)) pu_int (fun _ _ => rfl)) (hl := il (n := 7) rfl (by decide))) (us_cons (us_set 4 sc_right.nd rfl (Or.inl rfl) pu_int (hl := il (n := 7) rfl (by decide))) (us_cons (us_for PassesOwn.never rfl (ui_seq (pu_ix (pv_var 0 (pv 0)) pu_int (fun _ _ => rfl))) (ug_name 5 (pg_name sc_right.nd rfl (Or.inl rfl))) (us_cons (us_if (PUW.pt (pw_orU (pt_notU (pt_of (pu_fn F_row hr (by decide) rfl (pua_cons (pu_var 5 (pv 5)) (pua_cons pu_int pua_nil))))) (pw_orU (pt_cmpU ou_le (pu_ix (pv_var 5 (pv 5)) pu_int (fun _ _ => rfl)) (pu_var 4 (pv 4)) (nomark _)) (pw_or1U (pt_cmpU ou_notin (pu_ix (pv_var 5 (pv 5)) pu_int (fun _ _ => rfl)) (pu_var 2 (pv 2)) rfl))))) (us_one (us_ret pu_bl)) us_nil) (us_cons (us_if (PUW.pt (pw_orU (pt_cmpU ou_lt (pu_ix (pv_var 5 (pv 5)) pu_int (fun _ _ => rfl)) pu_int (nomark _)) (pw_or1U (pt_cmpU ou_gt (pu_ix (pv_var 5 (pv 5)) pu_int (fun _ _ => rfl)) pu_int (nomark _))))) (us_one (us_ret pu_bl)) us_nil) (us_cons (us_set 4 sc_right.nd rfl (Or.inl rfl) (pu_ix (pv_var 5 (pv 5)) pu_int (fun _ _ => rfl)) (hl := il (n := 7) rfl (by decide))) (us_one (us_for PassesOwn.never rfl (ui_range1 rfl z_range (pua_cons (pu_ix (pv_var 5 (pv 5)) pu_int (fun _ _ => rfl)) pua_nil)) (ug_name 6 (pg_name sc_right.nd rfl (Or.inl rfl))) (us_one (us_set 3 sc_right.nd rfl (Or.inl rfl) (pu_op ou_mul (pu_var 3 (pv 3)) (pu_ix (pv_var 5 (pv 5)) pu_int (fun _ _ => rfl))) (hl := il (n := 7) rfl (by decide)))))))))) (us_one (us_ret (pu_and (pu_cmp ou_eq (pu_var 3 (pv 3)) (pu_var 1 (pv 1)) (nomark _)) (pu_one (pu_callB (cu_all rfl) rfl z_all bt_all (pua_cons (pu_compL (js := []) (N := ["_law_p", "_law_found", ".acc"]) (cap := [none, some 0, none]) (last := 2) (esc := (defScope s_right).names) (XN := ["_law_found", "_law_m", "_law_primes_here", "_law_far_here", "_law_last", "_law_row_here", "_law_again"]) rfl rfl (by decide +kernel) (by decide) (by decide) rfl (ui_seq (pu_var 2 (pv 2))) (fun _ _ _ _ _ _ => (ug_name 0 (pg_name (show List.Nodup (["_law_p", "_law_found", ".acc"] : List Str) by decide +kernel) rfl (Or.inl rfl)))) (fun _ _ _ _ _ _ => put_nil) (fun _ _ _ _ _ _ => (pu_cmp ou_ne (pu_op ou_mod (pu_ix (pv_var 1 (pv 1)) pu_int (fun _ _ => rfl)) (pu_var 0 (pv 0))) pu_int (nomark _)))) pua_nil)))))))))))
theorem der_law (z_int : mg "int" = none) (z_max : mg "max" = none) (z_abs : mg "abs" = none) (z_range : mg "range" = none) (z_min : mg "min" = none) (z_len : mg "len" = none) (z_isinstance : mg "isinstance" = none) (z_list : mg "list" = none) (z_all : mg "all" = none)   (F_primes : Fn P w K mg base "_law_primes" [] 1 φ_primes) (F_draws : Fn P w K mg base "_law_draws" ["_law_cell_here", "_law_widths", "_law_prime"] 2 φ_draws) (F_cell : Fn P w K mg base "_law_cell" ["_law_script", "_law_k"] 1 φ_cell) (F_far : Fn P w K mg base "_law_far" ["_law_cell_here", "_law_parts", "_law_most", "_law_prime"] 3 φ_far) (F_p_small_primes : Fn P w K mg base "small_primes" [] 1 φ_p_small_primes) (F_whole : Fn P w K mg base "_law_whole" ["_law_found"] 1 φ_whole) (F_p_parted : Fn P w K mg base "parted" ["m"] 2 φ_p_parted) (F_right : Fn P w K mg base "_law_right" ["_law_found", "_law_m", "_law_primes_here"] 3 φ_right) {f : Addr} {cdv : Value} {A : Around} {outer : List Env} {s : Shared} {H : Hp} {E : XK} (hr : Room 3 (A.deeper (envOfC "law" (defScope s_law) s.heap.objs.size f cdv))) :
    PUZs (cxOf CX0 P w K mg base ["_law_script", "_law_primes_here", "_law_most", "_law_m", "_law_k", "_law_found", "_law_again", "_law_told"] "law" (defScope s_law) f cdv A outer s H E).nox (defBody s_law) tr_law :=
  (uz_cons (uz_of (us_set 1 sc_law.nd rfl (Or.inl rfl) (pu_fn0 F_primes hr (by decide) rfl) (hl := il (n := 8) rfl (by decide)))) (uz_cons (uz_of (us_set 2 sc_law.nd rfl (Or.inl rfl) (pu_ix (pv_of (pu_lst (pua_cons (pu_op ou_pow pu_int pu_int) (pua_cons (pu_op ou_mul (pu_op ou_pow pu_int pu_int) (pu_op ou_pow pu_int pu_int)) pua_nil)))) (pu_callTy cu_int rfl z_int bt_int (pua_cons (pu_cmp ou_eq (pu_ix (pv_of (pu_fn F_draws hr (by decide) rfl (pua_cons (pu_fn F_cell hr (by decide) rfl (pua_cons (pu_var 0 (pv 0)) (pua_cons pu_int pua_nil))) (pua_cons (pu_lst (pua_cons pu_int (pua_cons pu_int (pua_cons pu_int pua_nil)))) (pua_cons pu_int pua_nil))))) pu_int (fun _ _ => rfl)) pu_int (nomark _)) pua_nil)) (fun _ _ => rfl)) (hl := il (n := 8) rfl (by decide)))) (uz_cons (uz_of (us_set 3 sc_law.nd rfl (Or.inl rfl) (pu_callB (cu_max rfl) rfl z_max bt_max (pua_cons pu_int (pua_cons (pu_callB cu_abs rfl z_abs bt_abs (pua_cons (pu_fn F_far hr (by decide) rfl (pua_cons (pu_fn F_cell hr (by decide) rfl (pua_cons (pu_var 0 (pv 0)) (pua_cons pu_int pua_nil))) (pua_cons pu_int (pua_cons (pu_var 2 (pv 2)) (pua_cons pu_int pua_nil))))) pua_nil)) pua_nil))) (hl := il (n := 8) rfl (by decide)))) (uz_cons (uz_of (us_for PassesOwn.never rfl (ui_range2 rfl z_range (pua_cons pu_int (pua_cons (pu_callB (cu_max rfl) rfl z_max bt_max (pua_cons pu_int (pua_cons (pu_callB (cu_min rfl) rfl z_min bt_min (pua_cons (pu_len (pv_var 0 (pv 0)) rfl z_len) (pua_cons pu_int pua_nil))) pua_nil))) pua_nil))) (ug_name 4 (pg_name sc_law.nd rfl (Or.inl rfl))) (us_cons (us_set 5 sc_law.nd rfl (Or.inl rfl) (pu_fn F_draws hr (by decide) rfl (pua_cons (pu_fn F_cell hr (by decide) rfl (pua_cons (pu_var 0 (pv 0)) (pua_cons (pu_var 4 (pv 4)) pua_nil))) (pua_cons (pu_lst (pua_cons pu_int (pua_cons pu_int pua_nil))) (pua_cons pu_int pua_nil)))) (hl := il (n := 8) rfl (by decide))) (us_one (us_for PassesOwn.never rfl (ui_range1 rfl z_range (pua_cons (pu_ix (pv_var 5 (pv 5)) pu_int (fun _ _ => rfl)) pua_nil)) (ug_name 6 (pg_name sc_law.nd rfl (Or.inl rfl))) (us_one (us_set 3 sc_law.nd rfl (Or.inl rfl) (pu_op ou_mul (pu_var 3 (pv 3)) (pu_ix (pv_var 1 (pv 1)) (pu_ix (pv_var 5 (pv 5)) pu_int (fun _ _ => rfl)) (fun _ _ => rfl))) (hl := il (n := 8) rfl (by decide))))))))) (uz_cons (uz_of (us_set 7 sc_law.nd rfl (Or.inl rfl) (pu_fn0 F_p_small_primes hr (by decide) rfl) (hl := il (n := 8) rfl (by decide)))) (uz_cons (uz_of (us_if (pt_look (PUW.pt (pw_orU (pt_notU (pt_of (pu_callB cu_isi rfl z_isinstance bt_isinstance (pua_cons (pu_var 7 (pv 7)) (pua_cons (pu_ty rfl z_list bt_list) pua_nil))))) (pw_orU (pt_cmpU (ou_neD hr.units) (pu_var 7 (pv 7)) (pu_var 1 (pv 1)) (nomark _)) (pw_or1U (pt_notU (pt_of (pu_callB (cu_all rfl) rfl z_all bt_all (pua_cons (pu_compL (js := []) (N := ["_law_p", ".acc"]) (cap := [none, none]) (last := 1) (esc := (defScope s_law).names) (XN := ["_law_script", "_law_primes_here", "_law_most", "_law_m", "_law_k", "_law_found", "_law_again", "_law_told"]) rfl rfl (by decide +kernel) (by decide) (by decide) rfl (ui_seq (pu_var 7 (pv 7))) (fun _ _ _ _ _ _ => (ug_name 0 (pg_name (show List.Nodup (["_law_p", ".acc"] : List Str) by decide +kernel) rfl (Or.inl rfl)))) (fun _ _ _ _ _ _ => put_nil) (fun _ _ _ _ _ _ => (pu_fn F_whole hr (by decide) rfl (pua_cons (pu_var 0 (pv 0)) pua_nil)))) pua_nil))))))))) (us_one (us_ret pu_bl)) us_nil)) (uz_cons (uz_of (us_append 7 (pv 7) pu_int)) (uz_cons (uz_of (us_setItem 7 (pv 7) pu_int pu_int)) (uz_cons (uz_of (us_set 5 sc_law.nd rfl (Or.inl rfl) (pu_fn F_p_parted hr (by decide) rfl (pua_cons (pu_var 3 (pv 3)) pua_nil)) (hl := il (n := 8) rfl (by decide)))) (uz_cons (uz_of (us_if (pt_look (pt_notU (pt_of (pu_fn F_right hr (by decide) rfl (pua_cons (pu_var 5 (pv 5)) (pua_cons (pu_var 3 (pv 3)) (pua_cons (pu_var 1 (pv 1)) pua_nil))))))) (us_one (us_ret pu_bl)) us_nil)) (uz_cons (uz_append (pu_ix (pv_var 5 (pv 5)) pu_int (fun _ _ => rfl)) (pu_tup (pua_cons pu_int (pua_cons pu_int pua_nil)))) (uz_one (uz_of (us_ret (pu_and (pu_cmp (ou_eqD hr.units) (pu_fn0 F_p_small_primes hr (by decide) rfl) (pu_var 1 (pv 1)) (nomark _)) (pu_one (pu_fn F_right hr (by decide) rfl (pua_cons (pu_fn F_p_parted hr (by decide) rfl (pua_cons (pu_var 3 (pv 3)) pua_nil)) (pua_cons (pu_var 3 (pv 3)) (pua_cons (pu_var 1 (pv 1)) pua_nil))))))))))))))))))))
end
theorem all_mk {l : PySem.W.OpenLaw} {w : World} {K : PySem.W.Frag} {h : Heap} {mg : Str → Option Value} {fa f1 f2 f3 f4 f5 f6 f7 f8 f9 f10 f11 f12 : Addr} (X : K.In h) (G : h.Ns mainGlobals mg) (hfa : mg "law" = some (.ref fa))
    {od1 an1 od2 an2 od3 an3 od4 an4 od5 an5 od6 an6 od7 an7 od8 an8 od9 an9 od10 an10 od11 an11 od12 an12 : Option Addr} {sl1 sl2 sl3 sl4 sl5 sl6 sl7 sl8 sl9 sl10 sl11 sl12 : Array (Option Value)} {oc1 kV1 dc1 pm1 cd1 ct1 oc2 kV2 dc2 pm2 cd2 ct2 oc3 kV3 dc3 pm3 cd3 ct3 oc4 kV4 dc4 pm4 cd4 ct4 oc5 kV5 dc5 pm5 cd5 ct5 oc6 kV6 dc6 pm6 cd6 ct6 oc7 kV7 dc7 pm7 cd7 ct7 oc8 kV8 dc8 pm8 cd8 ct8 oc9 kV9 dc9 pm9 cd9 ct9 oc10 kV10 dc10 pm10 cd10 ct10 oc11 kV11 dc11 pm11 cd11 ct11 oc12 kV12 dc12 pm12 cd12 ct12 : Value}
    (a1 : PySem.W.nsIn K mainGlobals "small_primes" = some (some (.ref f1))) (l1 : K.lookup f1 = some ⟨oc1, od1, .func (PySem.W.fnOf "small_primes" "small_primes" (defArgs s_p_small_primes) (defBody s_p_small_primes) (defScope s_p_small_primes) .none kV1 dc1 pm1 an1 cd1 ct1), sl1⟩) (c1 : PySem.W.codeIn K cd1 "small_primes" = true) (k1 : PySem.W.keepIn K (.ref f1) = true)
    (a2 : PySem.W.nsIn K mainGlobals "parted" = some (some (.ref f2))) (l2 : K.lookup f2 = some ⟨oc2, od2, .func (PySem.W.fnOf "parted" "parted" (defArgs s_p_parted) (defBody s_p_parted) (defScope s_p_parted) .none kV2 dc2 pm2 an2 cd2 ct2), sl2⟩) (c2 : PySem.W.codeIn K cd2 "parted" = true) (k2 : PySem.W.keepIn K (.ref f2) = true)
    (a3 : PySem.W.nsIn K mainGlobals "divided_out" = some (some (.ref f3))) (l3 : K.lookup f3 = some ⟨oc3, od3, .func (PySem.W.fnOf "divided_out" "divided_out" (defArgs s_p_divided_out) (defBody s_p_divided_out) (defScope s_p_divided_out) .none kV3 dc3 pm3 an3 cd3 ct3), sl3⟩) (c3 : PySem.W.codeIn K cd3 "divided_out" = true) (k3 : PySem.W.keepIn K (.ref f3) = true)
    (a4 : PySem.W.nsIn K mainGlobals "_law_whole" = some (some (.ref f4))) (l4 : K.lookup f4 = some ⟨oc4, od4, .func (PySem.W.fnOf "_law_whole" "_law_whole" (defArgs s_whole) (defBody s_whole) (defScope s_whole) .none kV4 dc4 pm4 an4 cd4 ct4), sl4⟩) (c4 : PySem.W.codeIn K cd4 "_law_whole" = true) (k4 : PySem.W.keepIn K (.ref f4) = true)
    (a5 : PySem.W.nsIn K mainGlobals "_law_row" = some (some (.ref f5))) (l5 : K.lookup f5 = some ⟨oc5, od5, .func (PySem.W.fnOf "_law_row" "_law_row" (defArgs s_row) (defBody s_row) (defScope s_row) .none kV5 dc5 pm5 an5 cd5 ct5), sl5⟩) (c5 : PySem.W.codeIn K cd5 "_law_row" = true) (k5 : PySem.W.keepIn K (.ref f5) = true)
    (a6 : PySem.W.nsIn K mainGlobals "_law_primes" = some (some (.ref f6))) (l6 : K.lookup f6 = some ⟨oc6, od6, .func (PySem.W.fnOf "_law_primes" "_law_primes" (defArgs s_primes) (defBody s_primes) (defScope s_primes) .none kV6 dc6 pm6 an6 cd6 ct6), sl6⟩) (c6 : PySem.W.codeIn K cd6 "_law_primes" = true) (k6 : PySem.W.keepIn K (.ref f6) = true)
    (a7 : PySem.W.nsIn K mainGlobals "_law_mixed" = some (some (.ref f7))) (l7 : K.lookup f7 = some ⟨oc7, od7, .func (PySem.W.fnOf "_law_mixed" "_law_mixed" (defArgs s_mixed) (defBody s_mixed) (defScope s_mixed) .none kV7 dc7 pm7 an7 cd7 ct7), sl7⟩) (c7 : PySem.W.codeIn K cd7 "_law_mixed" = true) (k7 : PySem.W.keepIn K (.ref f7) = true)
    (a8 : PySem.W.nsIn K mainGlobals "_law_draws" = some (some (.ref f8))) (l8 : K.lookup f8 = some ⟨oc8, od8, .func (PySem.W.fnOf "_law_draws" "_law_draws" (defArgs s_draws) (defBody s_draws) (defScope s_draws) .none kV8 dc8 pm8 an8 cd8 ct8), sl8⟩) (c8 : PySem.W.codeIn K cd8 "_law_draws" = true) (k8 : PySem.W.keepIn K (.ref f8) = true)
    (a9 : PySem.W.nsIn K mainGlobals "_law_far" = some (some (.ref f9))) (l9 : K.lookup f9 = some ⟨oc9, od9, .func (PySem.W.fnOf "_law_far" "_law_far" (defArgs s_far) (defBody s_far) (defScope s_far) .none kV9 dc9 pm9 an9 cd9 ct9), sl9⟩) (c9 : PySem.W.codeIn K cd9 "_law_far" = true) (k9 : PySem.W.keepIn K (.ref f9) = true)
    (a10 : PySem.W.nsIn K mainGlobals "_law_cell" = some (some (.ref f10))) (l10 : K.lookup f10 = some ⟨oc10, od10, .func (PySem.W.fnOf "_law_cell" "_law_cell" (defArgs s_cell) (defBody s_cell) (defScope s_cell) .none kV10 dc10 pm10 an10 cd10 ct10), sl10⟩) (c10 : PySem.W.codeIn K cd10 "_law_cell" = true) (k10 : PySem.W.keepIn K (.ref f10) = true)
    (a11 : PySem.W.nsIn K mainGlobals "_law_right" = some (some (.ref f11))) (l11 : K.lookup f11 = some ⟨oc11, od11, .func (PySem.W.fnOf "_law_right" "_law_right" (defArgs s_right) (defBody s_right) (defScope s_right) .none kV11 dc11 pm11 an11 cd11 ct11), sl11⟩) (c11 : PySem.W.codeIn K cd11 "_law_right" = true) (k11 : PySem.W.keepIn K (.ref f11) = true)
    (a12 : PySem.W.nsIn K mainGlobals "law" = some (some (.ref f12))) (l12 : K.lookup f12 = some ⟨oc12, od12, .func (PySem.W.fnOf "law" "law" (defArgs s_law) (defBody s_law) (defScope s_law) .none kV12 dc12 pm12 an12 cd12 ct12), sl12⟩) (c12 : PySem.W.codeIn K cd12 "law" = true) (k12 : PySem.W.keepIn K (.ref f12) = true)
    (z_list : PySem.W.nsIn K mainGlobals "list" = some none)
    (z_isinstance : PySem.W.nsIn K mainGlobals "isinstance" = some none)
    (z_int : PySem.W.nsIn K mainGlobals "int" = some none)
    (z_bool : PySem.W.nsIn K mainGlobals "bool" = some none)
    (z_tuple : PySem.W.nsIn K mainGlobals "tuple" = some none)
    (z_len : PySem.W.nsIn K mainGlobals "len" = some none)
    (z_all : PySem.W.nsIn K mainGlobals "all" = some none)
    (z_range : PySem.W.nsIn K mainGlobals "range" = some none)
    (z_max : PySem.W.nsIn K mainGlobals "max" = some none)
    (z_abs : PySem.W.nsIn K mainGlobals "abs" = some none)
    (z_min : PySem.W.nsIn K mainGlobals "min" = some none)
    {a_SMALL_PRIMES : Addr} {od_SMALL_PRIMES : Option Addr} {its_SMALL_PRIMES : Array Value} {n_SMALL_PRIMES : Nat} {sl_SMALL_PRIMES : Array (Option Value)} (g_SMALL_PRIMES : PySem.W.nsIn K mainGlobals "SMALL_PRIMES" = some (some (.ref a_SMALL_PRIMES))) (lk_SMALL_PRIMES : K.lookup a_SMALL_PRIMES = some ⟨.type "tuple", od_SMALL_PRIMES, .seq its_SMALL_PRIMES n_SMALL_PRIMES, sl_SMALL_PRIMES⟩) (hz_SMALL_PRIMES : its_SMALL_PRIMES.size ≤ sizeLine) (hv_SMALL_PRIMES : Vals (T_SMALL_PRIMES.map V.int) its_SMALL_PRIMES.toList) :
    ∃ fd : FuncData, (∀ (s : Shared) (v : Value), BindsTo s fd ⟨[v], []⟩ [("_law_script", v)]) ∧ ∀ base : Heap, K.In base → base.Ns mainGlobals mg → FnOk l.prog w K mg base CX0 4 fa fd ["_law_script"] (spZ K) := by
  have e := hfa.symm.trans (PySem.W.mg_of X G a12)
  cases e
  have z_list := PySem.W.mg_none_of X G z_list
  have z_isinstance := PySem.W.mg_none_of X G z_isinstance
  have z_int := PySem.W.mg_none_of X G z_int
  have z_bool := PySem.W.mg_none_of X G z_bool
  have z_tuple := PySem.W.mg_none_of X G z_tuple
  have z_len := PySem.W.mg_none_of X G z_len
  have z_all := PySem.W.mg_none_of X G z_all
  have z_range := PySem.W.mg_none_of X G z_range
  have z_max := PySem.W.mg_none_of X G z_max
  have z_abs := PySem.W.mg_none_of X G z_abs
  have z_min := PySem.W.mg_none_of X G z_min
  have g_SMALL_PRIMES := PySem.W.mg_of X G g_SMALL_PRIMES
  have k_SMALL_PRIMES : KT K a_SMALL_PRIMES (T_SMALL_PRIMES.map V.int) := kt_of lk_SMALL_PRIMES hz_SMALL_PRIMES hv_SMALL_PRIMES
  have U1 := fun_mk (st := s_p_small_primes) l1 c1 k1
  have U2 := fun_mk (st := s_p_parted) l2 c2 k2
  have U3 := fun_mk (st := s_p_divided_out) l3 c3 k3
  have U4 := fun_mk (st := s_whole) l4 c4 k4
  have U5 := fun_mk (st := s_row) l5 c5 k5
  have U6 := fun_mk (st := s_primes) l6 c6 k6
  have U7 := fun_mk (st := s_mixed) l7 c7 k7
  have U8 := fun_mk (st := s_draws) l8 c8 k8
  have U9 := fun_mk (st := s_far) l9 c9 k9
  have U10 := fun_mk (st := s_cell) l10 c10 k10
  have U11 := fun_mk (st := s_right) l11 c11 k11
  have U12 := fun_mk (st := s_law) l12 c12 k12
  refine ⟨PySem.W.fnOf "law" "law" (defArgs s_law) (defBody s_law) (defScope s_law) .none kV12 dc12 pm12 an12 cd12 ct12, fun s v => .of_eq rfl, fun base _ _ => ?_⟩
  have F_p_small_primes : Fn l.prog w K mg base "small_primes" [] 1 φ_p_small_primes := Fn.mk' U1 (PySem.W.mg_of X G a1) (U1.binds (ps := []) fun _ _ _ _ _ _ us hl => match us, hl with | [], _ => rfl) sc_p_small_primes len_p_small_primes (fun cdv A outer s H E hr => der_p_small_primes z_list  g_SMALL_PRIMES k_SMALL_PRIMES  hr) rd_p_small_primes
  have F_p_divided_out : Fn l.prog w K mg base "divided_out" ["m", "p"] 1 φ_p_divided_out := Fn.mk' U3 (PySem.W.mg_of X G a3) (U3.binds (ps := ["m", "p"]) fun _ _ _ _ _ _ us hl => match us, hl with | [_, _], _ => rfl) sc_p_divided_out len_p_divided_out (fun cdv A outer s H E hr => der_p_divided_out     hr) rd_p_divided_out
  have F_p_parted : Fn l.prog w K mg base "parted" ["m"] 2 φ_p_parted := Fn.mk' U2 (PySem.W.mg_of X G a2) (U2.binds (ps := ["m"]) fun _ _ _ _ _ _ us hl => match us, hl with | [_], _ => rfl) sc_p_parted len_p_parted (fun cdv A outer s H E hr => der_p_parted   g_SMALL_PRIMES k_SMALL_PRIMES F_p_divided_out hr) rd_p_parted
  have F_whole : Fn l.prog w K mg base "_law_whole" ["_law_found"] 1 φ_whole := Fn.mk' U4 (PySem.W.mg_of X G a4) (U4.binds (ps := ["_law_found"]) fun _ _ _ _ _ _ us hl => match us, hl with | [_], _ => rfl) sc_whole len_whole (fun cdv A outer s H E hr => der_whole z_isinstance z_int z_bool    hr) rd_whole
  have F_row : Fn l.prog w K mg base "_law_row" ["_law_found", "_law_many"] 2 φ_row := Fn.mk' U5 (PySem.W.mg_of X G a5) (U5.binds (ps := ["_law_found", "_law_many"]) fun _ _ _ _ _ _ us hl => match us, hl with | [_, _], _ => rfl) sc_row len_row (fun cdv A outer s H E hr => der_row z_isinstance z_tuple z_len z_all   F_whole hr) rd_row
  have F_primes : Fn l.prog w K mg base "_law_primes" [] 1 φ_primes := Fn.mk' U6 (PySem.W.mg_of X G a6) (U6.binds (ps := []) fun _ _ _ _ _ _ us hl => match us, hl with | [], _ => rfl) sc_primes len_primes (fun cdv A outer s H E hr => der_primes z_range z_all    hr) rd_primes
  have F_mixed : Fn l.prog w K mg base "_law_mixed" ["_law_cell_here", "_law_k", "_law_prime"] 1 φ_mixed := Fn.mk' U7 (PySem.W.mg_of X G a7) (U7.binds (ps := ["_law_cell_here", "_law_k", "_law_prime"]) fun _ _ _ _ _ _ us hl => match us, hl with | [_, _, _], _ => rfl) sc_mixed len_mixed (fun cdv A outer s H E hr => der_mixed     hr) rd_mixed
  have F_draws : Fn l.prog w K mg base "_law_draws" ["_law_cell_here", "_law_widths", "_law_prime"] 2 φ_draws := Fn.mk' U8 (PySem.W.mg_of X G a8) (U8.binds (ps := ["_law_cell_here", "_law_widths", "_law_prime"]) fun _ _ _ _ _ _ us hl => match us, hl with | [_, _, _], _ => rfl) sc_draws len_draws (fun cdv A outer s H E hr => der_draws z_range z_len   F_mixed hr) rd_draws
  have F_far : Fn l.prog w K mg base "_law_far" ["_law_cell_here", "_law_parts", "_law_most", "_law_prime"] 3 φ_far := Fn.mk' U9 (PySem.W.mg_of X G a9) (U9.binds (ps := ["_law_cell_here", "_law_parts", "_law_most", "_law_prime"]) fun _ _ _ _ _ _ us hl => match us, hl with | [_, _, _, _], _ => rfl) sc_far len_far (fun cdv A outer s H E hr => der_far    F_draws hr) rd_far
  have F_cell : Fn l.prog w K mg base "_law_cell" ["_law_script", "_law_k"] 1 φ_cell := Fn.mk' U10 (PySem.W.mg_of X G a10) (U10.binds (ps := ["_law_script", "_law_k"]) fun _ _ _ _ _ _ us hl => match us, hl with | [_, _], _ => rfl) sc_cell len_cell (fun cdv A outer s H E hr => der_cell z_len    hr) rd_cell
  have F_right : Fn l.prog w K mg base "_law_right" ["_law_found", "_law_m", "_law_primes_here"] 3 φ_right := Fn.mk' U11 (PySem.W.mg_of X G a11) (U11.binds (ps := ["_law_found", "_law_m", "_law_primes_here"]) fun _ _ _ _ _ _ us hl => match us, hl with | [_, _, _], _ => rfl) sc_right len_right (fun cdv A outer s H E hr => der_right z_isinstance z_tuple z_len z_list z_range z_all   F_whole F_row hr) rd_right
  exact fn_pureZ U12 sc_law  (fun cdv A outer s H E hr => ⟨tr_law, der_law z_int z_max z_abs z_range z_min z_len z_isinstance z_list z_all   F_primes F_draws F_cell F_far F_p_small_primes F_whole F_p_parted F_right hr, rd_law⟩)
end M
open PySem PySem.W PyProof.Rows
set_option maxRecDepth 100000 in
set_option maxHeartbeats 0 in
theorem PySem.Challenge.cw_ringhouse_k03_parted_holds : PySem.Challenge.rw_ringhouse_k03_parted.Holds := by
  w_on; o_law; k_head; (case hw => w_witness2)
  k_fill
  refine M.walkZ (l := PySem.Challenge.rw_ringhouse_k03_parted) (k := 4) (x := "_law_script") rfl rfl ⟨rfl, by decide, by decide⟩ (fun w h Y => PySem.W.kIn_of Y) ?F
  case F =>
    intro w mg fa h KX G hmg
    refine' M.all_mk KX G hmg ?a1 ?l1 ?c1 ?k1 ?a2 ?l2 ?c2 ?k2 ?a3 ?l3 ?c3 ?k3 ?a4 ?l4 ?c4 ?k4 ?a5 ?l5 ?c5 ?k5 ?a6 ?l6 ?c6 ?k6 ?a7 ?l7 ?c7 ?k7 ?a8 ?l8 ?c8 ?k8 ?a9 ?l9 ?c9 ?k9 ?a10 ?l10 ?c10 ?k10 ?a11 ?l11 ?c11 ?k11 ?a12 ?l12 ?c12 ?k12 ?z_list ?z_isinstance ?z_int ?z_bool ?z_tuple ?z_len ?z_all ?z_range ?z_max ?z_abs ?z_min ?g_SMALL_PRIMES ?lk_SMALL_PRIMES ?hz_SMALL_PRIMES ?hv_SMALL_PRIMES
    (case a1 => k_is); (case l1 => k_is); (case c1 => k_is); (case k1 => k_is); (case a2 => k_is); (case l2 => k_is); (case c2 => k_is); (case k2 => k_is); (case a3 => k_is); (case l3 => k_is); (case c3 => k_is); (case k3 => k_is); (case a4 => k_is); (case l4 => k_is); (case c4 => k_is); (case k4 => k_is); (case a5 => k_is); (case l5 => k_is); (case c5 => k_is); (case k5 => k_is); (case a6 => k_is); (case l6 => k_is); (case c6 => k_is); (case k6 => k_is); (case a7 => k_is); (case l7 => k_is); (case c7 => k_is); (case k7 => k_is); (case a8 => k_is); (case l8 => k_is); (case c8 => k_is); (case k8 => k_is); (case a9 => k_is); (case l9 => k_is); (case c9 => k_is); (case k9 => k_is); (case a10 => k_is); (case l10 => k_is); (case c10 => k_is); (case k10 => k_is); (case a11 => k_is); (case l11 => k_is); (case c11 => k_is); (case k11 => k_is); (case a12 => k_is); (case l12 => k_is); (case c12 => k_is); (case k12 => k_is); (case z_list => k_is); (case z_isinstance => k_is); (case z_int => k_is); (case z_bool => k_is); (case z_tuple => k_is); (case z_len => k_is); (case z_all => k_is); (case z_range => k_is); (case z_max => k_is); (case z_abs => k_is); (case z_min => k_is); (case g_SMALL_PRIMES => k_is); (case lk_SMALL_PRIMES => k_is)
    (case hz_SMALL_PRIMES => first | decide | (trace_state; decide +kernel)); (case hv_SMALL_PRIMES => first | (show L2.Vals (List.map _ _) (List.toList _); simp only [M.T_SMALL_PRIMES, List.map]; repeat (first | exact .nil | refine .cons (.int _ _) ?_)) | (repeat constructor) | trace_state)
