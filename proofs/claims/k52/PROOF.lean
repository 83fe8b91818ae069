import PyProof.Rows.All
import Wide.All
import OpenK.AllK
import Wide.FinOn
import Lean
import PyProof.EqAt
import PyProof.EqKinds
import PyProof.TupleCall
import PySem.Challenge.RW_glidequeue_k52_items_written
set_option Elab.async false
set_option linter.all false
set_option maxRecDepth 100000
/-! THE HAND LAYER, for ints, bools, texts, own classes, LISTS and tuples (index, slices, in, append, pop ..), calls, loops. Paste it whole ahead of your own text; what your proof does not reach may be deleted. -/
namespace L2
open PySem PySem.Spec PyProof.Rows

/-- a key: an int or a str -/
abbrev Key := Sum Int Str
def keyIs : Key → Value → Bool
  | .inl k, v => Value.isInt k v
  | .inr x, v => Value.isStrOf x v
def keyH (w : World) : Key → Int
  | .inl k => hashInt k
  | .inr x => hashStr w x
theorem keyIs_shape : ∀ {k : Key} {v : Value}, keyIs k v = true → (∃ i t, k = Sum.inl i ∧ v = Value.int i t) ∨ (∃ x t, k = Sum.inr x ∧ v = Value.str x t)
  | .inl i, v, h => by
    obtain ⟨t, e⟩ := Value.isInt_shape (k := i) (v := v) h
    exact .inl ⟨i, t, rfl, e⟩
  | .inr x, v, h => by
    obtain ⟨t, e⟩ := Value.isStrOf_shape (x := x) (v := v) h
    exact .inr ⟨x, t, rfl, e⟩
theorem key_ll (a b : Int) : decide ((Sum.inl a : Key) = Sum.inl b) = (a == b) := by
  by_cases e : a = b
  · subst e; simp
  · have h : ¬ (Sum.inl a : Key) = Sum.inl b := fun q => e (Sum.inl.inj q)
    rw [decide_eq_false h]
    exact (beq_eq_false_iff_ne.mpr e).symm
theorem key_rr (a b : Str) : decide ((Sum.inr a : Key) = Sum.inr b) = decide (a = b) := by
  by_cases e : a = b
  · subst e; simp
  · have h : ¬ (Sum.inr a : Key) = Sum.inr b := fun q => e (Sum.inr.inj q)
    rw [decide_eq_false h, decide_eq_false e]
theorem key_lr (a : Int) (b : Str) : decide ((Sum.inl a : Key) = Sum.inr b) = false := decide_eq_false (fun q => nomatch q)
theorem key_rl (a : Str) (b : Int) : decide ((Sum.inr a : Key) = Sum.inl b) = false := decide_eq_false (fun q => nomatch q)

def mixKind (prog : Program) (w : World) : PySem.KeyKind prog w Key where
  is := keyIs
  hash := keyH w
  inj := fun v a b ha hb => by
    rcases keyIs_shape ha with ⟨i, t, rfl, rfl⟩ | ⟨x, t, rfl, rfl⟩
    · rcases keyIs_shape hb with ⟨j, u, rfl, e⟩ | ⟨y, u, rfl, e⟩
      · injection e with e1 _; rw [e1]
      · exact nomatch e
    · rcases keyIs_shape hb with ⟨j, u, rfl, e⟩ | ⟨y, u, rfl, e⟩
      · exact nomatch e
      · injection e with e1 _; rw [e1]
  byValue := fun k v h => by
    rcases keyIs_shape h with ⟨i, t, rfl, rfl⟩ | ⟨x, t, rfl, rfl⟩ <;> rfl
  pyHash := fun hv h => by
    rcases keyIs_shape hv with ⟨i, t, rfl, rfl⟩ | ⟨x, t, rfl, rfl⟩
    · exact wpAny_pyHash_int h
    · exact wpAny_pyHash_str h
  eqBool := fun hu hv h => by
    rcases keyIs_shape hu with ⟨i, t, rfl, rfl⟩ | ⟨x, t, rfl, rfl⟩
    · rcases keyIs_shape hv with ⟨j, u, rfl, rfl⟩ | ⟨y, u, rfl, rfl⟩
      · rw [key_ll] at h; exact wpAny_eqBool_int h
      · rw [key_lr] at h; exact SeqAt.EqAt.int_str i t y u _ _ _ _ h
    · rcases keyIs_shape hv with ⟨j, u, rfl, rfl⟩ | ⟨y, u, rfl, rfl⟩
      · rw [key_rl] at h; exact SeqAt.EqAt.str_int x t j u _ _ _ _ h
      · rw [key_rr] at h; exact wpAny_eqBool_str h
  «strs» := fun k x t v h => by
    rcases keyIs_shape h with ⟨i, u, rfl, e⟩ | ⟨y, u, rfl, e⟩
    · exact nomatch e
    · injection e with e1 _
      subst e1
      cases v <;> rfl

end L2

namespace L2
open PySem PySem.Spec PyProof.Rows

/-- a value, without the heap -/
inductive V where
  | non | bl (b : Bool) | int (i : Int) | str (x : Str) | byt (b : Array UInt8) | flt (b : UInt64) | ref (a : Addr) | ty (n : String)
  deriving DecidableEq

def RelV : V → Value → Prop
  | .non, u => u = Value.none
  | .bl b, u => u = Value.bool b
  | .int i, u => ∃ t, u = Value.int i t
  | .str x, u => ∃ t, u = Value.str x t
  | .byt b, u => ∃ t, u = Value.bytes b t
  | .flt b, u => ∃ t, u = Value.float b t
  | .ref a, u => u = Value.ref a
  | .ty n, u => u = Value.type n

abbrev Vals : List V → List Value → Prop := Paired RelV
theorem Vals.length {xs : List V} {us : List Value} (r : Vals xs us) : xs.length = us.length := Paired.length r
theorem Vals.get : ∀ {xs : List V} {us : List Value} {i : Nat} {x : V}, Vals xs us → xs[i]? = some x → ∃ u, us[i]? = some u ∧ RelV x u
  | _, _, _, _, .nil, e => by simp at e
  | _, _, 0, _, .cons r _, e => by simp at e; subst e; exact ⟨_, rfl, r⟩
  | _, _, i + 1, x, .cons _ t, e => by
    obtain ⟨u, h1, h2⟩ := Vals.get (i := i) (x := x) t (by simpa using e)
    exact ⟨u, by simpa using h1, h2⟩
theorem Vals.set {x : V} {u : Value} (r : RelV x u) : ∀ {xs : List V} {us : List Value} (i : Nat), Vals xs us → Vals (xs.set i x) (us.set i u)
  | _, _, _, .nil => .nil
  | _, _, 0, .cons _ t => .cons r t
  | _, _, i + 1, .cons q t => .cons q (Vals.set r i t)
theorem Vals.append : ∀ {xs ys : List V} {us ws : List Value}, Vals xs us → Vals ys ws → Vals (xs ++ ys) (us ++ ws)
  | _, _, _, _, .nil, s => s
  | _, _, _, _, .cons r t, s => .cons r (Vals.append t s)
theorem Vals.take : ∀ {xs : List V} {us : List Value} (n : Nat), Vals xs us → Vals (xs.take n) (us.take n)
  | _, _, 0, _ => .nil
  | _, _, _ + 1, .nil => .nil
  | _, _, n + 1, .cons r t => .cons r (Vals.take n t)
def RelO : Option V → Option Value → Prop
  | some v, some u => RelV v u
  | none, none => True
  | _, _ => False
def KV {κ : Type} : List (κ × V) → List (κ × Value) → Prop := Paired fun (p : κ × V) (q : κ × Value) => p.1 = q.1 ∧ RelV p.2 q.2

/-- a key of a dict (00_mix): an int or a text -/
def kV : Key → V
  | .inl i => .int i
  | .inr x => .str x

/-- what stands at a tracked address -/
inductive HO where
  /-- a list -/
  | lst (xs : List V)
  /-- a tuple (never changes) -/
  | tup (xs : List V)
  /-- a dict whose keys are ints and texts; one whose keys are tuples of ints and texts (the empty one is both) -/
  | dK (kvs : List (Key × V)) | dT (kvs : List (List Key × V))
  /-- a set of ints: its members, its size -/
  | set (S : Int → Bool) (n : Nat)
  /-- an instance of the class at C, its dict at dx, its attributes -/
  | ins (C dx : Addr) (fs : List (Str × V))
  /-- the dict of the instance at x -/
  | own (x : Addr)
  /-- the dict of an exception -/
  | xd (fs : List (Str × V))
  /-- a bound method, f of x -/
  | met (f x : Addr)
  /-- a range object lo, lo + 1, .. below hi -/
  | rng (lo hi : Int)
  /-- a thing that is known to the object (the script; a dict while a loop walks it): read, never written while it is so -/
  | frz (o : Obj) (u : HO)
  /-- a code object's table -/
  | tbl (ps : Array Value)
  /-- any other thing, by what is true of its one object (a def of one's own: SetO a S n := HO.ext fun h => ..) -/
  | ext (φ : Heap → Prop)

abbrev Hp := Addr → Option HO
def upd (H : Hp) (a : Addr) (o : HO) : Hp := fun b => if b = a then some o else H b
theorem upd_same {H : Hp} {a : Addr} {o : HO} : upd H a o a = some o := by unfold upd; rw [if_pos rfl]
theorem upd_ne {H : Hp} {a b : Addr} {o : HO} (h : b ≠ a) : upd H a o b = H b := by unfold upd; rw [if_neg h]
/-- two objects of different content stand apart -/
theorem ne_of {H : Hp} {a b : Addr} {o u : HO} (h : H a = some o) (h' : H b = some u) (d : o ≠ u) : a ≠ b := by
  intro e; subst e; rw [h] at h'; exact d (Option.some.inj h')
theorem ne_of_none {H : Hp} {a b : Addr} {o : HO} (h : H a = some o) (h' : H b = none) : a ≠ b := by
  intro e; subst e; rw [h] at h'; cases h'

section
variable (P : Program) (w : World)
def ObjOk (H : Hp) (h : Heap) (a : Addr) : HO → Prop
  | .lst xs => xs.length ≤ sizeLine ∧ ∃ (its : List Value) (n : Nat), Vals xs its ∧ h.get? a = some { cls := .type "list", data := .seq its.toArray n }
  | .tup xs => xs.length ≤ sizeLine ∧ ∃ its : List Value, Vals xs its ∧ IsTup h a its.toArray
  | .dK kvs => kvs.length ≤ sizeLine ∧ (a == sysModules) = false ∧ ∃ vs, KV kvs vs ∧ h.DictOf (mixKind P w) a vs
  | .dT kvs => kvs.length ≤ sizeLine ∧ (a == sysModules) = false ∧ ∃ xs : List (List Key × Addr × Value),
      Paired (fun (p : List Key × V) (q : List Key × Addr × Value) => p.1 = q.1 ∧ H q.2.1 = some (.tup (p.1.map kV)) ∧ RelV p.2 q.2.2) kvs xs ∧
      ∃ o es ep, h.get? a = some o ∧ o.ExactDict ∧ o.data = .dict es ep ∧ es.toList = xs.map (entryOfKey (tupleKind (mixKind P w))) ∧ (xs.map (·.1)).Nodup
  | .set S n => h.SetOf (intKind P w) a S n
  | .ins C dx fs => H dx = some (.own a) ∧ fs.length ≤ 1000 ∧ dx ≠ a ∧ h.get? a = some (PySem.W.instObj C dx) ∧
      ∃ mA, h.Ns1 dx mA ∧ (∀ f, RelO (fs.lookup f) (mA f)) ∧ PySem.Within mA (fs.map (·.1))
  | .own _ => ∃ o, h.get? a = some o
  | .xd fs => ∃ mA, h.Ns1 a mA ∧ ∀ f, RelO (fs.lookup f) (mA f)
  | .rng lo hi => ∃ t u v, h.get? a = some { cls := .type "range", data := .fields #[.int lo t, .int hi u, .int 1 v] }
  | .frz o u => h.get? a = some o ∧ ObjOk H h a u
  | .tbl ps => h.get? a = some { cls := .none, data := .fields ps }
  | .met f x => h.get? a = some (PySem.W.methodObj (.ref f) (.ref x))
  | .ext φ => φ h ∧ (∃ o, h.get? a = some o) ∧ ∀ h1 h2 : Heap, φ h1 → (∀ o, h1.get? a = some o → h2.get? a = some o) → φ h2
/-- the abstract heap is held -/
def HOk (H : Hp) (h : Heap) : Prop := ∀ a o, H a = some o → ObjOk P w H h a o
end

section
variable {P : Program} {w : World} {H H' : Hp} {h h' : Heap} {a : Addr} {o : HO}
theorem ObjOk.lt (x : ObjOk P w H h a o) : a < h.objs.size := by
  cases o with
  | lst xs => obtain ⟨_, _, _, _, e⟩ := x; exact Heap.lt_size e
  | tup xs => obtain ⟨_, _, _, p⟩ := x; exact p.lt
  | dK kvs => obtain ⟨_, _, _, _, o, _, _, e, _⟩ := x; exact Heap.lt_size e
  | dT kvs => obtain ⟨_, _, _, _, o, _, _, e, _⟩ := x; exact Heap.lt_size e
  | set S n => obtain ⟨o, _, _, _, e, _⟩ := x; exact Heap.lt_size e
  | ins C dx fs => obtain ⟨_, _, _, e, _⟩ := x; exact Heap.lt_size e
  | own y => obtain ⟨_, e⟩ := x; exact Heap.lt_size e
  | xd fs => obtain ⟨_, ⟨_, _, _, e, _⟩, _⟩ := x; exact Heap.lt_size e
  | rng lo hi => obtain ⟨_, _, _, e⟩ := x; exact Heap.lt_size e
  | frz ob u => obtain ⟨e, _⟩ := x; exact Heap.lt_size e
  | tbl ps => exact Heap.lt_size (show h.get? a = some _ from x)
  | met f y => exact Heap.lt_size (show h.get? a = some _ from x)
  | ext φ => obtain ⟨_, ⟨_, e⟩, _⟩ := x; exact Heap.lt_size e
theorem Paired.mapP {α β : Type} {F G : α → β → Prop} : ∀ {l₁ : List α} {l₂ : List β}, Paired F l₁ l₂ → (∀ a b, F a b → G a b) → Paired G l₁ l₂
  | _, _, .nil, _ => .nil
  | _, _, .cons r t, f => .cons (f _ _ r) (Paired.mapP t f)
/-- what an object's description leans on: its own object, its own dict, the tuples -/
theorem ObjOk.stay (x : ObjOk P w H h a o) (k : ∀ b u, (b = a ∨ H b = some (.own a)) → h.get? b = some u → h'.get? b = some u)
    (ho : ∀ b, H b = some (.own a) → H' b = some (.own a)) (ht : ∀ b xs, H b = some (.tup xs) → H' b = some (.tup xs)) : ObjOk P w H' h' a o := by
  induction o with
  | lst xs => obtain ⟨z, its, n, r, e⟩ := x; exact ⟨z, its, n, r, k _ _ (.inl rfl) e⟩
  | tup xs => obtain ⟨z, its, r, ob, e, c⟩ := x; exact ⟨z, its, r, ob, k _ _ (.inl rfl) e, c⟩
  | dK kvs => obtain ⟨z, y, vs, r, ob, es, ep, e, c⟩ := x; exact ⟨z, y, vs, r, ob, es, ep, k _ _ (.inl rfl) e, c⟩
  | dT kvs =>
    obtain ⟨z, y, xs, r, ob, es, ep, e, c⟩ := x
    exact ⟨z, y, xs, Paired.mapP r fun p q z => ⟨z.1, ht _ _ z.2.1, z.2.2⟩, ob, es, ep, k _ _ (.inl rfl) e, c⟩
  | set S n => obtain ⟨ob, es, ep, t, e, c⟩ := x; exact ⟨ob, es, ep, t, k _ _ (.inl rfl) e, c⟩
  | ins C dx fs =>
    obtain ⟨d, z, ne, e, mA, ⟨od, es, ep, e2, c⟩, r⟩ := x
    exact ⟨ho _ d, z, ne, k _ _ (.inl rfl) e, mA, ⟨od, es, ep, k _ _ (.inr d) e2, c⟩, r⟩
  | own y => obtain ⟨ob, e⟩ := x; exact ⟨ob, k _ _ (.inl rfl) e⟩
  | xd fs => obtain ⟨mA, ⟨od, es, ep, e, c⟩, r⟩ := x; exact ⟨mA, ⟨od, es, ep, k _ _ (.inl rfl) e, c⟩, r⟩
  | rng lo hi => obtain ⟨t, u, v, e⟩ := x; exact ⟨t, u, v, k _ _ (.inl rfl) e⟩
  | frz ob u ih => obtain ⟨e, q⟩ := x; exact ⟨k _ _ (.inl rfl) e, ih q⟩
  | tbl ps =>
    have e : h.get? a = some { cls := .none, data := .fields ps } := x
    show h'.get? a = some { cls := .none, data := .fields ps }
    exact k a _ (.inl rfl) e
  | met f y =>
    have e : h.get? a = some (PySem.W.methodObj (.ref f) (.ref y)) := x
    show h'.get? a = some (PySem.W.methodObj (.ref f) (.ref y))
    exact k a _ (.inl rfl) e
  | ext φ => obtain ⟨p, ⟨o, e⟩, st⟩ := x; exact ⟨st _ _ p fun o q => k _ _ (.inl rfl) q, ⟨o, k _ _ (.inl rfl) e⟩, st⟩
theorem HOk.lt (x : HOk P w H h) (e : H a = some o) : a < h.objs.size := (x a o e).lt
theorem HOk.fresh (x : HOk P w H h) (e : h.objs.size ≤ a) : H a = none := by
  cases q : H a with
  | none => rfl
  | some u => exact absurd (Nat.lt_of_lt_of_le (x.lt q) e) (Nat.lt_irrefl _)
/-- every object of the heap is kept -/
theorem HOk.kept (x : HOk P w H h) (k : ∀ b u, h.get? b = some u → h'.get? b = some u) : HOk P w H h' := fun a o e =>
  (x a o e).stay (fun b u _ q => k b u q) (fun _ q => q) fun _ _ q => q
/-- a new object is laid and tracked -/
theorem HOk.laid (x : HOk P w H h) (k : ∀ b u, h.get? b = some u → h'.get? b = some u) (hp : h.objs.size ≤ a) (new : ObjOk P w (upd H a o) h' a o) : HOk P w (upd H a o) h' := fun b u e => by
  have hn := x.fresh hp
  by_cases hb : b = a
  · subst hb; rw [upd_same] at e; cases e; exact new
  · rw [upd_ne hb] at e
    exact (x b u e).stay (fun c v _ q => k c v q) (fun c q => by rw [upd_ne (ne_of_none q hn)]; exact q) fun c xs q => by rw [upd_ne (ne_of_none q hn)]; exact q
end

/-- what may be read as u: it is u, or a known u -/
def Rd (H : Hp) (a : Addr) (u : HO) : Prop := H a = some u ∨ ∃ o, H a = some (.frz o u)
theorem Rd.of {H : Hp} {a : Addr} {u : HO} (h : H a = some u) : Rd H a u := .inl h
theorem Rd.ok {P : Program} {w : World} {H : Hp} {h : Heap} {a : Addr} {u : HO} (r : Rd H a u) (x : HOk P w H h) : ObjOk P w H h a u := by
  rcases r with r | ⟨o, r⟩
  · exact x a u r
  · obtain ⟨_, q⟩ := x a _ r
    exact q
/-- what may be written -/
def Mut : Option HO → Prop
  | some (.lst _) => True
  | some (.dK _) => True
  | some (.dT _) => True
  | some (.set _ _) => True
  | some (.ins _ _ _) => True
  | some (.ext _) => True
  | _ => False
section
variable {P : Program} {w : World} {H : Hp} {h h' : Heap} {x e : Addr} {o' : HO}
/-- the object at e is changed: x itself, or the dict of the instance x -/
theorem HOk.write (ok : HOk P w H h) (mu : Mut (H x)) (he : e = x ∨ H e = some (.own x)) (k : ∀ b u, b ≠ e → h.get? b = some u → h'.get? b = some u) (heo : ∃ u, h'.get? e = some u)
    (new : ObjOk P w (upd H x o') h' x o') : HOk P w (upd H x o') h' := fun b u q => by
  have nown : ∀ c y, H c = some (.own y) → c ≠ x := fun c y r z => by subst z; rw [r] at mu; exact mu
  have ntup : ∀ c xs, H c = some (.tup xs) → c ≠ x := fun c xs r z => by subst z; rw [r] at mu; exact mu
  by_cases hb : b = x
  · subst hb; rw [upd_same] at q; cases q; exact new
  · rw [upd_ne hb] at q
    by_cases hbe : b = e
    · have q' : H b = some (.own x) := by
        rcases he with z | z
        · exact absurd (hbe.trans z) hb
        · rw [hbe]; exact z
      rw [q] at q'; cases q'
      obtain ⟨v, hv⟩ := heo
      exact ⟨v, by rw [hbe]; exact hv⟩
    · refine (ok b u q).stay (fun c v hc r => k c v ?_ r) (fun c r => by rw [upd_ne (nown c b r)]; exact r) fun c xs r => by rw [upd_ne (ntup c xs r)]; exact r
      rcases hc with rfl | hc
      · exact hbe
      · rintro rfl
        rcases he with z | z
        · exact nown c b hc z
        · rw [hc] at z; cases z; exact hb rfl
end

/-! ### kept unless tracked; of the frames at fs (the callers') the slots may change (an exception that passes writes there); of the records at ex (iterators) nothing is said -/
structure Un (fs ex : List Addr) (H H' : Hp) (h h' : Heap) : Prop where
  keep : ∀ b o, h.get? b = some o → H b = none → b ∉ fs → b ∉ ex → h'.get? b = some o
  slot : ∀ b o, h.get? b = some o → H b = none → b ∈ fs → b ∉ ex → ∃ sl, h'.get? b = some { o with slots := sl }
  free : ∀ b o, h.get? b = some o → H b = none → b ∉ ex → H' b = none
  there : ∀ b o, h.get? b = some o → b ∉ ex → ∃ o', h'.get? b = some o'
  tups : ∀ b xs, H b = some (.tup xs) → H' b = some (.tup xs)
  frzs : ∀ b o u, H b = some (.frz o u) → H' b = some (.frz o u)
  tbls : ∀ b ps, H b = some (.tbl ps) → ∃ more, H' b = some (.tbl (ps ++ more))
section
variable {fs fs' ex ex' : List Addr} {H H1 H2 : Hp} {h h1 h2 h' : Heap} {a x e : Addr} {o : HO}
theorem Un.any (u : Un fs ex H H1 h h1) {b : Addr} {ob : Obj} (q : h.get? b = some ob) (n : H b = none) (hx : b ∉ ex) : ∃ sl, h1.get? b = some { ob with slots := sl } := by
  by_cases hb : b ∈ fs
  · exact u.slot b ob q n hb hx
  · exact ⟨ob.slots, u.keep b ob q n hb hx⟩
theorem Un.trans (a : Un fs ex H H1 h h1) (b : Un fs ex H1 H2 h1 h2) : Un fs ex H H2 h h2 where
  keep := fun c ob q n hc hx => b.keep c ob (a.keep c ob q n hc hx) (a.free c ob q n hx) hc hx
  slot := fun c ob q n hc hx => by
    obtain ⟨sl, e1⟩ := a.slot c ob q n hc hx
    obtain ⟨sl', e2⟩ := b.slot c _ e1 (a.free c ob q n hx) hc hx
    exact ⟨sl', e2⟩
  free := fun c ob q n hx => by
    obtain ⟨o', e1⟩ := a.there c ob q hx
    exact b.free c o' e1 (a.free c ob q n hx) hx
  there := fun c ob q hx => by
    obtain ⟨o', e1⟩ := a.there c ob q hx
    exact b.there c o' e1 hx
  tups := fun c xs q => b.tups c xs (a.tups c xs q)
  frzs := fun c ob xs q => b.frzs c ob xs (a.frzs c ob xs q)
  tbls := fun c ps q => by
    obtain ⟨m1, e1⟩ := a.tbls c ps q
    obtain ⟨m2, e2⟩ := b.tbls c _ e1
    exact ⟨m1 ++ m2, by rw [e2, Array.append_assoc]⟩
theorem Un.kept (k : ∀ b u, h.get? b = some u → h'.get? b = some u) : Un fs ex H H h h' :=
  ⟨fun b ob q _ _ _ => k b ob q, fun b ob q _ _ _ => ⟨ob.slots, k b ob q⟩, fun _ _ _ n _ => n, fun b ob q _ => ⟨ob, k b ob q⟩, fun _ _ q => q, fun _ _ _ q => q, fun _ ps q => ⟨#[], by rw [q]; simp⟩⟩
theorem Un.refl : Un fs ex H H h h := Un.kept fun _ _ q => q
theorem Un.laid (k : ∀ b u, h.get? b = some u → h'.get? b = some u) (hp : h.objs.size ≤ a) (hn : H a = none) : Un fs ex H (upd H a o) h h' where
  keep := fun b u q _ _ _ => k b u q
  slot := fun b u q _ _ _ => ⟨u.slots, k b u q⟩
  free := fun b u q n _ => by rw [upd_ne (Nat.ne_of_lt (Nat.lt_of_lt_of_le (Heap.lt_size q) hp))]; exact n
  there := fun b u q _ => ⟨u, k b u q⟩
  tups := fun b xs q => by rw [upd_ne (ne_of_none q hn)]; exact q
  frzs := fun b u xs q => by rw [upd_ne (ne_of_none q hn)]; exact q
  tbls := fun b ps q => ⟨#[], by rw [upd_ne (ne_of_none q hn), q]; simp⟩
theorem Un.write (mu : Mut (H x)) (he : e = x ∨ H e = some (.own x)) (k : ∀ b u, b ≠ e → h.get? b = some u → h'.get? b = some u) (heo : ∃ u, h'.get? e = some u) : Un fs ex H (upd H x o) h h' := by
  have hx : ∀ b, H b = none → b ≠ x := fun b n z => by subst z; rw [n] at mu; exact mu
  have hb : ∀ b, H b = none → b ≠ e := fun b n z => by
    subst z
    rcases he with r | r
    · exact hx b n r
    · rw [n] at r; cases r
  have hm : ∀ b u, H b = some u → ¬ Mut (some u) → b ≠ x := fun b u q nm z => by subst z; rw [q] at mu; exact nm mu
  refine ⟨fun b u q n _ _ => k b u (hb b n) q, fun b u q n _ _ => ⟨u.slots, k b u (hb b n) q⟩, fun b u q n _ => by rw [upd_ne (hx b n)]; exact n, fun b u q _ => ?_,
    fun b xs q => by rw [upd_ne (hm b _ q fun z => z)]; exact q, fun b u xs q => by rw [upd_ne (hm b _ q fun z => z)]; exact q, fun b ps q => ⟨#[], by rw [upd_ne (hm b _ q fun z => z), q]; simp⟩⟩
  by_cases hbe : b = e
  · subst hbe; exact heo
  · exact ⟨u, k b u hbe q⟩
theorem Un.mono (u : Un fs ex H H1 h h1) (hs : ∀ b ∈ fs, b ∈ fs') (hx : ∀ b ∈ ex, b ∈ ex') : Un fs' ex' H H1 h h1 :=
  ⟨fun b ob q n hb he => u.keep b ob q n (fun z => hb (hs b z)) fun z => he (hx b z), fun _ _ q n _ he => u.any q n fun z => he (hx _ z), fun b ob q n he => u.free b ob q n fun z => he (hx b z), fun b ob q he => u.there b ob q fun z => he (hx b z), u.tups, u.frzs, u.tbls⟩
end

/-! ### the heap without what is tracked -/
def trk (h : Heap) (H : Hp) : List Addr := (List.range h.objs.size).filter fun a => (H a).isSome
def hidT (h : Heap) (H : Hp) : Heap := PySem.W.hideAll h (trk h H)
theorem hidT_size (h : Heap) (H : Hp) : (hidT h H).objs.size = h.objs.size := PySem.W.hideAll_size _ _
theorem hidT_get {h : Heap} {H : Hp} {b : Addr} {o : Obj} (e : h.get? b = some o) (n : H b = none) : (hidT h H).get? b = some o :=
  PySem.W.hideAll_get _ e fun hm => by
    have q : (H b).isSome = true := (List.mem_filter.mp hm).2
    rw [n] at q; simp at q
theorem of_hidT {h : Heap} {H : Hp} {b : Addr} {o : Obj} (e : (hidT h H).get? b = some o) : h.get? b = some o ∧ H b = none := by
  have e' : h.get? b = some o := PySem.W.of_hideAll (trk h H) e
  refine ⟨e', ?_⟩
  cases q : H b with
  | none => rfl
  | some x =>
    have hm : b ∈ trk h H := List.mem_filter.mpr ⟨List.mem_range.mpr (Heap.lt_size e'), by simp [q]⟩
    have z : (hidT h H).get? b = none := PySem.W.hideAll_none (trk h H) hm
    rw [z] at e; cases e

/-! ### OpenK's ledger, filled with every new object but one -/
def allNews (g h : Heap) (L : Addr) : List (Addr × Obj) := (List.range h.objs.size).filterMap fun a => if a = L ∨ (g.get? a).isSome = true then none else (h.get? a).map fun o => (a, o)
def rest (g h : Heap) (L d : Addr) : List (Addr × Obj) := (allNews g h L).filter fun p => decide (p.1 ≠ d)
end L2

namespace L2
open PySem PySem.Spec PyProof.Rows

/-- the module's facts, over the base: the heap at the law's entry without what is tracked there -/
structure Mod (K : PySem.W.Frag) (mg : Str → Option Value) (base : Heap) : Prop where
  kin : K.In base
  glob : base.Ns mainGlobals mg
  blt : ∃ mb, base.Ns builtinsNs mb ∧ ∀ x : Str, x ≠ "__name__" → mb x = bootBuiltins x
  nolimit : base.NoLimit

/-- the context: a def's body (or a comprehension's block) running. base: fixed through the whole law; s₀, H₀: the entry; outer: the frames whose slots others may change (a def's callers); stack: all frames that run;
   ex: iterators that were made ahead of the entry and are walked here (a comprehension's); fn: the names whose cells were made at the entry (a def: all; a comprehension's block: its own); calm: not within an except suite; pn: pins that every state bears; xe: what is wanted of an exception that leaves the code -/
structure Cx where
  prog : Program
  w : World
  K : PySem.W.Frag
  mg : Str → Option Value
  base : Heap
  A : Around
  N : List Str
  s₀ : Shared
  H₀ : Hp
  env : Env
  outer : List Env
  stack : List Env
  ex : List Addr
  fn : Str → Bool
  calm : Bool
  pn : List (Addr × Obj)
  xe : Value → Shared → Prop
/-- the callers' frames -/
def frs (l : List Env) : List Addr := l.filterMap (·.frame)
abbrev Cx.fs (X : Cx) : List Addr := frs X.outer

def Vis (sc : Scope) (x : Str) : Prop := sc.names.lookup x = some .local ∨ sc.names.lookup x = some .cell ∨ sc.names.lookup x = some .free
def Loc (sc : Scope) (x : Str) : Prop := sc.names.lookup x = some .local ∨ sc.names.lookup x = some .cell
def Look (env : Env) (h : Heap) (m : Str → Option Value) (x : Str) (u : Value) : Prop :=
  (env.kindOf x = some .local ∧ m x = some u) ∨ ((env.kindOf x = some .cell ∨ env.kindOf x = some .free) ∧ ∃ c, env.cells.lookup x = some c ∧ h.IsCell c (some u))

structure Cx.Ok (X : Cx) : Prop where
  mod : Mod X.K X.mg X.base
  kind : X.env.scope.kind = .function
  glob : X.env.globals = mainGlobals
  blt : X.env.builtins = builtinsNs
  above : X.s₀.heap.objs.size ≤ X.env.locals
  inj : ∀ x y c, X.env.cells.lookup x = some c → X.env.cells.lookup y = some c → x = y
  has : ∀ x, (X.env.kindOf x = some .cell ∨ X.env.kindOf x = some .free) → ∃ c, X.env.cells.lookup x = some c
  cab : ∀ x c, X.fn x = true → X.env.cells.lookup x = some c → X.s₀.heap.objs.size ≤ c
  hd : X.calm = true → X.A.handled = none
  frames : X.A.frames = some X.stack
  stk : X.stack = X.outer ∨ (X.stack = X.env :: X.outer ∧ X.env.frame = some X.env.locals)
  exf : ∀ b ∈ X.ex, b ≠ X.env.locals ∧ ∀ x c, X.env.cells.lookup x = some c → c ≠ b
  bs : ∀ b o, X.base.get? b = some o → X.s₀.heap.get? b = some o ∧ X.H₀ b = none
  bsz : X.base.objs.size ≤ X.s₀.heap.objs.size
  noex : ∀ b o, X.base.get? b = some o → b ∉ X.ex
  exfs : ∀ b ∈ X.ex, b ∉ X.fs
  funs : X.s₀.heap.FunFrames X.base X.outer
  frf : ∀ b ∈ X.fs, X.H₀ b = none

structure Inv (X : Cx) (pins : List (Addr × Obj)) (σ : List (Option V)) (H : Hp) (s : Shared) : Prop where
  ok : X.Ok
  os : s.os = X.s₀.os
  bare : AllBare s.gens
  base : Un X.fs X.ex X.H₀ H X.s₀.heap s.heap
  loc : ∃ m, s.heap.Ns X.env.locals m ∧ ∀ (i : Nat) (x : Str) (v : V), X.N[i]? = some x → σ[i]? = some (some v) → Vis X.env.scope x → ∃ u, RelV v u ∧ Look X.env s.heap m x u
  cell : ∀ x c, X.env.cells.lookup x = some c → ∃ v, s.heap.IsCell c v
  free : H X.env.locals = none
  freeC : ∀ x c, X.env.cells.lookup x = some c → H c = none
  pin : ∀ p ∈ X.pn ++ pins, s.heap.get? p.1 = some p.2 ∧ H p.1 = none ∧ p.1 ≠ X.env.locals ∧ p.1 ∉ X.fs ∧ ∀ v, p.2.data ≠ .cell v
  hok : HOk X.prog X.w H s.heap
  len : σ.length = X.N.length

section
variable {X : Cx} {pins : List (Addr × Obj)} {σ : List (Option V)} {H H' : Hp} {s : Shared} {h' : Heap}

theorem Cx.Ok.nofr (ok : X.Ok) {b : Addr} {o : Obj} (e : X.base.get? b = some o) : b ∉ X.fs := fun hb => by
  have := (ok.funs.mem hb).1
  rw [e] at this; cases this
theorem Inv.bs (I : Inv X pins σ H s) : ∀ b o, X.base.get? b = some o → s.heap.get? b = some o ∧ H b = none := fun b o e =>
  ⟨I.base.keep b o (I.ok.bs b o e).1 (I.ok.bs b o e).2 (I.ok.nofr e) (I.ok.noex b o e), I.base.free b o (I.ok.bs b o e).1 (I.ok.bs b o e).2 (I.ok.noex b o e)⟩
theorem Inv.bk (I : Inv X pins σ H s) : ∀ b o, X.base.get? b = some o → s.heap.get? b = some o := fun b o e => (I.bs b o e).1
theorem Inv.mod (I : Inv X pins σ H s) : Mod X.K X.mg X.base := I.ok.mod
theorem Inv.kIn (I : Inv X pins σ H s) : X.K.In s.heap := I.ok.mod.kin.keeps I.bk
theorem Inv.nolimit (I : Inv X pins σ H s) : s.heap.NoLimit := I.ok.mod.nolimit.keeps I.bk
/-- the frame over the base: for OpenK's rules (K.In X.base is I.mod.kin) -/
theorem Inv.fr (I : Inv X pins σ H s) : ∃ m, Fr X.base X.env.locals s.heap m :=
  let ⟨m, hn, _⟩ := I.loc
  ⟨m, hn, I.bk, Nat.le_trans I.ok.bsz I.ok.above⟩
theorem Inv.lt (I : Inv X pins σ H s) : X.env.locals < s.heap.objs.size := let ⟨_, hn, _⟩ := I.loc; hn.lt
theorem Inv.sz (I : Inv X pins σ H s) : X.s₀.heap.objs.size ≤ s.heap.objs.size := Nat.le_trans I.ok.above (Nat.le_of_lt I.lt)
theorem Inv.nofs (I : Inv X pins σ H s) {a : Addr} (h : s.heap.objs.size ≤ a) : a ∉ X.fs := fun hb => by
  obtain ⟨_, o, ho, _⟩ := I.ok.funs.mem hb
  exact absurd (Nat.lt_of_lt_of_le (Heap.lt_size ho) (Nat.le_trans I.sz h)) (Nat.lt_irrefl _)
theorem Inv.cne (I : Inv X pins σ H s) : ∀ x c, X.env.cells.lookup x = some c → c ≠ X.env.locals := fun x c e z => by
  obtain ⟨v, o, ho, hd⟩ := I.cell x c e
  obtain ⟨m, ⟨o', es, ep, ho', hd', _⟩, _⟩ := I.loc
  rw [z, ho'] at ho; cases ho; rw [hd'] at hd; cases hd
theorem Inv.funs (I : Inv X pins σ H s) : s.heap.FunFrames X.base X.outer := by
  have all : ∀ (l : List Env), (∀ b ∈ frs l, b ∈ X.fs) → X.s₀.heap.FunFrames X.base l → s.heap.FunFrames X.base l := by
    intro l
    induction l with
    | nil => intro _ _; trivial
    | cons env r ih =>
      intro hs hl
      obtain ⟨hk, ⟨L, o, hf, hn, ho, hd⟩, hr⟩ := hl
      have hL : L ∈ X.fs := hs L (by unfold frs; rw [List.filterMap_cons, hf]; exact List.mem_cons_self)
      obtain ⟨sl, e⟩ := I.base.slot L o ho (I.ok.frf L hL) hL fun z => I.ok.exfs L z hL
      exact ⟨hk, ⟨L, _, hf, hn, e, hd⟩, ih (fun b hb => hs b (by unfold frs; rw [List.filterMap_cons, hf]; exact List.mem_cons_of_mem _ hb)) hr⟩
  exact all X.outer (fun _ hb => hb) I.ok.funs

/-- the frames that run, for a call -/
theorem Inv.stack (I : Inv X pins σ H s) : s.heap.FunFrames X.base X.stack := by
  rcases I.ok.stk with e | ⟨e, hf⟩
  · rw [e]; exact I.funs
  · rw [e]
    obtain ⟨m, hn, _⟩ := I.loc
    refine .cons (by rw [I.ok.kind]; decide) hf hn ?_ I.funs
    exact Heap.get?_none_of_le (Nat.le_trans I.ok.bsz I.ok.above)
theorem Inv.stkSub (I : Inv X pins σ H s) : ∀ b ∈ frs X.stack, b ∈ X.env.locals :: X.fs := fun b hb => by
  rcases I.ok.stk with e | ⟨e, hf⟩
  · rw [e] at hb; exact List.mem_cons_of_mem _ hb
  · rw [e] at hb
    unfold frs at hb
    rw [List.filterMap_cons, hf] at hb
    exact hb
theorem Inv.stkFree (I : Inv X pins σ H s) : ∀ b ∈ frs X.stack, H b = none := fun b hb => by
  rcases List.mem_cons.mp (I.stkSub b hb) with e | hb
  · rw [e]; exact I.free
  · obtain ⟨_, o, ho, _⟩ := I.ok.funs.mem hb
    exact I.base.free b o ho (I.ok.frf b hb) fun z => I.ok.exfs b z hb

/-- THE STEP: the untracked objects but the frame and the records at ch are kept (the callers' frames up to slots), the frame's map is kept, the new abstract heap is held -/
theorem Inv.step {g' : Array GenState} {t' : Nat} {d' : Drawn} {ch : List Addr} (I : Inv X pins σ H s)
    (hch : ∀ b ∈ ch, (b ∈ X.ex ∨ X.s₀.heap.objs.size ≤ b) ∧ b ≠ X.env.locals ∧ (∀ x c, X.env.cells.lookup x = some c → c ≠ b) ∧ ∀ p ∈ X.pn ++ pins, p.1 ≠ b)
    (keep : ∀ b o, b ≠ X.env.locals → b ∉ X.fs → b ∉ ch → s.heap.get? b = some o → H b = none → h'.get? b = some o)
    (slot : ∀ b o, b ≠ X.env.locals → b ∈ X.fs → b ∉ ch → s.heap.get? b = some o → H b = none → ∃ sl, h'.get? b = some { o with slots := sl }) (free : ∀ b o, b ∉ ch → s.heap.get? b = some o → H b = none → H' b = none)
    (there : ∀ b o, b ∉ ch → s.heap.get? b = some o → ∃ o', h'.get? b = some o')
    (tups : ∀ b xs, H b = some (.tup xs) → H' b = some (.tup xs)) (frzs : ∀ b o u, H b = some (.frz o u) → H' b = some (.frz o u)) (tbls : ∀ b ps, H b = some (.tbl ps) → ∃ more, H' b = some (.tbl (ps ++ more)))
    (ns : ∀ m, s.heap.Ns X.env.locals m → h'.Ns X.env.locals m) (hok : HOk X.prog X.w H' h') (hg : AllBare g') :
    Inv X pins σ H' { s with heap := h', gens := g', drawn := d', toks := t' } := by
  have neL : ∀ b o, X.s₀.heap.get? b = some o → b ≠ X.env.locals := fun b o e => Nat.ne_of_lt (Nat.lt_of_lt_of_le (Heap.lt_size e) I.ok.above)
  have neC : ∀ b o, X.s₀.heap.get? b = some o → b ∉ X.ex → b ∉ ch := fun b o e hx hb => by
    rcases (hch b hb).1 with z | z
    · exact hx z
    · exact absurd (Nat.lt_of_lt_of_le (Heap.lt_size e) z) (Nat.lt_irrefl _)
  have cellK : ∀ x c, X.env.cells.lookup x = some c → ∀ v, s.heap.IsCell c v → h'.IsCell c v := fun x c e v ⟨o, ho, hd⟩ => by
    have nch : c ∉ ch := fun z => (hch c z).2.2.1 x c e rfl
    by_cases hc : c ∈ X.fs
    · obtain ⟨sl, q⟩ := slot c o (I.cne x c e) hc nch ho (I.freeC x c e)
      exact ⟨_, q, hd⟩
    · exact ⟨o, keep c o (I.cne x c e) hc nch ho (I.freeC x c e), hd⟩
  refine ⟨I.ok, I.os, hg, ⟨fun b o e n hb hx => ?_, fun b o e n hb hx => ?_, fun b o e n hx => ?_, fun b o e hx => ?_, fun b xs e => tups b xs (I.base.tups b xs e), fun b o xs e => frzs b o xs (I.base.frzs b o xs e), fun b ps e => ?_⟩, ?_, fun x c e => ?_, ?_, fun x c e => ?_, fun p hp => ?_, hok, I.len⟩
  · exact keep b o (neL b o e) hb (neC b o e hx) (I.base.keep b o e n hb hx) (I.base.free b o e n hx)
  · obtain ⟨sl, e1⟩ := I.base.slot b o e n hb hx
    obtain ⟨sl', e2⟩ := slot b _ (neL b o e) hb (neC b o e hx) e1 (I.base.free b o e n hx)
    exact ⟨sl', e2⟩
  · obtain ⟨o', e1⟩ := I.base.there b o e hx
    exact free b o' (neC b o e hx) e1 (I.base.free b o e n hx)
  · obtain ⟨o', e1⟩ := I.base.there b o e hx
    exact there b o' (neC b o e hx) e1
  · obtain ⟨m1, e1⟩ := I.base.tbls b ps e
    obtain ⟨m2, e2⟩ := tbls b _ e1
    exact ⟨m1 ++ m2, by rw [e2, Array.append_assoc]⟩
  · obtain ⟨m, hn, hl⟩ := I.loc
    refine ⟨m, ns m hn, fun i x v e1 e2 e3 => ?_⟩
    obtain ⟨u, r, l⟩ := hl i x v e1 e2 e3
    refine ⟨u, r, ?_⟩
    rcases l with l | ⟨k, c, e, z⟩
    · exact .inl l
    · exact .inr ⟨k, c, e, cellK x c e _ z⟩
  · obtain ⟨v, z⟩ := I.cell x c e
    exact ⟨v, cellK x c e v z⟩
  · obtain ⟨m, ⟨o, _, _, ho, _⟩, _⟩ := I.loc
    exact free _ o (fun z => (hch _ z).2.1 rfl) ho I.free
  · obtain ⟨v, o, ho, hd⟩ := I.cell x c e
    exact free c o (fun z => (hch c z).2.2.1 x c e rfl) ho (I.freeC x c e)
  · obtain ⟨e, n, ne, nf, d⟩ := I.pin p hp
    have nch : p.1 ∉ ch := fun z => (hch p.1 z).2.2.2 p hp rfl
    exact ⟨keep p.1 p.2 ne nf nch e n, free p.1 p.2 nch e n, ne, nf, d⟩
/-- .. where the frame's own object is kept too -/
theorem Inv.un {t' : Nat} (I : Inv X pins σ H s) (u : Un X.fs [] H H' s.heap h') (hok : HOk X.prog X.w H' h') : Inv X pins σ H' { s with heap := h', toks := t' } := by
  obtain ⟨m, ⟨o, es, ep, ho, r⟩, _⟩ := id I.loc
  obtain ⟨sl, hL⟩ := u.any ho I.free (by simp)
  exact I.step (g' := s.gens) (d' := s.drawn) (ch := []) (fun _ z => nomatch z) (fun b o _ hb _ e n => u.keep b o e n hb (by simp)) (fun b o _ hb _ e n => u.slot b o e n hb (by simp)) (fun b o _ e n => u.free b o e n (by simp)) (fun b o _ e => u.there b o e (by simp)) u.tups u.frzs u.tbls (fun m' hm => by
    obtain ⟨o', es', ep', ho', r'⟩ := hm
    rw [ho] at ho'; cases ho'
    exact ⟨_, es', ep', hL, r'⟩) hok I.bare
/-- behind a call (or a comprehension's block): the slots of this frame may have changed too, the records at ch may have turned -/
theorem Inv.call {g' : Array GenState} {t' : Nat} {d' : Drawn} {ch : List Addr} (I : Inv X pins σ H s) (u : Un (frs X.stack) ch H H' s.heap h') (hok : HOk X.prog X.w H' h') (hg : AllBare g')
    (hch : ∀ b ∈ ch, (b ∈ X.ex ∨ X.s₀.heap.objs.size ≤ b) ∧ b ≠ X.env.locals ∧ (∀ x c, X.env.cells.lookup x = some c → c ≠ b) ∧ ∀ p ∈ X.pn ++ pins, p.1 ≠ b) :
    Inv X pins σ H' { s with heap := h', gens := g', drawn := d', toks := t' } := by
  obtain ⟨m, ⟨o, es, ep, ho, r⟩, _⟩ := id I.loc
  obtain ⟨sl, hL⟩ := u.any ho I.free fun z => (hch _ z).2.1 rfl
  exact I.step (ch := ch) hch (fun b o hL hb hc e n => u.keep b o e n (fun z => (List.mem_cons.mp (I.stkSub b z)).elim hL hb) hc) (fun b o _ _ hc e n => u.any e n hc) (fun b o hc e n => u.free b o e n hc) (fun b o hc e => u.there b o e hc) u.tups u.frzs u.tbls (fun m' hm => by
    obtain ⟨o', es', ep', ho', r'⟩ := hm
    rw [ho] at ho'; cases ho'
    exact ⟨_, es', ep', hL, r'⟩) hok hg
/-- an untracked record of ours (an iterator) has turned -/
theorem Inv.turned {t' : Nat} {it : Addr} (I : Inv X pins σ H s) (k : ∀ b o, b ≠ it → s.heap.get? b = some o → h'.get? b = some o) (hn : H it = none) (hL : it ≠ X.env.locals)
    (h1 : it ∈ X.ex ∨ X.s₀.heap.objs.size ≤ it) (h2 : ∀ x c, X.env.cells.lookup x = some c → c ≠ it) (h3 : ∀ p ∈ X.pn ++ pins, p.1 ≠ it) : Inv X pins σ H { s with heap := h', toks := t' } := by
  have nit : ∀ b u, H b = some u → b ≠ it := fun b u e z => by rw [z, hn] at e; cases e
  refine I.step (g' := s.gens) (d' := s.drawn) (ch := [it]) (fun b hb => ?_) (fun b o _ _ hc e _ => k b o (fun z => hc (by simp [z])) e) (fun b o _ _ hc e _ => ⟨o.slots, k b o (fun z => hc (by simp [z])) e⟩) (fun _ _ _ _ n => n)
    (fun b o hc e => ⟨o, k b o (fun z => hc (by simp [z])) e⟩) (fun _ _ e => e) (fun _ _ _ e => e) (fun b ps e => ⟨#[], by rw [e]; simp⟩) (fun m hm => ?_) (fun b u e => ?_) I.bare
  · have e : b = it := by simpa using hb
    subst e
    exact ⟨h1, hL, h2, h3⟩
  · obtain ⟨o, es, ep, ho, r⟩ := hm
    exact ⟨o, es, ep, k _ o (Ne.symm hL) ho, r⟩
  · refine (I.hok b u e).stay (fun c v hc q => k c v ?_ q) (fun _ q => q) fun _ _ q => q
    rcases hc with z | z
    · rw [z]; exact nit b u e
    · exact nit c _ z
theorem Inv.tok (I : Inv X pins σ H s) (t : Nat) : Inv X pins σ H { s with toks := t } := I.un (h' := s.heap) (t' := t) Un.refl I.hok
/-- all objects kept -/
theorem Inv.kept {t' : Nat} (I : Inv X pins σ H s) (k : ∀ b u, s.heap.get? b = some u → h'.get? b = some u) : Inv X pins σ H { s with heap := h', toks := t' } := I.un (Un.kept k) (I.hok.kept k)
/-- a new object laid and tracked -/
theorem Inv.laid {a : Addr} {o : HO} {t' : Nat} (I : Inv X pins σ H s) (k : ∀ b u, s.heap.get? b = some u → h'.get? b = some u) (hp : s.heap.objs.size ≤ a) (new : ObjOk X.prog X.w (upd H a o) h' a o) :
    Inv X pins σ (upd H a o) { s with heap := h', toks := t' } := I.un (Un.laid k hp (I.hok.fresh hp)) (I.hok.laid k hp new)
/-- an object written -/
theorem Inv.write {x e : Addr} {o : HO} {t' : Nat} (I : Inv X pins σ H s) (mu : Mut (H x)) (he : e = x ∨ H e = some (.own x)) (k : ∀ b u, b ≠ e → s.heap.get? b = some u → h'.get? b = some u) (heo : ∃ u, h'.get? e = some u)
    (new : ObjOk X.prog X.w (upd H x o) h' x o) : Inv X pins σ (upd H x o) { s with heap := h', toks := t' } := I.un (Un.write mu he k heo) (I.hok.write mu he k heo new)
theorem Inv.pins_of {pins' : List (Addr × Obj)} (I : Inv X pins σ H s) (h : ∀ p ∈ pins', s.heap.get? p.1 = some p.2 ∧ H p.1 = none ∧ p.1 ≠ X.env.locals ∧ p.1 ∉ X.fs ∧ ∀ v, p.2.data ≠ .cell v) : Inv X pins' σ H s :=
  ⟨I.ok, I.os, I.bare, I.base, I.loc, I.cell, I.free, I.freeC, fun p hp => (List.mem_append.mp hp).elim (fun z => I.pin p (List.mem_append_left _ z)) (h p), I.hok, I.len⟩

theorem nodup_ix {N : List Str} (hN : N.Nodup) {i j : Nat} {x : Str} (a : N[i]? = some x) (b : N[j]? = some x) : i = j := by
  obtain ⟨h1, e1⟩ := List.getElem?_eq_some_iff.mp a
  obtain ⟨h2, e2⟩ := List.getElem?_eq_some_iff.mp b
  exact (List.getElem_inj hN).mp (e1.trans e2.symm)

/-- a name is stored; what changed -/
theorem store_ok2 {M : Model} {A : Around} {E : Value → Shared → Prop} {i : Nat} {x : Str} {v : V} {u : Value} {Q : Unit → Shared → Prop} (I : Inv X pins σ H s) (hN : X.N.Nodup) (hi : X.N[i]? = some x) (hx : Loc X.env.scope x) (r : RelV v u)
    (h : ∀ s', Inv X pins (σ.set i (some v)) H s' → (∃ a, Heap.SameBut a s.heap s'.heap ∧ (a = X.env.locals ∨ X.env.cells.lookup x = some a)) → Q () s') (hf : X.fn x = true ∨ X.env.scope.names.lookup x = some .local := by first | exact .inl rfl | exact .inr rfl | assumption) : wpAny M A (storeName X.env x u) Q E s := by
  obtain ⟨m, hn, hl⟩ := id I.loc
  have hcls : (X.env.scope.kind == .class || (X.env.scope.kind == .module && X.env.locals != X.env.globals)) = false := by rw [I.ok.kind]; rfl
  have hiσ : i < σ.length := by rw [I.len]; exact (List.getElem?_eq_some_iff.mp hi).1
  have cne := I.cne
  have tracked : ∀ {a : Addr} {h' : Heap}, (∃ o, s.heap.get? a = some o ∧ H a = none) → Heap.SameBut a s.heap h' → HOk X.prog X.w H h' := fun {a h'} ha hs b ob e => by
    obtain ⟨_, _, hfree⟩ := ha
    refine (I.hok b ob e).stay (fun c w' hc q => (hs.2 c ?_).trans q) (fun _ q => q) fun _ _ q => q
    rintro rfl
    rcases hc with rfl | hc
    · rw [hfree] at e; cases e
    · rw [hfree] at hc; cases hc
  rcases hx with hk | hk
  · refine wpAny_storeName_local hk hn (fun h' hn' hs => ?_) hcls
    obtain ⟨oL, _, _, hoL, _⟩ := id hn
    refine h _ ⟨I.ok, I.os, I.bare, ⟨fun b o e n hb hx => ?_, fun b o e n hb hx => ?_, I.base.free, fun b o e hx => ?_, I.base.tups, I.base.frzs, I.base.tbls⟩, ⟨_, hn', fun j y v' e1 e2 e3 => ?_⟩, fun y c e => ?_, I.free, I.freeC, fun p hp => ?_, tracked ⟨oL, hoL, I.free⟩ hs, by simpa using I.len⟩ ⟨_, hs, .inl rfl⟩
    · exact (hs.2 b (Nat.ne_of_lt (Nat.lt_of_lt_of_le (Heap.lt_size e) I.ok.above))).trans (I.base.keep b o e n hb hx)
    · obtain ⟨sl, e1⟩ := I.base.slot b o e n hb hx
      exact ⟨sl, (hs.2 b (Nat.ne_of_lt (Nat.lt_of_lt_of_le (Heap.lt_size e) I.ok.above))).trans e1⟩
    · obtain ⟨o', e1⟩ := I.base.there b o e hx
      exact ⟨o', (hs.2 b (Nat.ne_of_lt (Nat.lt_of_lt_of_le (Heap.lt_size e) I.ok.above))).trans e1⟩
    · by_cases hj : j = i
      · subst hj
        rw [hi] at e1; cases e1
        rw [List.getElem?_set_self hiσ] at e2
        cases e2
        exact ⟨u, r, .inl ⟨hk, by simp⟩⟩
      · rw [List.getElem?_set_ne (Ne.symm hj)] at e2
        obtain ⟨u', r', q⟩ := hl j y v' e1 e2 e3
        refine ⟨u', r', ?_⟩
        rcases q with ⟨k, e⟩ | ⟨k, c, e, z⟩
        · refine .inl ⟨k, ?_⟩
          have : y ≠ x := fun e => hj (nodup_ix hN e1 (e ▸ hi))
          simp [this, e]
        · exact .inr ⟨k, c, e, z.sameBut hs (cne y c e)⟩
    · obtain ⟨w', z⟩ := I.cell y c e
      exact ⟨w', z.sameBut hs (cne y c e)⟩
    · obtain ⟨e, n, ne, nf, d⟩ := I.pin p hp
      exact ⟨(hs.2 p.1 ne).trans e, n, ne, nf, d⟩
  · have hfn : X.fn x = true := by
      rcases hf with z | z
      · exact z
      · rw [z] at hk; cases hk
    obtain ⟨c, hc⟩ := I.ok.has x (.inl hk)
    obtain ⟨w', z⟩ := I.cell x c hc
    refine wpAny_storeName_cell I.ok.kind hk hc z (fun h' hc' hs => ?_)
    obtain ⟨oc, hoc, hocd⟩ := id z
    refine h { s with heap := h' } ⟨I.ok, I.os, I.bare, ⟨fun b o e n hb hx => ?_, fun b o e n hb hx => ?_, I.base.free, fun b o e hx => ?_, I.base.tups, I.base.frzs, I.base.tbls⟩, ⟨m, hn.sameBut hs (Ne.symm (cne x c hc)), fun j y v' e1 e2 e3 => ?_⟩, fun y c' e => ?_, I.free, I.freeC, fun p hp => ?_, tracked ⟨oc, hoc, I.freeC x c hc⟩ hs, by simpa using I.len⟩ ⟨c, hs, .inr hc⟩
    · exact (hs.2 b (Nat.ne_of_lt (Nat.lt_of_lt_of_le (Heap.lt_size e) (I.ok.cab x c hfn hc)))).trans (I.base.keep b o e n hb hx)
    · obtain ⟨sl, e1⟩ := I.base.slot b o e n hb hx
      exact ⟨sl, (hs.2 b (Nat.ne_of_lt (Nat.lt_of_lt_of_le (Heap.lt_size e) (I.ok.cab x c hfn hc)))).trans e1⟩
    · obtain ⟨o', e1⟩ := I.base.there b o e hx
      exact ⟨o', (hs.2 b (Nat.ne_of_lt (Nat.lt_of_lt_of_le (Heap.lt_size e) (I.ok.cab x c hfn hc)))).trans e1⟩
    · by_cases hj : j = i
      · subst hj
        rw [hi] at e1; cases e1
        rw [List.getElem?_set_self hiσ] at e2
        cases e2
        exact ⟨u, r, .inr ⟨.inl hk, c, hc, hc'⟩⟩
      · rw [List.getElem?_set_ne (Ne.symm hj)] at e2
        obtain ⟨u', r', q⟩ := hl j y v' e1 e2 e3
        refine ⟨u', r', ?_⟩
        rcases q with q | ⟨k, c', e, z'⟩
        · exact .inl q
        · refine .inr ⟨k, c', e, z'.sameBut hs ?_⟩
          rintro rfl
          exact hj (nodup_ix hN e1 (I.ok.inj _ _ _ e hc ▸ hi))
    · by_cases hcc : c' = c
      · subst hcc; exact ⟨_, hc'⟩
      · obtain ⟨w2, z2⟩ := I.cell y c' e
        exact ⟨w2, z2.sameBut hs hcc⟩
    · obtain ⟨e, n, ne, nf, d⟩ := I.pin p hp
      refine ⟨(hs.2 p.1 ?_).trans e, n, ne, nf, d⟩
      intro q
      rw [q, hoc] at e
      have q' : oc = p.2 := Option.some.inj e
      exact d w' (by rw [← q']; exact hocd)
theorem store_ok {M : Model} {A : Around} {E : Value → Shared → Prop} {i : Nat} {x : Str} {v : V} {u : Value} {Q : Unit → Shared → Prop} (I : Inv X pins σ H s) (hN : X.N.Nodup) (hi : X.N[i]? = some x) (hx : Loc X.env.scope x) (r : RelV v u)
    (h : ∀ s', Inv X pins (σ.set i (some v)) H s' → Q () s') (hf : X.fn x = true ∨ X.env.scope.names.lookup x = some .local := by first | exact .inl rfl | exact .inr rfl | assumption) : wpAny M A (storeName X.env x u) Q E s :=
  store_ok2 I hN hi hx r (fun s' I' _ => h s' I') hf
/-- behind a call or a block, the state as it is -/
theorem Inv.call' {s' : Shared} {ch : List Addr} (I : Inv X pins σ H s) (ho : s'.os = s.os) (u : Un (frs X.stack) ch H H' s.heap s'.heap) (hok : HOk X.prog X.w H' s'.heap) (hg : AllBare s'.gens)
    (hch : ∀ b ∈ ch, (b ∈ X.ex ∨ X.s₀.heap.objs.size ≤ b) ∧ b ≠ X.env.locals ∧ (∀ x c, X.env.cells.lookup x = some c → c ≠ b) ∧ ∀ p ∈ X.pn ++ pins, p.1 ≠ b) : Inv X pins σ H' s' := by
  obtain ⟨h', g', d', t', o'⟩ := s'
  have e : o' = s.os := ho
  subst e
  exact I.call (g' := g') (t' := t') (d' := d') u hok hg hch
end

/-! ### the judgements -/
/-- an exception: its class, its own dict's address (where it has one), the abstract heap behind it -/
abbrev XK := Value → Option Addr → Hp → Prop
abbrev St := List (Option V)
abbrev VK := V → Hp → Prop
/-- an expression's reading; a test's; an argument list's -/
abbrev TE := St → Hp → VK → Prop
abbrev TT := St → Hp → (Bool → Hp → Prop) → Prop
abbrev TA := St → Hp → (List V → Hp → Prop) → Prop
/-- what is wanted behind a statement -/
structure Ends where
  nx : St → Hp → Prop
  rt : VK
  bk : St → Hp → Prop := fun _ _ => False
  ct : St → Hp → Prop := fun _ _ => False
abbrev TS := Ends → St → Hp → Prop

def EP (X : Cx) (pins : List (Addr × Obj)) (σ : St) (Q : VK) (u : Value) (s' : Shared) : Prop := ∃ v H', Inv X pins σ H' s' ∧ RelV v u ∧ Q v H'
def TP (X : Cx) (pins : List (Addr × Obj)) (σ : St) (Q : Bool → Hp → Prop) (b : Bool) (s' : Shared) : Prop := ∃ H', Inv X pins σ H' s' ∧ Q b H'
def AP (X : Cx) (pins : List (Addr × Obj)) (σ : St) (Q : List V → Hp → Prop) (us : List Value) (s' : Shared) : Prop := ∃ vs H', Inv X pins σ H' s' ∧ Vals vs us ∧ Q vs H'
def SP (X : Cx) (pins : List (Addr × Obj)) (D : Ends) (f : Flow) (s' : Shared) : Prop :=
  match f with
  | .next => ∃ σ' H', Inv X pins σ' H' s' ∧ D.nx σ' H'
  | .brk => ∃ σ' H', Inv X pins σ' H' s' ∧ D.bk σ' H'
  | .cont => ∃ σ' H', Inv X pins σ' H' s' ∧ D.ct σ' H'
  | .ret u => ∃ v σ' H', Inv X pins σ' H' s' ∧ RelV v u ∧ D.rt v H'

def PE (X : Cx) (e : Expr) (t : TE) : Prop :=
  ∀ (pins : List (Addr × Obj)) (s : Shared) (σ : St) (H : Hp) (Q : VK), Inv X pins σ H s → t σ H Q → wpAny (model X.prog X.w) X.A (eval e X.env) (EP X pins σ Q) X.xe s
def PT (X : Cx) (e : Expr) (t : TT) : Prop :=
  ∀ (pins : List (Addr × Obj)) (s : Shared) (σ : St) (H : Hp) (Q : Bool → Hp → Prop), Inv X pins σ H s → t σ H Q → wpAny (model X.prog X.w) X.A (isTrue e X.env (eval e X.env)) (TP X pins σ Q) X.xe s
/-- a test whatever its 'whole' is (and, or) -/
def PW (X : Cx) (e : Expr) (t : TT) : Prop :=
  ∀ (whole : Sem Value) (pins : List (Addr × Obj)) (s : Shared) (σ : St) (H : Hp) (Q : Bool → Hp → Prop), Inv X pins σ H s → t σ H Q → wpAny (model X.prog X.w) X.A (isTrue e X.env whole) (TP X pins σ Q) X.xe s
theorem PW.pt {X : Cx} {e : Expr} {t : TT} (h : PW X e t) : PT X e t := h _
/-- an argument list (no star), from the left -/
def PA (X : Cx) (es : List Expr) (t : TA) : Prop :=
  ∀ (pos : Pos) (pins : List (Addr × Obj)) (s : Shared) (σ : St) (H : Hp) (Q : List V → Hp → Prop), Inv X pins σ H s → t σ H Q → wpAny (model X.prog X.w) X.A (spliced (backTo pos (starEach es X.env))) (AP X pins σ Q) X.xe s
def PS (X : Cx) (st : Stmt) (t : TS) : Prop :=
  ∀ (pins : List (Addr × Obj)) (s : Shared) (σ : St) (H : Hp) (D : Ends), Inv X pins σ H s → t D σ H → wpAny (model X.prog X.w) X.A (exec st X.env) (SP X pins D) X.xe s
def PSs (X : Cx) (st : List Stmt) (t : TS) : Prop :=
  ∀ (pins : List (Addr × Obj)) (s : Shared) (σ : St) (H : Hp) (D : Ends), Inv X pins σ H s → t D σ H → wpAny (model X.prog X.w) X.A (execs st X.env) (SP X pins D) X.xe s
/-- weaken the end -/
theorem thn {α : Type} {t : Sem α} {Q Q' : α → Shared → Prop} {M : Model} {A : Around} {E : Value → Shared → Prop} {s : Shared} (h : wpAny M A t Q E s) (hQ : ∀ a s, Q a s → Q' a s) : wpAny M A t Q' E s := wpAny_mono h hQ fun _ _ x => x
end L2

namespace L2
open PySem PySem.Spec PyProof.Rows
section
variable {X : Cx}

/-! ### names and constants -/
def tVar (i : Nat) : TE := fun σ H Q => ∃ v, σ[i]? = some (some v) ∧ Q v H
def tC (v : V) : TE := fun _ H Q => Q v H
theorem pe_var {i : Nat} {x : Str} {pos : Pos} (hN : X.N[i]? = some x) (hv : Vis X.env.scope x) (hd : (x == ("__debug__" : Str)) = false := by decide) (hcd : (x == ("__classdict__" : Str)) = false := by decide) : PE X (.Name x pos) (tVar i) := by
  intro pins s σ H Q I h
  obtain ⟨v, e, h⟩ := h
  obtain ⟨m, hn, hl⟩ := I.loc
  obtain ⟨u, r, l⟩ := hl i x v hN e hv
  have fin : EP X pins σ Q u s := ⟨v, H, I, r, h⟩
  rcases l with ⟨hk, hm⟩ | ⟨hk, c, hc, hcell⟩
  · exact wpAny_Name (wpAny_loadName_local I.ok.kind hk hn hm fin) hd
  · rcases hk with hk | hk
    · exact wpAny_Name (wpAny_loadName_cell I.ok.kind hk hc hcell fin) hd
    · exact wpAny_Name (wpAny_loadName_free I.ok.kind hk hc hcell fin hcd) hd
theorem pe_int {i j pos} : PE X (.Constant (.int i) j pos) (tC (.int i)) := fun _ _ _ H _ I h => wpAny_Constant_int ⟨.int i, H, I.tok _, ⟨_, rfl⟩, h⟩
theorem pe_bl {b j pos} : PE X (.Constant (.bool b) j pos) (tC (.bl b)) := fun _ _ _ H _ I h => Constant_bool ⟨.bl b, H, I, rfl, h⟩
theorem pe_str {x j pos} : PE X (.Constant (.str x) j pos) (tC (.str x)) := fun _ _ _ H _ I h => Calls.Constant_str ⟨.str x, H, I.tok _, ⟨_, rfl⟩, h⟩

/-- a global name of the def -/
def Gl (X : Cx) (x : Str) : Prop := X.env.kindOf x = some .globalImplicit
theorem ld_glob {E : Value → Shared → Prop} {pins : List (Addr × Obj)} {s : Shared} {σ : St} {H : Hp} {x : Str} {u : Value} {pos : Pos} {Q : Value → Shared → Prop} (I : Inv X pins σ H s) (hg : Gl X x) (hm : X.mg x = some u) (h : Q u s)
    (hd : (x == ("__debug__" : Str)) = false := by decide) : wpAny (model X.prog X.w) X.A (eval (.Name x pos) X.env) Q E s :=
  Calls.Name_function_global I.ok.kind hg (Calls.loadGlobal_global (by rw [I.ok.glob]; exact I.mod.glob.keeps I.bk) hm h) hd
theorem ld_blt {E : Value → Shared → Prop} {pins : List (Addr × Obj)} {s : Shared} {σ : St} {H : Hp} {x : Str} {u : Value} {pos : Pos} {Q : Value → Shared → Prop} (I : Inv X pins σ H s) (hg : Gl X x) (hm : X.mg x = none) (hv : bootBuiltins x = some u) (h : Q u s)
    (hn : x ≠ "__name__" := by decide) (hd : (x == ("__debug__" : Str)) = false := by decide) : wpAny (model X.prog X.w) X.A (eval (.Name x pos) X.env) Q E s := by
  obtain ⟨mb, h1, h2⟩ := I.mod.blt
  exact Calls.Name_function_global I.ok.kind hg (Calls.loadGlobal_builtin (by rw [I.ok.glob]; exact I.mod.glob.keeps I.bk) hm (by rw [I.ok.blt]; exact h1.keeps I.bk) ((h2 x hn).trans hv) h) hd
theorem pe_bltn {x : Str} {v : V} {u : Value} {pos : Pos} (hg : Gl X x) (hm : X.mg x = none) (hv : bootBuiltins x = some u) (r : RelV v u) (hn : x ≠ "__name__" := by decide) (hd : (x == ("__debug__" : Str)) = false := by decide) : PE X (.Name x pos) (tC v) :=
  fun _ _ _ H _ I h => ld_blt I hg hm hv ⟨v, H, I, r, h⟩ hn hd

/-! ### arithmetic -/
variable {a b : Expr} {ta tb : TE} {pos : Pos}
/-! ### comparisons -/
/-- a comparison as a value, as a test -/
def tB (t : TE) : TT := fun σ H Q => t σ H fun x H1 => ∃ c, x = .bl c ∧ Q c H1
/-- an expression whose value is a bool, as a test -/
theorem pt_val {e : Expr} {t : TE} (h : PE X e t) (he : ∀ whole, isTrue e X.env whole = (do let v ← whole; standAt e.pos; holding [v] (truthy v)) := by intro _; rfl) : PT X e (tB t) := by
  intro pins s σ H Q I hw
  refine isTrue_plain (thn (h pins s σ H _ I hw) fun v s1 ⟨x, H1, I1, r1, q1⟩ => ?_) (he _)
  obtain ⟨d, rfl, q⟩ := q1
  cases r1
  exact wpAny_truthy_bool ⟨H1, I1, q⟩

/-! ### and, or, not -/
variable {tA tB' : TT} {rest : List Expr}
def tAnd (t u : TT) : TT := fun σ H Q => t σ H fun c H1 => if c = true then u σ H1 Q else Q false H1
def tOr (t u : TT) : TT := fun σ H Q => t σ H fun c H1 => if c = true then Q true H1 else u σ H1 Q
def tNot (t : TT) : TT := fun σ H Q => t σ H fun c H1 => Q (!c) H1
theorem pw_and1 (ha : PT X a tA) : PW X (.BoolOp .And [a] pos) tA := by
  intro wh pins s σ H Q I h
  refine isTrue_and (thn (ha pins s σ H Q I h) fun c s1 e => ?_)
  cases c with
  | true => exact isTrue_and_nil e
  | false => exact e
theorem pw_or1 (ha : PT X a tA) : PW X (.BoolOp .Or [a] pos) tA := by
  intro wh pins s σ H Q I h
  refine isTrue_or (thn (ha pins s σ H Q I h) fun c s1 e => ?_)
  cases c with
  | false => exact isTrue_or_nil e
  | true => exact e
theorem pw_and (ha : PT X a tA) (hb : PW X (.BoolOp .And (b :: rest) pos) tB') : PW X (.BoolOp .And (a :: b :: rest) pos) (tAnd tA tB') := by
  intro wh pins s σ H Q I h
  refine isTrue_and (thn (ha pins s σ H _ I h) fun c s1 ⟨H1, I1, q1⟩ => ?_)
  cases c with
  | true => exact hb wh pins s1 σ H1 Q I1 q1
  | false => exact ⟨H1, I1, q1⟩
theorem pw_or (ha : PT X a tA) (hb : PW X (.BoolOp .Or (b :: rest) pos) tB') : PW X (.BoolOp .Or (a :: b :: rest) pos) (tOr tA tB') := by
  intro wh pins s σ H Q I h
  refine isTrue_or (thn (ha pins s σ H _ I h) fun c s1 ⟨H1, I1, q1⟩ => ?_)
  cases c with
  | true => exact ⟨H1, I1, q1⟩
  | false => exact hb wh pins s1 σ H1 Q I1 q1
theorem pt_not (ha : PT X a tA) : PT X (.UnaryOp .Not a pos) (tNot tA) := by
  intro pins s σ H Q I h
  exact isTrue_not (ha pins s σ H (fun c H1 => Q (!c) H1) I h)
/-- .. as values (bools) -/
def tAndV (ta tb : TE) : TE := fun σ H Q => ta σ H fun x H1 => ∃ c, x = .bl c ∧ if c = true then tb σ H1 Q else Q (.bl false) H1
theorem pe_one {op} {t : TE} (h : PE X a t) : PE X (.BoolOp op [a] pos) t := fun pins s σ H Q I hw => BoolOp_one (h pins s σ H Q I hw)
theorem pe_and (ha : PE X a ta) (hb : PE X (.BoolOp .And (b :: rest) pos) tb) : PE X (.BoolOp .And (a :: b :: rest) pos) (tAndV ta tb) := by
  intro pins s σ H Q I h
  refine BoolOp_and (thn (ha pins s σ H _ I h) fun v s1 ⟨x, H1, I1, r1, q1⟩ => ?_)
  obtain ⟨c, rfl, q1⟩ := q1
  cases r1
  refine wpAny_truthy_bool ?_
  cases c with
  | true => exact hb pins s1 σ H1 Q I1 q1
  | false => exact ⟨.bl false, H1, I1, rfl, q1⟩
/-- a if t else b -/
def tIf (t : TT) (ta tb : TE) : TE := fun σ H Q => t σ H fun c H1 => if c = true then ta σ H1 Q else tb σ H1 Q
theorem pe_ifExp {c : Expr} (hc : PT X c tA) (ha : PE X a ta) (hb : PE X b tb) : PE X (.IfExp c a b pos) (tIf tA ta tb) := by
  intro pins s σ H Q I h
  refine wpAny_IfExp (thn (hc pins s σ H _ I h) fun d s1 ⟨H1, I1, q1⟩ => ?_)
  cases d with
  | true => exact ha pins s1 σ H1 Q I1 q1
  | false => exact hb pins s1 σ H1 Q I1 q1
end
end L2

namespace L2
open PySem PySem.Spec PyProof.Rows

/-! ### a list, a tuple that is read: tracked, frozen, or an object of the module -/
def SqL (K : PySem.W.Frag) (H : Hp) (a : Addr) (xs : List V) : Prop :=
  Rd H a (.lst xs) ∨
    ∃ (o : Obj) (its : Array Value) (n : Nat), K.lookup a = some o ∧ o.cls = .type "list" ∧ o.dict = none ∧ o.data = .seq its n ∧ its.size ≤ sizeLine ∧ Vals xs its.toList
def SqT (K : PySem.W.Frag) (H : Hp) (a : Addr) (xs : List V) : Prop :=
  Rd H a (.tup xs) ∨
    ∃ (o : Obj) (its : Array Value) (n : Nat), K.lookup a = some o ∧ o.cls = .type "tuple" ∧ o.data = .seq its n ∧ its.size ≤ sizeLine ∧ Vals xs its.toList
def absV : Value → Option V
  | .none => some .non
  | .bool b => some (.bl b)
  | .int i _ => some (.int i)
  | .str x _ => some (.str x)
  | .bytes b _ => some (.byt b)
  | .float b _ => some (.flt b)
  | .ref a => some (.ref a)
  | .type n => some (.ty n)
  | _ => none
theorem RelV.abs {x : V} {u : Value} (r : RelV x u) : absV u = some x := by
  cases x with
  | non => cases r; rfl
  | bl _ => cases r; rfl
  | int _ => obtain ⟨t, rfl⟩ := r; rfl
  | str _ => obtain ⟨t, rfl⟩ := r; rfl
  | byt _ => obtain ⟨t, rfl⟩ := r; rfl
  | flt _ => obtain ⟨t, rfl⟩ := r; rfl
  | ref _ => cases r; rfl
  | ty _ => cases r; rfl
theorem RelV.inj {x y : V} {u : Value} (r : RelV x u) (q : RelV y u) : x = y := Option.some.inj (r.abs.symm.trans q.abs)
theorem Vals.inj : ∀ {xs ys : List V} {us : List Value}, Vals xs us → Vals ys us → xs = ys
  | _, _, _, .nil, .nil => rfl
  | _, _, _, .cons r t, .cons r' t' => by rw [r.inj r', Vals.inj t t']
section
variable {X : Cx} {pins : List (Addr × Obj)} {σ : St} {H : Hp} {s : Shared} {a : Addr} {xs ys : List V}
theorem SqL.of {K : PySem.W.Frag} (h : H a = some (.lst xs)) : SqL K H a xs := .inl (.inl h)
theorem SqT.of {K : PySem.W.Frag} (h : H a = some (.tup xs)) : SqT K H a xs := .inl (.inl h)
theorem Inv.list (I : Inv X pins σ H s) (h : SqL X.K H a xs) : ∃ its : List Value, Vals xs its ∧ PlainL s.heap a its.toArray ∧ xs.length ≤ sizeLine := by
  rcases h with h | ⟨o, its, n, hk, hc, hd, hs, hz, r⟩
  · obtain ⟨z, its, n, r, e⟩ := h.ok I.hok
    exact ⟨its, r, ⟨_, n, e, rfl, rfl, rfl⟩, z⟩
  · refine ⟨its.toList, r, ⟨o, n, I.kIn a o hk, hc, hd, by simpa using hs⟩, ?_⟩
    have e := r.length
    simp only [Array.length_toList] at e
    omega
theorem Inv.tuple (I : Inv X pins σ H s) (h : SqT X.K H a xs) : ∃ its : List Value, Vals xs its ∧ IsTup s.heap a its.toArray ∧ xs.length ≤ sizeLine := by
  rcases h with h | ⟨o, its, n, hk, hc, hs, hz, r⟩
  · obtain ⟨z, its, r, p⟩ := h.ok I.hok
    exact ⟨its, r, p, z⟩
  · refine ⟨its.toList, r, ⟨o, I.kIn a o hk, hc, n, by simpa using hs⟩, ?_⟩
    have e := r.length
    simp only [Array.length_toList] at e
    omega
theorem Inv.list_inj (I : Inv X pins σ H s) (h : SqL X.K H a xs) (h' : SqL X.K H a ys) : xs = ys := by
  obtain ⟨its, r, ⟨o, n, e, _, _, d⟩, _⟩ := I.list h
  obtain ⟨its', r', ⟨o', n', e', _, _, d'⟩, _⟩ := I.list h'
  rw [e] at e'; cases e'
  rw [d] at d'
  injection d' with d1 _
  have : its = its' := by simpa using congrArg Array.toList d1
  subst this
  exact r.inj r'
theorem Inv.tuple_inj (I : Inv X pins σ H s) (h : SqT X.K H a xs) (h' : SqT X.K H a ys) : xs = ys := by
  obtain ⟨its, r, ⟨o, e, _, n, d⟩, _⟩ := I.tuple h
  obtain ⟨its', r', ⟨o', e', _, n', d'⟩, _⟩ := I.tuple h'
  rw [e] at e'; cases e'
  rw [d] at d'
  injection d' with d1 _
  have : its = its' := by simpa using congrArg Array.toList d1
  subst this
  exact r.inj r'
end

/-! ### another wish about exceptions -/
abbrev Cx.wish (X : Cx) (E : Value → Shared → Prop) : Cx := { X with xe := E }
/-- no exception leaves -/
abbrev Cx.nox (X : Cx) : Cx := X.wish fun _ _ => False
theorem Cx.Ok.wish {X : Cx} (ok : X.Ok) (E : Value → Shared → Prop) : (X.wish E).Ok :=
  ⟨ok.mod, ok.kind, ok.glob, ok.blt, ok.above, ok.inj, ok.has, ok.cab, ok.hd, ok.frames, ok.stk, ok.exf, ok.bs, ok.bsz, ok.noex, ok.exfs, ok.funs, ok.frf⟩
theorem Cx.Ok.unwish {X : Cx} {E : Value → Shared → Prop} (ok : (X.wish E).Ok) : X.Ok :=
  ⟨ok.mod, ok.kind, ok.glob, ok.blt, ok.above, ok.inj, ok.has, ok.cab, ok.hd, ok.frames, ok.stk, ok.exf, ok.bs, ok.bsz, ok.noex, ok.exfs, ok.funs, ok.frf⟩
section
variable {X : Cx} {pins : List (Addr × Obj)} {σ : St} {H : Hp} {s : Shared} {E : Value → Shared → Prop}
theorem Inv.wish (I : Inv X pins σ H s) (E : Value → Shared → Prop) : Inv (X.wish E) pins σ H s := ⟨I.ok.wish E, I.os, I.bare, I.base, I.loc, I.cell, I.free, I.freeC, I.pin, I.hok, I.len⟩
theorem Inv.unwish (I : Inv (X.wish E) pins σ H s) : Inv X pins σ H s := ⟨I.ok.unwish, I.os, I.bare, I.base, I.loc, I.cell, I.free, I.freeC, I.pin, I.hok, I.len⟩
theorem SP.unwish {D : Ends} {f : Flow} {s' : Shared} (h : SP (X.wish E) pins D f s') : SP X pins D f s' := by
  cases f with
  | next => obtain ⟨σ', H', I, q⟩ := h; exact ⟨σ', H', I.unwish, q⟩
  | brk => obtain ⟨σ', H', I, q⟩ := h; exact ⟨σ', H', I.unwish, q⟩
  | cont => obtain ⟨σ', H', I, q⟩ := h; exact ⟨σ', H', I.unwish, q⟩
  | ret u => obtain ⟨v, σ', H', I, r, q⟩ := h; exact ⟨v, σ', H', I.unwish, r, q⟩
theorem PE.nox {e : Expr} {t : TE} (h : PE X.nox e t) : PE X e t := fun pins s σ H Q I hw =>
  wpAny_mono (h pins s σ H Q (I.wish _) hw) (fun _ _ ⟨v, H', I', r, q⟩ => ⟨v, H', I'.unwish, r, q⟩) fun _ _ z => False.elim z
theorem PT.nox {e : Expr} {t : TT} (h : PT X.nox e t) : PT X e t := fun pins s σ H Q I hw =>
  wpAny_mono (h pins s σ H Q (I.wish _) hw) (fun _ _ ⟨H', I', q⟩ => ⟨H', I'.unwish, q⟩) fun _ _ z => False.elim z
theorem PSs.nox {st : List Stmt} {t : TS} (h : PSs X.nox st t) : PSs X st t := fun pins s σ H D I hw =>
  wpAny_mono (h pins s σ H D (I.wish _) hw) (fun _ _ q => q.unwish) fun _ _ z => False.elim z
end

/-! ### blocks and small statements -/
section
variable {X : Cx} {st : Stmt} {rest : List Stmt} {t u : TS} {e : Expr} {te : TE} {pos : Pos}
def tNext : TS := fun D σ H => D.nx σ H
def tSeq (t u : TS) : TS := fun D σ H => t { D with nx := u D } σ H
theorem pss_nil : PSs X [] tNext := fun _ _ σ H _ I h => wpAny_execs_nil ⟨σ, H, I, h⟩
theorem pss_cons (h1 : PS X st t) (h2 : PSs X rest u) : PSs X (st :: rest) (tSeq t u) := by
  intro pins s σ H D I h
  refine wpAny_execs_cons (thn (h1 pins s σ H { D with nx := u D } I h) fun f s1 q => ?_)
  cases f with
  | next =>
    obtain ⟨σ', H', I', q⟩ := q
    exact h2 pins s1 σ' H' D I' q
  | ret v => exact q
  | brk => exact q
  | cont => exact q
theorem pss_one (h1 : PS X st t) : PSs X [st] t := by
  intro pins s σ H D I h
  refine wpAny_execs_cons (thn (h1 pins s σ H D I h) fun f s1 q => ?_)
  cases f with
  | next => exact wpAny_execs_nil q
  | ret v => exact q
  | brk => exact q
  | cont => exact q
def tRet (te : TE) : TS := fun D σ H => te σ H D.rt
theorem ps_ret (he : PE X e te) : PS X (.Return (some e) pos) (tRet te) := by
  intro pins s σ H D I h
  exact wpAny_Return_some (thn (he pins s σ H _ I h) fun v s1 ⟨x, H1, I1, r1, q1⟩ => ⟨x, σ, H1, I1, r1, q1⟩)
def tIfS (c : TT) (t u : TS) : TS := fun D σ H => c σ H fun b H1 => if b = true then t D σ H1 else u D σ H1
theorem ps_if {c : Expr} {a b : List Stmt} {tc : TT} (hc : PT X c tc) (ha : PSs X a t) (hb : PSs X b u) : PS X (.If c a b pos) (tIfS tc t u) := by
  intro pins s σ H D I h
  refine wpAny_If (thn (hc pins s σ H _ I h) fun d s1 ⟨H1, I1, q1⟩ => ?_)
  cases d with
  | true => exact ha pins s1 σ H1 D I1 q1
  | false => exact hb pins s1 σ H1 D I1 q1
end

/-! ### targets -/
abbrev TG := V → St → Hp → (St → Hp → Prop) → Prop
abbrev TGs := List V → St → Hp → (St → Hp → Prop) → Prop
def PG (X : Cx) (target : Expr) (t : TG) : Prop :=
  ∀ (pins : List (Addr × Obj)) (s : Shared) (σ : St) (H : Hp) (v : V) (u : Value) (Q : St → Hp → Prop), Inv X pins σ H s → RelV v u → t v σ H Q →
    wpAny (model X.prog X.w) X.A (assign target X.env u) (fun _ s' => ∃ σ' H', Inv X pins σ' H' s' ∧ Q σ' H') X.xe s
/-- several targets, one after another -/
def PGs (X : Cx) (ts : List Expr) (t : TGs) : Prop :=
  ∀ (pins : List (Addr × Obj)) (s : Shared) (σ : St) (H : Hp) (vs : List V) (us : List Value) (Q : St → Hp → Prop), Inv X pins σ H s → Vals vs us → t vs σ H Q →
    wpAny (model X.prog X.w) X.A (assignInOrder ((assignEach ts X.env).map (·.2)) us) (fun _ s' => ∃ σ' H', Inv X pins σ' H' s' ∧ Q σ' H') X.xe s
/-- o[i] = v, by values -/
abbrev TSet := V → V → V → Hp → (Hp → Prop) → Prop
def PSet (X : Cx) (t : TSet) : Prop :=
  ∀ (pins : List (Addr × Obj)) (s : Shared) (σ : St) (H : Hp) (o i v : V) (ov iv u : Value) (Q : Hp → Prop), Inv X pins σ H s → RelV o ov → RelV i iv → RelV v u → t o i v H Q →
    wpAny (model X.prog X.w) X.A (setItem ov iv u) (fun _ s' => ∃ H', Inv X pins σ H' s' ∧ Q H') X.xe s
section
variable {X : Cx} {pos : Pos}
def gName (i : Nat) : TG := fun v σ H Q => Q (σ.set i (some v)) H
theorem pg_name {i : Nat} {x : Str} (hN : X.N.Nodup) (hi : X.N[i]? = some x) (hx : Loc X.env.scope x) (hf : X.fn x = true ∨ X.env.scope.names.lookup x = some .local := by first | exact .inl rfl | exact .inr rfl | assumption) : PG X (.Name x pos) (gName i) := by
  intro pins s σ H v u Q I r h
  exact wpAny_assign_Name (store_ok I hN hi hx r (fun s' I' => ⟨_, H, I', h⟩) hf)
def gNil : TGs := fun vs σ H Q => vs = [] ∧ Q σ H
def gCons (t : TG) (u : TGs) : TGs := fun vs σ H Q => ∃ v r, vs = v :: r ∧ t v σ H fun σ' H' => u r σ' H' Q
theorem pgs_nil : PGs X [] gNil := by
  intro pins s σ H vs us Q I r h
  obtain ⟨e, h⟩ := h
  subst e
  cases r
  exact assignInOrder_nil ⟨σ, H, I, h⟩
theorem pgs_cons {e : Expr} {es : List Expr} {t : TG} {u : TGs} (h1 : PG X e t) (h2 : PGs X es u)
    (hs : (assignEach (e :: es) X.env).map (·.2) = assign e X.env :: (assignEach es X.env).map (·.2) := by rfl) : PGs X (e :: es) (gCons t u) := by
  intro pins s σ H vs us Q I r h
  obtain ⟨v, vr, e1, h⟩ := h
  subst e1
  cases r with
  | cons r rr =>
    rw [hs]
    refine assignInOrder_cons (thn (h1 pins s σ H _ _ _ I r h) fun _ s1 ⟨σ1, H1, I1, q1⟩ => ?_)
    exact h2 pins s1 σ1 H1 _ _ Q I1 rr q1
/-- (a, b, ..) = a tuple of that length -/
def gTup (K : PySem.W.Frag) (n : Nat) (t : TGs) : TG := fun v σ H Q => ∃ a xs, v = .ref a ∧ SqT K H a xs ∧ xs.length = n ∧ t xs σ H Q
theorem pg_tup {es : List Expr} {k : Nat} {t : TGs} {n : Nat} (hc : X.calm = true) (h : PGs X es t)
    (hn : (assignEach es X.env).length = n := by rfl) (hst : (assignEach es X.env).findIdx? (·.1) = none := by rfl) : PG X (.Tuple es k pos) (gTup X.K n t) := by
  intro pins s σ H v u Q I r hw
  obtain ⟨a, xs, e1, hq, hl, hw⟩ := hw
  subst e1
  cases r
  obtain ⟨its, rv, ht, hz⟩ := I.tuple hq
  refine assign_Tuple_tuple (I.ok.hd hc) ht (by simp [hn, ← hl, rv.length]) hst fun h' hx => ?_
  have I1 : Inv X pins σ H { s with heap := h' } := I.kept (t' := s.toks) fun b o e => hx b o (Nat.ne_of_lt (Heap.lt_size e)) e
  exact h pins _ σ H xs _ Q I1 (by simpa using rv) hw
/-- o[i] = .. -/
def gSub (to ti : TE) (t : TSet) : TG := fun v σ H Q => to σ H fun o H1 => ti σ H1 fun i H2 => t o i v H2 fun H3 => Q σ H3
theorem pg_sub {o i : Expr} {to ti : TE} {t : TSet} (ho : PE X o to) (hi : PE X i ti) (hs : PSet X t)
    (ha : ∀ v, assign (.Subscript o i pos) X.env v = (do
      let ov ← holding [v] (eval o X.env)
      let iv ← holding [v, ov] (eval i X.env)
      standAt pos
      holding [v, ov, iv] (setItem ov iv v)
      release [v, ov, iv] []) := by intro _; rfl) : PG X (.Subscript o i pos) (gSub to ti t) := by
  intro pins s σ H v u Q I r h
  rw [ha]
  refine wpAny_bind (wpAny_holding (thn (ho pins s σ H _ I h) fun ov s1 ⟨x, H1, I1, r1, q1⟩ => ?_))
  refine wpAny_bind (wpAny_holding (thn (hi pins s1 σ H1 _ I1 q1) fun iv s2 ⟨y, H2, I2, r2, q2⟩ => ?_))
  refine wpAny_bind (wpAny_standAt (wpAny_bind (wpAny_holding (thn (hs pins s2 σ H2 x y v ov iv u _ I2 r1 r2 r q2) fun _ s3 ⟨H3, I3, q3⟩ => ?_))))
  exact wpAny_release ⟨σ, H3, I3, q3⟩
/-- target = value -/
def tAsg (te : TE) (g : TG) : TS := fun D σ H => te σ H fun x H1 => g x σ H1 D.nx
theorem ps_asg {tg e : Expr} {te : TE} {g : TG} (he : PE X e te) (hg : PG X tg g) (hs : swapsWithSole [tg] e pos.line X.env = pure false := by rfl) (hw : swappedStores [tg] e X.env = pure none := by rfl)
    (h1 : (assignEach [tg] X.env).map (·.2) = [assign tg X.env] := by rfl) : PS X (.Assign [tg] e pos) (tAsg te g) := by
  intro pins s σ H D I h
  refine wpAny_Assign_stores (thn (he pins s σ H _ I h) fun v s1 ⟨x, H1, I1, r1, q1⟩ => ?_) hs hw
  rw [h1]
  exact thn (hg pins s1 σ H1 x v _ I1 r1 q1) fun _ s2 q => q
/-- name = value -/
theorem ps_set {i : Nat} {x : Str} {e : Expr} {te : TE} {pos' : Pos} (hN : X.N.Nodup) (hi : X.N[i]? = some x) (hx : Loc X.env.scope x) (he : PE X e te) (hs : swapsWith e (some (.Name x pos')) pos.line X.env = pure false := by rfl) (hf : X.fn x = true ∨ X.env.scope.names.lookup x = some .local := by first | exact .inl rfl | exact .inr rfl | assumption) :
    PS X (.Assign [.Name x pos'] e pos) (tAsg te (gName i)) := by
  intro pins s σ H D I h
  refine wpAny_Assign_Name (thn (he pins s σ H _ I h) fun v s1 ⟨y, H1, I1, r1, q1⟩ => ?_) hs
  exact store_ok I1 hN hi hx r1 (fun s2 I2 => ⟨_, H1, I2, q1⟩) hf
/-- a, b = x, y with plain local names: stored from the right; the pair itself is not tracked (the opening rows as in PyProof/Rows/TupAssign.lean:23) -/
def tPar (i j : Nat) (ta : TA) : TS := fun D σ H => ta σ H fun vs H1 => ∃ v w, vs = [v, w] ∧ D.nx ((σ.set i (some v)).set j (some w)) H1
theorem ps_par {i j : Nat} {x y : Str} {a b : Expr} {ta : TA} {px py pt : Pos} {kt k2 pt2} (hc : X.calm = true) (hN : X.N.Nodup) (hi : X.N[i]? = some x) (hj : X.N[j]? = some y) (hij : i ≠ j)
    (hx : X.env.scope.names.lookup x = some .local) (hy : X.env.scope.names.lookup y = some .local) (ha : PA X [a, b] ta)
    (hw : swappedStores [.Tuple [.Name x px, .Name y py] kt pt] (.Tuple [a, b] k2 pt2) X.env = pure (some [x, y]))
    (hs : swapsWithSole [.Tuple [.Name x px, .Name y py] kt pt] (.Tuple [a, b] k2 pt2) pos.line X.env = pure false := by rfl) :
    PS X (.Assign [.Tuple [.Name x px, .Name y py] kt pt] (.Tuple [a, b] k2 pt2) pos) (tPar i j ta) := by
  intro pins s σ H D I h
  rw [exec_Assign_arm]
  refine wpAny_bind (wpAny_standAt ?_)
  rw [hs]
  refine wpAny_bind (wpAny_pure ?_)
  rw [if_neg (by decide)]
  refine wpAny_bind (Tuple_ (thn (ha _ pins s σ H _ I h) fun us s1 ⟨vs, H1, I1, r1, q1⟩ => ?_))
  obtain ⟨v, w, e1, q1⟩ := q1
  subst e1
  obtain ⟨u1, u2, rfl, rv, rw'⟩ : ∃ u1 u2, us = [u1, u2] ∧ RelV v u1 ∧ RelV w u2 := by
    cases r1 with
    | cons p q =>
      cases q with
      | cons p' q' =>
        cases q'
        exact ⟨_, _, rfl, p, p'⟩
  refine wpAny_newObj_type ?_ (by show 2 ≤ sizeLine; decide)
  have I2 : Inv X pins σ H1 { s1 with heap := s1.heap.push { cls := .type "tuple", data := .seq [u1, u2].toArray } } := I1.kept (t' := s1.toks) fun b o e => Heap.get?_push_of_some _ e
  rw [hw]
  refine wpAny_bind (wpAny_pure ?_)
  show wpAny (model X.prog X.w) X.A (do rule "assign.swapped-stores"; let items ← unpackItems (.ref s1.heap.objs.size) 2 none; assignInOrder [fun v => bindName X.env y v, fun v => bindName X.env x v] items.reverse; pure Flow.next) _ _ _
  refine wpAny_bind (wpAny_rule (wpAny_bind (unpackItems_tuple (items := #[u1, u2]) (I.ok.hd hc) (IsTup.new s1.heap _) fun h' hx' => ?_)))
  have I3 := I2.kept (h' := h') (t' := s1.toks) fun b o e => hx' b o (Nat.ne_of_lt (Heap.lt_size e)) e
  show wpAny _ _ (assignInOrder [fun v => bindName X.env y v, fun v => bindName X.env x v] [u2, u1] >>= fun _ => pure Flow.next) _ _ _
  refine wpAny_bind (assignInOrder_cons (wpAny_bindName (store_ok I3 hN hj (.inl hy) rw' (fun s2 I4 => ?_) (.inr hy))))
  refine assignInOrder_cons (wpAny_bindName (store_ok I4 hN hi (.inl hx) rv (fun s3 I5 => assignInOrder_nil (wpAny_pure ?_)) (.inr hx)))
  rw [List.set_comm _ _ (Ne.symm hij)] at I5
  exact ⟨_, H1, I5, q1⟩
end

/-! ### while -/
section
variable {X : Cx} {pos : Pos}
/-- the invariant W with its measure -/
def tWhile (c : TT) (tb : TS) : TS := fun D σ H => ∃ W : Nat → St → Hp → Prop, (∃ m, W m σ H) ∧ ∀ m σ H, W m σ H →
  c σ H fun b H1 => if b = true then ∃ N : St → Hp → Prop, (∀ σ' H', N σ' H' → ∃ m', m' < m ∧ W m' σ' H') ∧ tb { D with nx := N, ct := N, bk := D.nx } σ H1 else D.nx σ H1
theorem ps_while {c : Expr} {body : List Stmt} {tc : TT} {tb : TS} (hp : PassesOwn (model X.prog X.w) X.A X.env X.xe) (hc : PT X c tc) (hb : PSs X body tb) : PS X (.While c body [] pos) (tWhile tc tb) := by
  intro pins s σ H D I h
  obtain ⟨W, ⟨m0, w0⟩, turn⟩ := h
  refine wpAny_While (codeAny_whileLoop (fun n s' => ∃ σ' H', Inv X pins σ' H' s' ∧ W n σ' H') ?_ m0 ⟨σ, H, I, w0⟩)
  rintro n s1 ⟨σ1, H1, I1, w1⟩
  refine wpAny_passesOwn hp (thn (hc pins s1 σ1 H1 _ I1 (turn n σ1 H1 w1)) fun b s2 ⟨H2, I2, q2⟩ => ?_)
  cases b with
  | true =>
    obtain ⟨N, hN, q2⟩ := q2
    rw [if_pos rfl]
    refine wpAny_passesOwn hp (thn (hb pins s2 σ1 H2 _ I2 q2) fun f s3 q3 => ?_)
    cases f with
    | next =>
      obtain ⟨σ3, H3, I3, n3⟩ := q3
      obtain ⟨m', hm, w3⟩ := hN σ3 H3 n3
      exact ⟨m', hm, σ3, H3, I3, w3⟩
    | cont =>
      obtain ⟨σ3, H3, I3, n3⟩ := q3
      obtain ⟨m', hm, w3⟩ := hN σ3 H3 n3
      exact ⟨m', hm, σ3, H3, I3, w3⟩
    | brk => exact q3
    | ret v => exact q3
  | false =>
    rw [if_neg Bool.false_ne_true]
    exact wpAny_execs_nil ⟨σ1, H2, I2, q2⟩
end

/-! ### what a loop or a comprehension walks -/
/-- at turn i: it yields x (the heap may grow), or it stops -/
structure It where
  go : Nat → Hp → Prop
  yld : Nat → Hp → V → Hp → Prop
  stop : Nat → Hp → Prop
/-- the iterator's own objects may turn: they are not the frame's, not pinned, younger than the entry (or a comprehension's own) -/
def FpOk (X : Cx) (pins : List (Addr × Obj)) (H : Hp) (b : Addr) : Prop :=
  H b = none ∧ b ≠ X.env.locals ∧ b ∉ X.fs ∧ (b ∈ X.ex ∨ X.s₀.heap.objs.size ≤ b) ∧ (∀ x c, X.env.cells.lookup x = some c → c ≠ b) ∧ ∀ p ∈ X.pn ++ pins, p.1 ≠ b
theorem Inv.fpOk {X : Cx} {pins : List (Addr × Obj)} {σ : St} {H H' : Hp} {s : Shared} {b : Addr} (I : Inv X pins σ H s) (hb : s.heap.objs.size ≤ b) (hn : H' b = none) : FpOk X pins H' b := by
  refine ⟨hn, Nat.ne_of_gt (Nat.lt_of_lt_of_le I.lt hb), I.nofs hb, .inr (Nat.le_trans I.sz hb), fun x c e z => ?_, fun p hp z => ?_⟩
  · obtain ⟨v, q⟩ := I.cell x c e
    exact absurd (Nat.lt_of_lt_of_le q.lt (by rw [z]; exact hb)) (Nat.lt_irrefl _)
  · exact absurd (Nat.lt_of_lt_of_le (Heap.lt_size (I.pin p hp).1) (by rw [z]; exact hb)) (Nat.lt_irrefl _)
structure Turn (P : Program) (w : World) (K : PySem.W.Frag) (tg : Expr) (J : It) (fp : List Addr) (it : Addr) (tn : Nat → Heap → Prop) : Prop where
  mem : it ∈ fp
  obj : ∀ i h, tn i h → ∀ b ∈ fp, ∃ o, h.get? b = some o ∧ ∀ v, o.data ≠ .cell v
  keep : ∀ i h h', tn i h → (∀ b ∈ fp, ∀ o, h.get? b = some o → h'.get? b = some o) → tn i h'
  item : ∀ (X : Cx), X.prog = P → X.w = w → X.K = K → X.calm = true → ∀ (i : Nat) (pins : List (Addr × Obj)) (s : Shared) (σ : St) (H : Hp) (E : Value → Shared → Prop), Inv X pins σ H s → (∀ b ∈ fp, FpOk X pins H b) → tn i s.heap → J.go i H →
    wpAny (model P w) X.A (pyNext (.ref it)) (fun r s1 => ∃ u, r = some u ∧
      wpAny (model P w) X.A (letOwnedTupleGo tg (.ref it) u) (fun _ s2 => ∃ x H', Inv X pins σ H' s2 ∧ RelV x u ∧ J.yld i H x H' ∧ tn (i + 1) s2.heap ∧ ∀ b ∈ fp, H' b = none) E s1) E s
  done : ∀ (X : Cx), X.prog = P → X.w = w → X.K = K → X.calm = true → ∀ (i : Nat) (pins : List (Addr × Obj)) (s : Shared) (σ : St) (H : Hp) (E : Value → Shared → Prop), Inv X pins σ H s → (∀ b ∈ fp, FpOk X pins H b) → tn i s.heap → J.stop i H →
    wpAny (model P w) X.A (pyNext (.ref it)) (fun r s1 => r = none ∧ Inv X pins σ H s1) E s
  self : ∀ (A : Around) (i : Nat) (s : Shared) (Q : Value → Shared → Prop) (E : Value → Shared → Prop), tn i s.heap → Q (.ref it) s → wpAny (model P w) A (pyIter (.ref it)) Q E s
abbrev TI := St → Hp → (It → Hp → Prop) → Prop
/-- an iterator has come -/
def PIE (X : Cx) (pins : List (Addr × Obj)) (σ : St) (tg : Expr) (R : It → Hp → Prop) (itv : Value) (s2 : Shared) : Prop :=
  ∃ (it : Addr) (fp : List Addr) (tn : Nat → Heap → Prop) (J : It) (H' : Hp), itv = .ref it ∧ Inv X pins σ H' s2 ∧ Turn X.prog X.w X.K tg J fp it tn ∧ tn 0 s2.heap ∧ (∀ b ∈ fp, FpOk X pins H' b) ∧ R J H'
def PI (X : Cx) (tg iter : Expr) (wi : TI) : Prop :=
  ∀ (pins : List (Addr × Obj)) (s : Shared) (σ : St) (H : Hp) (R : It → Hp → Prop), Inv X pins σ H s → wi σ H R →
    wpAny (model X.prog X.w) X.A (eval iter X.env) (fun v s1 => wpAny (model X.prog X.w) X.A (pyIter v) (PIE X pins σ tg R) X.xe s1) X.xe s

/-- the step ahead of the store is nothing for an iterator that keeps no tuple -/
theorem go_of {M : Model} {A : Around} {E : Value → Shared → Prop} {s : Shared} {tg : Expr} {it : Addr} {u : Value} {o : Obj} {n : String} {vs : Array Value} {Q : Unit → Shared → Prop} (ho : s.heap.get? it = some o) (hc : o.cls = .type n) (hd : o.data = .fields vs)
    (hn : ["enumerate", "zip", "dict_itemiterator", "dict_reverseitemiterator", "odict_iterator", "itertools.zip_longest", "itertools.pairwise"].contains n = false) (hQ : Q () s) : wpAny M A (letOwnedTupleGo tg (.ref it) u) Q E s := by
  unfold letOwnedTupleGo
  cases tg <;> first
    | exact wpAny_pure hQ
    | (cases u <;> first
        | exact wpAny_pure hQ
        | (refine wpAny_bind (wpAny_load ho ?_)
           rw [hc, hd]
           show wpAny M A (if (["enumerate", "zip", "dict_itemiterator", "dict_reverseitemiterator", "odict_iterator", "itertools.zip_longest", "itertools.pairwise"].contains n && vs[0]? == some (rawInt _)) = true then _ else _) Q E s
           rw [if_neg (by intro h; rw [hn, Bool.false_and] at h; cases h)]
           exact wpAny_pure hQ))

def Itt (K : PySem.W.Frag) (a : Addr) : It :=
  ⟨fun i H => ∃ xs x, SqT K H a xs ∧ xs[i]? = some x, fun i H x H' => H' = H ∧ ∀ xs, SqT K H a xs → xs[i]? = some x, fun i H => ∃ xs, SqT K H a xs ∧ xs.length ≤ i⟩
/-- lo, lo + 1, .. (n of them) -/
def Itr (lo : Int) (n : Nat) : It := ⟨fun i _ => i < n, fun i H x H' => H' = H ∧ x = .int (lo + i), fun i _ => n ≤ i⟩
theorem turn_tuple {P : Program} {w : World} {K : PySem.W.Frag} {tg : Expr} (a it : Addr) : Turn P w K tg (Itt K a) [it] it (fun i h => h.IsTupleIter it a i) where
  mem := by simp
  obj := fun i h st b hb => by
    have e : b = it := by simpa using hb
    subst e
    obtain ⟨o, e, c, d⟩ := st
    exact ⟨o, e, fun v z => by rw [d] at z; cases z⟩
  keep := fun i h h' st k => st.at fun o e => k it (by simp) o e
  item := by
    intro X hP hw hK hc i pins s σ H E I hf st hg
    subst hP hw hK
    obtain ⟨xs, x, hq, hx⟩ := hg
    obtain ⟨its, rv, p, hz⟩ := I.tuple hq
    obtain ⟨u, hu, ru⟩ := rv.get hx
    obtain ⟨f0, f1, f2, f3, f4, f5⟩ := hf it (by simp)
    refine wpAny_pyNext_tuple_item st (show s.heap.IsTuple a its.toArray from p) (x := u) (by simpa using hu) fun h' st' sb => ?_
    have I1 : Inv X pins σ H { s with heap := h' } := I.turned (t' := s.toks) (fun b o hb e => (sb.2 b hb).trans e) f0 f1 f3 f4 f5
    obtain ⟨o, e, c, d⟩ := id st'
    exact ⟨u, rfl, go_of (s := { s with heap := h' }) e c d (by decide) ⟨x, H, I1, ru, ⟨rfl, fun ys hy => by rw [I.tuple_inj hy hq]; exact hx⟩, st', fun b hb => (hf b hb).1⟩⟩
  done := by
    intro X hP hw hK hc i pins s σ H E I hf st hg
    subst hP hw hK
    obtain ⟨xs, hq, hx⟩ := hg
    obtain ⟨its, rv, p, hz⟩ := I.tuple hq
    obtain ⟨f0, f1, f2, f3, f4, f5⟩ := hf it (by simp)
    have hl := rv.length
    exact wpAny_pyNext_tuple_end (I.ok.hd hc) st (show s.heap.IsTuple a its.toArray from p) (by simp; omega) fun h' eb => ⟨rfl, I.turned (t' := s.toks) (fun b o hb e => eb b o hb e) f0 f1 f3 f4 f5⟩
  self := fun _ _ _ _ _ st h => wpAny_pyIter_tupleiter st h
theorem turn_range {P : Program} {w : World} {K : PySem.W.Frag} {tg : Expr} (it : Addr) (lo : Int) (n : Nat) : Turn P w K tg (Itr lo n) [it] it (fun i h => IsRangeIter h it (lo + (i : Nat) * 1) ((n : Int) - (i : Nat)) 1) where
  mem := by simp
  obj := fun i h st b hb => by
    have e : b = it := by simpa using hb
    subst e
    exact ⟨_, st, fun v z => by
      have z' : Data.fields _ = Data.cell v := z
      cases z'⟩
  keep := fun i h h' st k => k it (by simp) _ st
  item := by
    intro X hP hw hK hc i pins s σ H E I hf st hg
    subst hP hw hK
    obtain ⟨f0, f1, f2, f3, f4, f5⟩ := hf it (by simp)
    have W := Walks.range (prog := X.prog) (w := X.w) (I.ok.hd hc) it lo 1 n
    refine W.item i s _ _ hg st fun v h' tk hv st' kk => ?_
    obtain ⟨t, rfl⟩ := hv
    have I1 : Inv X pins σ H { s with heap := h', toks := tk } := I.turned (fun b o hb e => kk b o (by simpa using hb) e) f0 f1 f3 f4 f5
    refine ⟨_, rfl, go_of (s := { s with heap := h', toks := tk }) (n := "range_iterator") st' rfl rfl (by decide) ⟨.int (lo + i), H, I1, ⟨t, ?_⟩, ⟨rfl, rfl⟩, st', fun b hb => (hf b hb).1⟩⟩
    rw [Int.mul_one]
  done := by
    intro X hP hw hK hc i pins s σ H E I hf st hg
    subst hP hw hK
    obtain ⟨f0, f1, f2, f3, f4, f5⟩ := hf it (by simp)
    exact wpAny_pyNext_range_end (I.ok.hd hc) st (by have : n ≤ i := hg; omega) fun h' eb => ⟨rfl, I.turned (t' := s.toks) (fun b o hb e => eb b o hb e) f0 f1 f3 f4 f5⟩
  self := fun _ _ _ _ _ st h => wpAny_pyIter_rangeiter st h
end L2

namespace L2
open PySem PySem.Spec PyProof.Rows
section
variable {X : Cx} {tg : Expr}
def iTup (K : PySem.W.Frag) (tl : TE) : TI := fun σ H R => tl σ H fun x H1 => ∃ a, x = .ref a ∧ (∃ xs, SqT K H1 a xs) ∧ R (Itt K a) H1
theorem pi_tup {l : Expr} {tl : TE} (hl : PE X l tl) : PI X tg l (iTup X.K tl) := by
  intro pins s σ H R I h
  refine thn (hl pins s σ H _ I h) fun v s1 ⟨x, H1, I1, r1, q1⟩ => ?_
  obtain ⟨a, e, ⟨xs, hq⟩, q⟩ := q1
  subst e
  cases r1
  obtain ⟨its, rv, p, hz⟩ := I1.tuple hq
  refine wpAny_pyIter_tuple (show s1.heap.IsTuple a its.toArray from p) ?_
  refine ⟨s1.heap.objs.size, [s1.heap.objs.size], _, _, H1, rfl, I1.kept (t' := s1.toks) fun b o e => Heap.get?_push_of_some _ e, turn_tuple a _, ⟨_, Heap.get?_push_size _ rfl, rfl, rfl⟩, fun b hb => ?_, q⟩
  have e : b = s1.heap.objs.size := by simpa using hb
  subst e
  exact I1.fpOk (Nat.le_refl _) (I1.hok.fresh (Nat.le_refl _))
/-- a range object just made, walked -/
theorem range_it {pins : List (Addr × Obj)} {σ : St} {H : Hp} {s : Shared} {R : It → Hp → Prop} {E : Value → Shared → Prop} {lo hi : Int} {t u v : Tok} {tk : Nat} (I : Inv X pins σ H s) (h1 : -(2 ^ 62) ≤ lo) (h2 : lo < 2 ^ 62) (h3 : -(2 ^ 62) ≤ hi) (h4 : hi < 2 ^ 62)
    (q : R (Itr lo (hi - lo).toNat) H) : wpAny (model X.prog X.w) X.A (pyIter (.ref s.heap.objs.size)) (PIE X pins σ tg R) E { s with heap := s.heap.push { cls := .type "range", data := .fields #[.int lo t, .int hi u, .int 1 v] }, toks := tk } := by
  refine wpAny_pyIter_range (IsRange.new ..) (small_one h1 h2 h3 h4) ?_
  have I1 : Inv X pins σ H { s with heap := s.heap.push { cls := .type "range", data := .fields #[.int lo t, .int hi u, .int 1 v] }, toks := tk } := I.kept fun b o e => Heap.get?_push_of_some _ e
  refine ⟨(s.heap.push { cls := .type "range", data := .fields #[.int lo t, .int hi u, .int 1 v] }).objs.size, [(s.heap.push { cls := .type "range", data := .fields #[.int lo t, .int hi u, .int 1 v] }).objs.size], _, _, H, rfl,
    I1.kept (t' := tk) fun b o e => Heap.get?_push_of_some _ e, turn_range _ lo (hi - lo).toNat, ?_, fun b hb => ?_, q⟩
  · have e1 : lo + ((0 : Nat) : Int) * 1 = lo := by simp
    have e2 : (((hi - lo).toNat : Nat) : Int) - ((0 : Nat) : Int) = Builtin.Range.rangeSize lo hi 1 := by rw [rangeSize_one]; split <;> omega
    show IsRangeIter _ _ (lo + ((0 : Nat) : Int) * 1) ((((hi - lo).toNat : Nat) : Int) - ((0 : Nat) : Int)) 1
    rw [e1, e2]
    exact Heap.get?_push_size _ rfl
  · have e : b = (s.heap.push { cls := .type "range", data := .fields #[.int lo t, .int hi u, .int 1 v] }).objs.size := by simpa using hb
    subst e
    exact I1.fpOk (Nat.le_refl _) (I1.hok.fresh (Nat.le_refl _))
def iRng1 (ta : TA) : TI := fun σ H R => ta σ H fun vs H1 => ∃ j : Int, vs = [.int j] ∧ -(2 ^ 62) ≤ j ∧ j < 2 ^ 62 ∧ R (Itr 0 j.toNat) H1
theorem pi_range1 {a : Expr} {ta : TA} {p pos : Pos} (hg : Gl X "range") (hm : X.mg "range" = none) (ha : PA X [a] ta) (hs : starEach [a] X.env = [(false, eval a X.env)] := by rfl) : PI X tg (.Call (.Name "range" p) [a] [] pos) (iRng1 ta) := by
  intro pins s σ H R I h
  refine Call_ (ld_blt I hg hm boot_range (PyProof.Rows.callWith_type1 (thn (ha pos pins s σ H _ I h) fun us s1 ⟨vs, H1, I1, r1, q1⟩ => ?_) hs rfl))
  obtain ⟨j, e, q1, q2, q⟩ := q1
  subst e
  cases r1 with
  | cons r rr =>
    cases rr
    obtain ⟨t, rfl⟩ := r
    exact call_range_1 (range_it I1 (by omega) (by omega) q1 q2 (by simpa using q))
/-! ### for -/
/-- W: the invariant by the turn and a measure; N: what the body is to reach -/
def tFor (wi : TI) (g : TG) (tb : TS) : TS := fun D σ H => wi σ H fun J H1 => ∃ W : Nat → Nat → St → Hp → Prop, (∃ m, W 0 m σ H1) ∧ ∀ i m σ H, W i m σ H →
  (J.stop i H ∧ D.nx σ H) ∨ (J.go i H ∧ ∃ N : St → Hp → Prop, (∀ σ' H', N σ' H' → ∃ m', m' < m ∧ W (i + 1) m' σ' H') ∧ ∀ x H', J.yld i H x H' → g x σ H' fun σ2 H2 => tb { D with nx := N, ct := N, bk := D.nx } σ2 H2)
/-- the records at fp as they stand -/
def pinsAt (fp : List Addr) (h : Heap) : List (Addr × Obj) := fp.filterMap fun b => (h.get? b).map fun o => (b, o)
theorem mem_pinsAt {fp : List Addr} {h : Heap} {b : Addr} {o : Obj} (hb : b ∈ fp) (e : h.get? b = some o) : (b, o) ∈ pinsAt fp h := List.mem_filterMap.mpr ⟨b, hb, by rw [e]; rfl⟩
theorem of_pinsAt {fp : List Addr} {h : Heap} {p : Addr × Obj} (hp : p ∈ pinsAt fp h) : p.1 ∈ fp ∧ h.get? p.1 = some p.2 := by
  obtain ⟨b, hb, e⟩ := List.mem_filterMap.mp hp
  cases q : h.get? b with
  | none => rw [q] at e; cases e
  | some o =>
    rw [q] at e
    have e' : (b, o) = p := Option.some.inj e
    subst e'
    exact ⟨hb, q⟩
theorem Inv.pinned {pins : List (Addr × Obj)} {σ : St} {H : Hp} {s : Shared} {fp : List Addr} (I : Inv X pins σ H s) (hf : ∀ b ∈ fp, FpOk X pins H b) (ho : ∀ b ∈ fp, ∃ o, s.heap.get? b = some o ∧ ∀ v, o.data ≠ .cell v) : Inv X (pins ++ pinsAt fp s.heap) σ H s :=
  I.pins_of fun p hp => (List.mem_append.mp hp).elim (fun z => I.pin p (List.mem_append_right _ z)) fun z => by
    obtain ⟨hb, e⟩ := of_pinsAt z
    obtain ⟨f0, f1, f2, _⟩ := hf p.1 hb
    obtain ⟨o, e', d⟩ := ho p.1 hb
    rw [e] at e'; cases e'
    exact ⟨e, f0, f1, f2, d⟩
theorem Inv.unpinned {pins pl : List (Addr × Obj)} {σ : St} {H : Hp} {s : Shared} (I : Inv X (pins ++ pl) σ H s) : Inv X pins σ H s := I.pins_of fun p hp => I.pin p (List.mem_append_right _ (List.mem_append_left _ hp))
theorem ps_for {iter : Expr} {body : List Stmt} {wi : TI} {g : TG} {tb : TS} {pos : Pos} (hp : PassesOwn (model X.prog X.w) X.A X.env X.xe) (hc : X.calm = true) (hi : PI X tg iter wi) (hg : PG X tg g) (hb : PSs X body tb)
    (hs : ∀ x, foldedSetIterable iter X.env x = pure x := by intro _; rfl) : PS X (.For tg iter body [] pos) (tFor wi g tb) := by
  intro pins s σ H D I h
  refine wpAny_For (thn (hi pins s σ H _ I h) fun v s1 h1 => thn h1 fun itv s2 h2 => ?_) hs
  obtain ⟨it, fp, tn, J, H2, e, I2, T, st2, f2, W, ⟨m0, w0⟩, turn⟩ := h2
  subst e
  -- what stays true of the iterator's objects through the loop
  have stat : ∀ {H' : Hp}, (∀ b ∈ fp, H' b = none) → ∀ b ∈ fp, FpOk X pins H' b := fun hn b hb => ⟨hn b hb, (f2 b hb).2⟩
  refine codeAny_forLoop_any (fun n s' => ∃ i σ' H', Inv X pins σ' H' s' ∧ tn i s'.heap ∧ (∀ b ∈ fp, H' b = none) ∧ W i n σ' H') ?_ m0 ⟨0, σ, H2, I2, st2, fun b hb => (f2 b hb).1, w0⟩
  rintro n s3 ⟨i, σ3, H3, I3, st3, fr3, w3⟩
  rcases turn i n σ3 H3 w3 with ⟨stop, qn⟩ | ⟨go, N, hN, step⟩
  · refine wpAny_passesOwn hp (thn (T.done X rfl rfl rfl hc i pins s3 σ3 H3 X.xe I3 (stat fr3) st3 stop) fun r s4 ⟨hr, I4⟩ => ?_)
    subst hr
    exact wpAny_execs_nil ⟨σ3, H3, I4, qn⟩
  · refine wpAny_passesOwn hp (thn (T.item X rfl rfl rfl hc i pins s3 σ3 H3 X.xe I3 (stat fr3) st3 go) fun r s4 ⟨u, hr, h4⟩ => ?_)
    subst hr
    refine wpAny_passesOwn hp (thn h4 fun _ s5 ⟨x, H5, I5, r5, y5, st5, fr5⟩ => ?_)
    have I5' := I5.pinned (stat fr5) (T.obj _ _ st5)
    refine wpAny_passesOwn hp (thn (hg _ s5 σ3 H5 x u _ I5' r5 (step x H5 y5)) fun _ s6 ⟨σ6, H6, I6, q6⟩ => ?_)
    refine wpAny_passesOwn hp (thn (hb _ s6 σ6 H6 _ I6 q6) fun f s7 q7 => ?_)
    have again : ∀ {σ7 : St} {H7 : Hp}, Inv X (pins ++ pinsAt fp s5.heap) σ7 H7 s7 → N σ7 H7 → ∃ m, m < n ∧ ∃ i σ' H', Inv X pins σ' H' s7 ∧ tn i s7.heap ∧ (∀ b ∈ fp, H' b = none) ∧ W i m σ' H' := fun {σ7 H7} I7 n7 => by
      obtain ⟨m', hm, w7⟩ := hN σ7 H7 n7
      refine ⟨m', hm, i + 1, σ7, H7, I7.unpinned, T.keep _ _ _ st5 fun b hb o e => (I7.pin (b, o) (List.mem_append_right _ (List.mem_append_right _ (mem_pinsAt hb e)))).1, fun b hb => ?_, w7⟩
      obtain ⟨o, e, d⟩ := T.obj _ _ st5 b hb
      exact (I7.pin (b, o) (List.mem_append_right _ (List.mem_append_right _ (mem_pinsAt hb e)))).2.1
    cases f with
    | next => obtain ⟨σ7, H7, I7, n7⟩ := q7; exact again I7 n7
    | cont => obtain ⟨σ7, H7, I7, n7⟩ := q7; exact again I7 n7
    | brk => obtain ⟨σ7, H7, I7, q7⟩ := q7; exact ⟨σ7, H7, I7.unpinned, q7⟩
    | ret v => obtain ⟨x7, σ7, H7, I7, r7, q7⟩ := q7; exact ⟨x7, σ7, H7, I7.unpinned, r7, q7⟩
end

/-! ### the forms one uses -/
theorem for_range {lo : Int} {n : Nat} {g : TG} {tb : TS} {D : Ends} {σ : St} {H : Hp} (Pv : Nat → St → Hp → Prop) (h0 : Pv 0 σ H)
    (hs : ∀ i σ H, i < n → Pv i σ H → g (.int (lo + i)) σ H fun σ2 H2 => tb { D with nx := Pv (i + 1), ct := Pv (i + 1), bk := D.nx } σ2 H2) (hd : ∀ σ H, Pv n σ H → D.nx σ H) :
    ∃ W : Nat → Nat → St → Hp → Prop, (∃ m, W 0 m σ H) ∧ ∀ i m σ H, W i m σ H →
      ((Itr lo n).stop i H ∧ D.nx σ H) ∨ ((Itr lo n).go i H ∧ ∃ N : St → Hp → Prop, (∀ σ' H', N σ' H' → ∃ m', m' < m ∧ W (i + 1) m' σ' H') ∧ ∀ x H', (Itr lo n).yld i H x H' → g x σ H' fun σ2 H2 => tb { D with nx := N, ct := N, bk := D.nx } σ2 H2) := by
  refine ⟨fun i m σ H => m = n - i ∧ i ≤ n ∧ Pv i σ H, ⟨n, by simp, Nat.zero_le _, h0⟩, ?_⟩
  rintro i m σ H ⟨rfl, hi, p⟩
  by_cases hlt : i < n
  · refine .inr ⟨hlt, Pv (i + 1), fun σ' H' p' => ⟨n - (i + 1), by omega, rfl, hlt, p'⟩, fun x H' y => ?_⟩
    obtain ⟨e, y⟩ := y
    subst e y
    exact hs i σ _ hlt p
  · have e : i = n := by omega
    subst e
    exact .inl ⟨Nat.le_refl _, hd σ H p⟩
/-- while, by a word and a measure of the state -/
theorem while_by {c : TT} {tb : TS} {D : Ends} {σ : St} {H : Hp} (Pv : St → Hp → Prop) (μ : St → Hp → Nat) (h0 : Pv σ H)
    (hs : ∀ σ H, Pv σ H → c σ H fun b H1 => if b = true then tb { D with nx := fun σ' H' => Pv σ' H' ∧ μ σ' H' < μ σ H, ct := fun σ' H' => Pv σ' H' ∧ μ σ' H' < μ σ H, bk := D.nx } σ H1 else D.nx σ H1)
    (mono : ∀ σ H Q Q', (∀ b H1, Q b H1 → Q' b H1) → c σ H Q → c σ H Q') : tWhile c tb D σ H := by
  refine ⟨fun m σ H => m = μ σ H ∧ Pv σ H, ⟨_, rfl, h0⟩, ?_⟩
  rintro m σ H ⟨rfl, p⟩
  refine mono σ H _ _ (fun b H1 q => ?_) (hs σ H p)
  cases b with
  | true => exact ⟨_, fun σ' H' ⟨p', l⟩ => ⟨_, l, rfl, p'⟩, q⟩
  | false => exact q
end L2

namespace L2
open PySem PySem.Spec PyProof.Rows

abbrev R2 := V → V → Hp → VK → Prop
/-- a two-place operation on values: f is binaryOp op, inplaceOp op or compareOp op -/
def OpR (X : Cx) (f : Value → Value → Sem Value) (r : R2) : Prop :=
  ∀ (pins : List (Addr × Obj)) (s : Shared) (σ : St) (H : Hp) (x y : V) (v u : Value) (Q : VK), Inv X pins σ H s → RelV x v → RelV y u → r x y H Q →
    wpAny (model X.prog X.w) X.A (f v u) (EP X pins σ Q) X.xe s
/-- a one-place operation -/
def UnR (X : Cx) (f : Value → Sem Value) (r : V → Hp → VK → Prop) : Prop :=
  ∀ (pins : List (Addr × Obj)) (s : Shared) (σ : St) (H : Hp) (x : V) (v : Value) (Q : VK), Inv X pins σ H s → RelV x v → r x H Q →
    wpAny (model X.prog X.w) X.A (f v) (EP X pins σ Q) X.xe s
/-- a call of a value that is known (a builtin, a type) with values -/
def CallR (X : Cx) (f : Value) (r : List V → Hp → VK → Prop) : Prop :=
  ∀ (pins : List (Addr × Obj)) (s : Shared) (σ : St) (H : Hp) (xs : List V) (us : List Value) (Q : VK), Inv X pins σ H s → Vals xs us → r xs H Q →
    wpAny (model X.prog X.w) X.A (call f us) (EP X pins σ Q) X.xe s
def tOp (r : R2) (ta tb : TE) : TE := fun σ H Q => ta σ H fun x H1 => tb σ H1 fun y H2 => r x y H2 Q
def tUn (r : V → Hp → VK → Prop) (ta : TE) : TE := fun σ H Q => ta σ H fun x H1 => r x H1 Q
/-- ints in, under C, and a value out -/
def rI (C : Int → Int → Prop) (g : Int → Int → V) : R2 := fun x y H Q => ∃ i j, x = .int i ∧ y = .int j ∧ C i j ∧ Q (g i j) H
def rI0 (g : Int → Int → V) : R2 := fun x y H Q => ∃ i j, x = .int i ∧ y = .int j ∧ Q (g i j) H
def rU (g : Int → V) : V → Hp → VK → Prop := fun x H Q => ∃ i, x = .int i ∧ Q (g i) H

section
variable {X : Cx} {a b c : Expr} {ta tb tc : TE} {pos : Pos}

theorem binT (ha : PE X a ta) (hb : PE X b tb) {pins : List (Addr × Obj)} {s : Shared} {σ : St} {H : Hp} {R : V → V → Hp → Prop} (I : Inv X pins σ H s)
    (h : ta σ H fun x H1 => tb σ H1 fun y H2 => R x y H2) {Q : Value → Shared → Prop} {f : Value → Value → Sem Value}
    (hf : ∀ v u s2 x y H2, Inv X pins σ H2 s2 → RelV x v → RelV y u → R x y H2 → wpAny (model X.prog X.w) X.A (f v u) Q X.xe s2) :
    wpAny (model X.prog X.w) X.A (eval a X.env) (fun v s₁ => wpAny (model X.prog X.w) X.A (eval b X.env) (fun u s₂ => wpAny (model X.prog X.w) X.A (f v u) Q X.xe s₂) X.xe s₁) X.xe s := by
  refine thn (ha pins s σ H _ I h) fun v s1 ⟨x, H1, I1, r1, q1⟩ => ?_
  refine thn (hb pins s1 σ H1 _ I1 q1) fun u s2 ⟨y, H2, I2, r2, q2⟩ => ?_
  exact hf v u s2 x y H2 I2 r1 r2 q2

theorem pe_op {op : Operator} {r : R2} (ho : OpR X (binaryOp op) r) (ha : PE X a ta) (hb : PE X b tb) : PE X (.BinOp a op b pos) (tOp r ta tb) := by
  intro pins s σ H Q I h
  exact wpAny_BinOp (binT ha hb I h fun v u s2 x y H2 I2 rx ry q => ho pins s2 σ H2 x y v u Q I2 rx ry q)
theorem pe_un {op : UnaryOp} {r : V → Hp → VK → Prop} (ho : UnR X (unaryOp op) r) (ha : PE X a ta) : PE X (.UnaryOp op a pos) (tUn r ta) := by
  intro pins s σ H Q I h
  exact UnaryOp_ (thn (ha pins s σ H _ I h) fun v s1 ⟨x, H1, I1, r1, q1⟩ => ho pins s1 σ H1 x v Q I1 r1 q1)
/-! ### ints -/
theorem opI {f : Value → Value → Sem Value} {C : Int → Int → Prop} {g : Int → Int → Int}
    (rule : ∀ (i j : Int) (t u : Tok) (s : Shared) (Q : Value → Shared → Prop) (E : Value → Shared → Prop), C i j → Q (.int (g i j) s.toks) { s with toks := s.toks + 1 } → wpAny (model X.prog X.w) X.A (f (.int i t) (.int j u)) Q E s) :
    OpR X f (rI C fun i j => .int (g i j)) := by
  intro pins s σ H x y v u Q I rx ry h
  obtain ⟨i, j, rfl, rfl, hc, q⟩ := h
  obtain ⟨t, rfl⟩ := rx
  obtain ⟨t', rfl⟩ := ry
  exact rule i j t t' s _ _ hc ⟨.int (g i j), H, I.tok _, ⟨_, rfl⟩, q⟩
theorem opI0 {f : Value → Value → Sem Value} {g : Int → Int → Int}
    (rule : ∀ (i j : Int) (t u : Tok) (s : Shared) (Q : Value → Shared → Prop) (E : Value → Shared → Prop), Q (.int (g i j) s.toks) { s with toks := s.toks + 1 } → wpAny (model X.prog X.w) X.A (f (.int i t) (.int j u)) Q E s) :
    OpR X f (rI0 fun i j => .int (g i j)) := by
  intro pins s σ H x y v u Q I rx ry h
  obtain ⟨i, j, rfl, rfl, q⟩ := h
  obtain ⟨t, rfl⟩ := rx
  obtain ⟨t', rfl⟩ := ry
  exact rule i j t t' s _ _ ⟨.int (g i j), H, I.tok _, ⟨_, rfl⟩, q⟩
theorem opB0 {f : Value → Value → Sem Value} {g : Int → Int → Bool}
    (rule : ∀ (i j : Int) (t u : Tok) (s : Shared) (Q : Value → Shared → Prop) (E : Value → Shared → Prop), Q (.bool (g i j)) s → wpAny (model X.prog X.w) X.A (f (.int i t) (.int j u)) Q E s) :
    OpR X f (rI0 fun i j => .bl (g i j)) := by
  intro pins s σ H x y v u Q I rx ry h
  obtain ⟨i, j, rfl, rfl, q⟩ := h
  obtain ⟨t, rfl⟩ := rx
  obtain ⟨t', rfl⟩ := ry
  exact rule i j t t' s _ _ ⟨.bl (g i j), H, I, rfl, q⟩

def CPow (i j : Int) : Prop := 0 ≤ j ∧ j ≤ 1000000 ∧ i.natAbs < 2 ^ 64
def CMul (i j : Int) : Prop := (-(2 ^ 64) < i ∧ i < 2 ^ 64) ∨ (-(2 ^ 64) < j ∧ j < 2 ^ 64)
theorem CMul.ok {i j : Int} (h : CMul i j) : IntMulOk i j := by
  rcases h with ⟨h1, h2⟩ | ⟨h1, h2⟩
  · exact .of_left (intBits_le_64 h1 h2)
  · exact .of_right (intBits_le_64 h1 h2)
theorem op_add : OpR X (binaryOp .Add) (rI0 fun i j => .int (i + j)) := opI0 fun _ _ _ _ _ _ _ q => add_int q
theorem op_sub : OpR X (binaryOp .Sub) (rI0 fun i j => .int (i - j)) := opI0 fun _ _ _ _ _ _ _ q => sub_int q
/-- % by a positive divisor of any size -/
theorem op_mod : OpR X (binaryOp .Mod) (rI (fun _ j => 0 < j) fun i j => .int (i % j)) := opI fun i j _ _ _ _ _ hc q => by
  have h1 : (0 : Int) < j := hc
  exact mod_int' (by omega) (by rw [Int.fmod_eq_emod_of_nonneg i (by omega)]; exact q)
theorem op_modN : OpR X (binaryOp .Mod) (rI (fun _ j => j ≠ 0) fun i j => .int (i.fmod j)) := opI fun _ _ _ _ _ _ _ hc q => mod_int' hc q
theorem op_pow : OpR X (binaryOp .Pow) (rI CPow fun i j => .int (i ^ j.toNat)) := opI fun _ _ _ _ _ _ _ hc q => pow_int_small hc.1 hc.2.1 hc.2.2 q
theorem op_shl : OpR X (binaryOp .LShift) (rI CPow fun i j => .int (i * 2 ^ j.toNat)) := opI fun _ _ _ _ _ _ _ hc q => lshift_int_small hc.1 hc.2.1 hc.2.2 q
theorem unI {f : Value → Sem Value} {g : Int → Int}
    (rule : ∀ (i : Int) (t : Tok) (s : Shared) (Q : Value → Shared → Prop) (E : Value → Shared → Prop), Q (.int (g i) s.toks) { s with toks := s.toks + 1 } → wpAny (model X.prog X.w) X.A (f (.int i t)) Q E s) :
    UnR X f (rU fun i => .int (g i)) := by
  intro pins s σ H x v Q I rx h
  obtain ⟨i, rfl, q⟩ := h
  obtain ⟨t, rfl⟩ := rx
  exact rule i t s _ _ ⟨.int (g i), H, I.tok _, ⟨_, rfl⟩, q⟩
theorem un_neg : UnR X (unaryOp .USub) (rU fun i => .int (-i)) := unI fun _ _ _ _ _ q => neg_int q
/-! ### bools among ints: n += (a < b) -/
end

/-! ### comparisons -/
/-- the scalars that == tells apart as data does -/
def scal : V → V → Bool
  | .non, .non => true | .non, .int _ => true | .int _, .non => true | .non, .bl _ => true | .bl _, .non => true | .non, .str _ => true | .str _, .non => true
  | .int _, .int _ => true | .bl _, .bl _ => true | .str _, .str _ => true | .byt _, .byt _ => true
  | .int _, .str _ => true | .str _, .int _ => true | .bl _, .str _ => true | .str _, .bl _ => true
  | _, _ => false
def rEq : R2 := fun x y H Q => scal x y = true ∧ Q (.bl (decide (x = y))) H
theorem dec_int {i j : Int} : decide (V.int i = V.int j) = (i == j) := by
  rw [Bool.eq_iff_iff]
  simp
theorem dec_bl {i j : Bool} : decide (V.bl i = V.bl j) = (i == j) := by
  rw [Bool.eq_iff_iff]
  simp
theorem dec_str {i j : Str} : decide (V.str i = V.str j) = (i == j) := by
  rw [Bool.eq_iff_iff]
  simp
theorem dec_byt {i j : Array UInt8} : decide (V.byt i = V.byt j) = (i.toList == j.toList) := by
  rw [Bool.eq_iff_iff]
  cases i
  cases j
  simp

section
variable {X : Cx} {a b c : Expr} {ta tb tc : TE} {pos : Pos}
theorem fin_bl {pins : List (Addr × Obj)} {σ : St} {H : Hp} {s : Shared} {Q : VK} {k k' : Bool} (I : Inv X pins σ H s) (q : Q (.bl k) H) (e : k = k') : EP X pins σ Q (.bool k') s := by
  subst e
  exact ⟨.bl k, H, I, rfl, q⟩
theorem op_eq : OpR X (compareOp .Eq) rEq := by
  intro pins s σ H x y v u Q I rx ry h
  obtain ⟨hs, q⟩ := h
  cases x with
  | non =>
    cases rx
    cases y with
    | non => cases ry; exact PySem.EqNone.eq_none_none (fin_bl I q (by simp))
    | bl j => cases ry; exact PySem.EqNone.eq_none_bool (fin_bl I q (by simp))
    | int j => obtain ⟨t', rfl⟩ := ry; exact PySem.EqNone.eq_none_int (fin_bl I q (by simp))
    | str j => obtain ⟨t', rfl⟩ := ry; exact PySem.EqNone.eq_none_str (fin_bl I q (by simp))
    | _ => exact absurd (show false = true from hs) Bool.false_ne_true
  | bl i =>
    cases rx
    cases y with
    | non => cases ry; exact PySem.EqNone.eq_bool_none (fin_bl I q (by simp))
    | bl j => cases ry; exact eq_bool (fin_bl I q dec_bl)
    | str j => obtain ⟨t', rfl⟩ := ry; exact PySem.EqMixed.eq_bool_str (fin_bl I q (by simp))
    | _ => exact absurd (show false = true from hs) Bool.false_ne_true
  | int i =>
    obtain ⟨t, rfl⟩ := rx
    cases y with
    | non => cases ry; exact PySem.EqNone.eq_int_none (fin_bl I q (by simp))
    | int j => obtain ⟨t', rfl⟩ := ry; exact eq_int (fin_bl I q dec_int)
    | str j => obtain ⟨t', rfl⟩ := ry; exact PySem.EqMixed.eq_int_str (fin_bl I q (by simp))
    | _ => exact absurd (show false = true from hs) Bool.false_ne_true
  | str i =>
    obtain ⟨t, rfl⟩ := rx
    cases y with
    | non => cases ry; exact PySem.EqNone.eq_str_none (fin_bl I q (by simp))
    | bl j => cases ry; exact PySem.EqMixed.eq_str_bool (fin_bl I q (by simp))
    | int j => obtain ⟨t', rfl⟩ := ry; exact PySem.EqMixed.eq_str_int (fin_bl I q (by simp))
    | str j => obtain ⟨t', rfl⟩ := ry; exact eq_str (fin_bl I q dec_str)
    | _ => exact absurd (show false = true from hs) Bool.false_ne_true
  | byt i =>
    obtain ⟨t, rfl⟩ := rx
    cases y with
    | byt j => obtain ⟨t', rfl⟩ := ry; exact PySem.W.eq_bytes (fin_bl I q dec_byt)
    | _ => exact absurd (show false = true from hs) Bool.false_ne_true
  | _ => cases y <;> exact absurd (show false = true from hs) Bool.false_ne_true
theorem op_lt : OpR X (compareOp .Lt) (rI0 fun i j => .bl (decide (i < j))) := opB0 fun _ _ _ _ _ _ _ q => lt_int q
theorem op_gt : OpR X (compareOp .Gt) (rI0 fun i j => .bl (decide (j < i))) := opB0 fun _ _ _ _ _ _ _ q => gt_int q
/-- two rules for one operation: by cases -/
theorem OpR.or {f : Value → Value → Sem Value} {r r' : R2} (h : OpR X f r) (h' : OpR X f r') : OpR X f (fun x y H Q => r x y H Q ∨ r' x y H Q) := by
  intro pins s σ H x y v u Q I rx ry q
  rcases q with q | q
  · exact h pins s σ H x y v u Q I rx ry q
  · exact h' pins s σ H x y v u Q I rx ry q

theorem nomark (b : Expr) {op : CmpOp} (h : op ≠ .In := by decide) (h2 : op ≠ .NotIn := by decide) : behindInMarks op b = false := by
  have e1 : (op == CmpOp.In) = false := by cases op <;> first | rfl | exact absurd rfl h
  have e2 : (op == CmpOp.NotIn) = false := by cases op <;> first | rfl | exact absurd rfl h2
  cases b <;> simp [behindInMarks, e1, e2]
/-- a comparison as a value; hm: nomark b, or (for in, not in) by with_unfolding_all rfl -/
theorem pe_cmpR {op : CmpOp} {r : R2} (ho : OpR X (compareOp op) r) (ha : PE X a ta) (hb : PE X b tb) (hm : behindInMarks op b = false) : PE X (.Compare a [op] [b] pos) (tOp r ta tb) := by
  intro pins s σ H Q I h
  exact wpAny_Compare1 (binT ha hb I h fun v u s2 x y H2 I2 rx ry q => ho pins s2 σ H2 x y v u Q I2 rx ry q) hm
/-- a reading of a value as a test -/
def tTest (t : TE) : TT := fun σ H Q => t σ H fun x H' => ∃ k, x = .bl k ∧ Q k H'
theorem pt_cmpR {op : CmpOp} {r : R2} (ho : OpR X (compareOp op) r) (ha : PE X a ta) (hb : PE X b tb) (hm : behindInMarks op b = false) : PT X (.Compare a [op] [b] pos) (tTest (tOp r ta tb)) := by
  intro pins s σ H Q I h
  refine wpAny_isTrue_Compare1 (thn (ha pins s σ H _ I h) fun v s1 ⟨x, H1, I1, r1, q1⟩ => thn (hb pins s1 σ H1 _ I1 q1) fun u s2 ⟨y, H2, I2, r2, q2⟩ =>
    thn (ho pins s2 σ H2 x y v u _ I2 r1 r2 q2) fun c s3 ⟨z, H3, I3, r3, k, e, q3⟩ => ?_) hm
  subst e
  cases r3
  exact wpAny_truthy_bool ⟨H3, I3, q3⟩
/-! ### truth -/
theorem line63 : (sizeLine : Nat) < 2 ^ 63 := by rw [sizeLine_eq]; decide
/-! ### strs and bytes -/
theorem op_add_str : OpR X (binaryOp .Add) (fun x y H Q => ∃ i j, x = .str i ∧ y = .str j ∧ i.length + j.length ≤ sizeLine ∧ Q (.str (i ++ j)) H) := by
  intro pins s σ H x y v u Q I rx ry h
  obtain ⟨i, j, rfl, rfl, hz, q⟩ := h
  obtain ⟨t, rfl⟩ := rx
  obtain ⟨t', rfl⟩ := ry
  exact add_str (fun t' tk => ⟨.str (i ++ j), H, I.tok _, ⟨_, rfl⟩, q⟩) hz
/-! ### scalar builtins, by CallR -/
theorem vals1 {x : V} {us : List Value} (r : Vals [x] us) : ∃ u, us = [u] ∧ RelV x u := by
  cases r with
  | cons r1 r2 => cases r2; exact ⟨_, rfl, r1⟩
theorem vals2 {x y : V} {us : List Value} (r : Vals [x, y] us) : ∃ u w', us = [u, w'] ∧ RelV x u ∧ RelV y w' := by
  cases r with
  | cons r1 r2 =>
    cases r2 with
    | cons r3 r4 => cases r4; exact ⟨_, _, rfl, r1, r3⟩
theorem call_abs : CallR X (.builtin "abs") (fun xs H Q => ∃ i, xs = [.int i] ∧ Q (.int (if i < 0 then -i else i)) H) := by
  intro pins s σ H xs us Q I r h
  obtain ⟨i, rfl, q⟩ := h
  obtain ⟨u, rfl, t, rfl⟩ := vals1 r
  exact call_abs_int fun u tk => ⟨.int (if i < 0 then -i else i), H, I.tok _, ⟨_, rfl⟩, q⟩
theorem call_max2 (hc : X.calm = true) : CallR X (.builtin "max") (fun xs H Q => ∃ i j, xs = [.int i, .int j] ∧ Q (.int (if j > i then j else i)) H) := by
  intro pins s σ H xs us Q I r h
  obtain ⟨i, j, rfl, q⟩ := h
  obtain ⟨u, w', rfl, ⟨t, rfl⟩, ⟨t', rfl⟩⟩ := vals2 r
  refine max_two_ints (I.ok.hd hc) fun h' tk k => ⟨_, H, I.kept k, ?_, q⟩
  by_cases hj : j > i
  · rw [if_pos hj, if_pos hj]; exact ⟨_, rfl⟩
  · rw [if_neg hj, if_neg hj]; exact ⟨_, rfl⟩
theorem call_min2 (hc : X.calm = true) : CallR X (.builtin "min") (fun xs H Q => ∃ i j, xs = [.int i, .int j] ∧ Q (.int (if j < i then j else i)) H) := by
  intro pins s σ H xs us Q I r h
  obtain ⟨i, j, rfl, q⟩ := h
  obtain ⟨u, w', rfl, ⟨t, rfl⟩, ⟨t', rfl⟩⟩ := vals2 r
  refine min_two_ints (I.ok.hd hc) fun h' tk k => ⟨_, H, I.kept k, ?_, q⟩
  by_cases hj : j < i
  · rw [if_pos hj, if_pos hj]; exact ⟨_, rfl⟩
  · rw [if_neg hj, if_neg hj]; exact ⟨_, rfl⟩
end
end L2

namespace L2
open PySem PySem.Spec PyProof.Rows

/-! ### an instance, its attributes a map -/
section
variable {prog : Program} {w : World} {A : Around} {E : Value → Shared → Prop} {s : Shared} {K : PySem.W.Frag} {x dx C f : Addr} {mA : Str → Option Value} {name : Str} {v : Value}

end

/-! ### the attributes as a list of pairs -/
section
variable {P : Program} {w : World} {H H' : Hp} {h h' : Heap} {a C dx : Addr} {fs fs' : List (Str × V)}
end

/-! ### what of the text a class must have -/
structure Cls (K : PySem.W.Frag) (C : Addr) : Prop where
  pg : PySem.W.plainGet K C Str.empty = true
  hd : PySem.W.hasDictIn K C = true
  po : PySem.W.plainOver K C = true
  sa : PySem.W.findIn K (.ref C) "__setattr__" = some (some (.builtin "object.__setattr__"))
theorem Cls.get {K : PySem.W.Frag} {C : Addr} (c : Cls K C) (f : Str) : PySem.W.plainGet K C f = true := c.pg
/-- a method: a plain def of the class or of one above it -/
structure Meth (K : PySem.W.Frag) (C : Addr) (m : Str) (f : Addr) : Prop where
  at_ : PySem.W.findIn K (.ref C) m = some (some (.ref f))
  fn : PySem.W.isFn K (.ref f) = true
  kp : PySem.W.keepIn K (.ref f) = true

section
variable {X : Cx} {pins : List (Addr × Obj)} {σ : St} {H : Hp} {s : Shared} {a C dx : Addr} {fs : List (Str × V)} {f : Str} {v : V} {A : Around} {E : Value → Shared → Prop}

/-- a new instance, tracked, without attributes -/
theorem Inv.made (I : Inv X pins σ H s) : Inv X pins σ (upd (upd H s.heap.objs.size (.own (s.heap.objs.size + 1))) (s.heap.objs.size + 1) (.ins C s.heap.objs.size []))
    { s with heap := (s.heap.push PySem.W.emptyDict).push (PySem.W.instObj C s.heap.objs.size) } := by
  have e1 : (s.heap.push PySem.W.emptyDict).get? s.heap.objs.size = some PySem.W.emptyDict := Heap.get?_push_size s.heap rfl
  have e2 : ((s.heap.push PySem.W.emptyDict).push (PySem.W.instObj C s.heap.objs.size)).get? (s.heap.objs.size + 1) = some (PySem.W.instObj C s.heap.objs.size) := by
    have := Heap.get?_push_size (s.heap.push PySem.W.emptyDict) (o := PySem.W.instObj C s.heap.objs.size) rfl
    rwa [Heap.size_push] at this
  have e3 : (s.heap.push PySem.W.emptyDict).Ns s.heap.objs.size (fun _ => none) := ⟨PySem.W.emptyDict, #[], _, e1, rfl, (fun e he => absurd he (by simp)), fun _ => rfl⟩
  have I1 := I.laid (a := s.heap.objs.size) (o := .own (s.heap.objs.size + 1)) (h' := s.heap.push PySem.W.emptyDict) (t' := s.toks) (fun b u q => Heap.get?_push_of_some _ q) (Nat.le_refl _) ⟨_, e1⟩
  refine I1.laid (a := s.heap.objs.size + 1) (o := .ins C s.heap.objs.size []) (t' := s.toks) (fun b u q => Heap.get?_push_of_some _ q) (Nat.le_of_eq (Heap.size_push _ _)) ?_
  have ne : s.heap.objs.size ≠ s.heap.objs.size + 1 := Nat.ne_of_lt (Nat.lt_succ_self _)
  refine ⟨by rw [upd_ne ne, upd_same], Nat.zero_le _, ne, e2, fun _ => none, (Heap.Ns1.of_empty e3).at fun o q => Heap.get?_push_of_some _ q, fun _ => True.intro, fun y hy => absurd rfl hy⟩

end

/-! ### readings and rules -/
section
variable {X : Cx} {o e value : Expr} {f : Str} {pos pos' tpos : Pos} {ta tv : TE}
end

/-! ### isinstance -/
section
variable {X : Cx} {pins : List (Addr × Obj)} {σ : St} {H : Hp} {s : Shared} {A : Around} {E : Value → Shared → Prop} {Q : Value → Shared → Prop} {c : Value} {b : Bool}
end
end L2

namespace L2
open PySem PySem.Spec PyProof.Rows

/-! ### room -/
structure Room (k : Nat) (A : Around) : Prop where
  hd : A.handled = none
  dp : A.depth + 3 * k + 5 < recursionLimit
  un : A.units + 16 * k + 200 < cLine
theorem Room.mono {j k : Nat} {A : Around} (r : Room k A) (h : j ≤ k) : Room j A := ⟨r.hd, by have := r.dp; omega, by have := r.un; omega⟩
theorem Room.deeper {k : Nat} {A : Around} (r : Room (k + 1) A) (env : Env) : Room k (A.deeper env) :=
  ⟨r.hd, by have := r.dp; show A.depth + 1 + 3 * k + 5 < _; omega, by have := r.un; show A.units + 3 + 16 * k + 200 < _; omega⟩
theorem Room.in1 {k : Nat} {A : Around} (r : Room (k + 1) A) : Room k A.in1 :=
  ⟨r.hd, by have := r.dp; show A.depth + 3 * k + 5 < _; omega, by have := r.un; show A.units + 1 + 16 * k + 200 < _; omega⟩
theorem Room.depth {k : Nat} {A : Around} (r : Room k A) : A.depth < recursionLimit := by have := r.dp; omega
theorem Room.units {k : Nat} {A : Around} (r : Room k A) : A.units + 64 < cLine := by have := r.un; omega
/-! ### argument lists and displays -/
def tNil : TA := fun _ H Q => Q [] H
def tCons (ta : TE) (tr : TA) : TA := fun σ H Q => ta σ H fun x H1 => tr σ H1 fun xs H2 => Q (x :: xs) H2
section
variable {X : Cx} {e : Expr} {es : List Expr} {te : TE} {t : TA} {pos : Pos}
theorem pa_nil : PA X [] tNil := fun _ _ _ _ H Q I h => Calls.spliced_nil ⟨[], H, I, .nil, h⟩
theorem pa_cons (ha : PE X e te) (hr : PA X es t) (hs : starEach (e :: es) X.env = (false, eval e X.env) :: starEach es X.env := by rfl) : PA X (e :: es) (tCons te t) := by
  intro pos pins s σ H Q I h
  rw [hs]
  show wpAny _ _ (spliced ((false, eval e X.env) :: backTo pos (starEach es X.env))) _ _ s
  refine Calls.spliced_cons (thn (ha pins s σ H _ I h) fun u s1 ⟨x, H1, I1, r1, q1⟩ => ?_)
  exact thn (hr pos pins s1 σ H1 _ I1 q1) fun us s2 ⟨xs, H2, I2, r2, q2⟩ => ⟨x :: xs, H2, I2, .cons r1 r2, q2⟩

end

/-! ### what a def promises -/
/-- a def's promise: the bound arguments in the parameters' order, the heap, the wanted end, the wanted exception -/
abbrev Sp := List V → Hp → VK → XK → Prop
/-- how an exception lies behind a call (file 08 gives it): the callers' frames, abstract heap and state ahead of the call, the wish, the exception, the state -/
abbrev CXT := List Env → Hp → Shared → XK → Value → Shared → Prop

/-- the state at a call -/
structure Env0 (P : Program) (w : World) (K : PySem.W.Frag) (mg : Str → Option Value) (base : Heap) (A : Around) (outer : List Env) (s : Shared) (H : Hp) : Prop where
  frames : A.frames = some outer
  mod : Mod K mg base
  bs : ∀ b o, base.get? b = some o → s.heap.get? b = some o ∧ H b = none
  bsz : base.objs.size ≤ s.heap.objs.size
  funs : s.heap.FunFrames base outer
  frf : ∀ b ∈ frs outer, H b = none
  hok : HOk P w H s.heap
  bare : AllBare s.gens
/-- a call's end -/
def CE (outer : List Env) (P : Program) (w : World) (H : Hp) (s : Shared) (Q : VK) (u : Value) (s' : Shared) : Prop :=
  ∃ v H', s'.os = s.os ∧ AllBare s'.gens ∧ Un (frs outer) [] H H' s.heap s'.heap ∧ HOk P w H' s'.heap ∧ RelV v u ∧ Q v H'
def CR (CX : CXT) (outer : List Env) (P : Program) (w : World) (H : Hp) (s : Shared) (Q : VK) (E : XK) (r : Result) (s' : Shared) : Prop :=
  match r with
  | .ok (.ret u) => CE outer P w H s Q u s'
  | .ok _ => False
  | .error e => CX outer H s E e s'
structure FnOk (P : Program) (w : World) (K : PySem.W.Frag) (mg : Str → Option Value) (base : Heap) (CX : CXT) (k : Nat) (f : Addr) (fd : FuncData) (ps : List Str) (sp : Sp) : Prop where
  len : ∀ vs H Q E, sp vs H Q E → vs.length = ps.length
  run : ∀ (A : Around) (outer : List Env) (s : Shared) (H : Hp) (args : Args) (us : List Value) (vs : List V) (Q : VK) (E : XK), Room k A → Env0 P w K mg base A outer s H → BindsTo s fd args (ps.zip us) → Vals vs us → sp vs H Q E →
    codeAny (model P w) A (.call (.ref f) args) (CR CX outer P w H s Q E) s
theorem FnOk.mono {P : Program} {w : World} {K : PySem.W.Frag} {mg : Str → Option Value} {base : Heap} {CX : CXT} {j k : Nat} {f : Addr} {fd : FuncData} {ps : List Str} {sp : Sp} (F : FnOk P w K mg base CX j f fd ps sp) (h : j ≤ k) :
    FnOk P w K mg base CX k f fd ps sp := ⟨F.len, fun A outer s H args us vs Q E hr => F.run A outer s H args us vs Q E (hr.mono h)⟩
/-- a weaker promise -/
theorem FnOk.imp {P : Program} {w : World} {K : PySem.W.Frag} {mg : Str → Option Value} {base : Heap} {CX : CXT} {k : Nat} {f : Addr} {fd : FuncData} {ps : List Str} {sp sp' : Sp} (F : FnOk P w K mg base CX k f fd ps sp)
    (h : ∀ vs H Q E, sp' vs H Q E → sp vs H Q E) : FnOk P w K mg base CX k f fd ps sp' :=
  ⟨fun vs H Q E q => F.len vs H Q E (h _ _ _ _ q), fun A outer s H args us vs Q E hr he hb hv hs => F.run A outer s H args us vs Q E hr he hb hv (h _ _ _ _ hs)⟩

theorem Env0.in1 {P : Program} {w : World} {K : PySem.W.Frag} {mg : Str → Option Value} {base : Heap} {A : Around} {outer : List Env} {s : Shared} {H : Hp} (e : Env0 P w K mg base A outer s H) :
    Env0 P w K mg base A.in1 outer s H := ⟨e.frames, e.mod, e.bs, e.bsz, e.funs, e.frf, e.hok, e.bare⟩

section
variable {X : Cx} {pins : List (Addr × Obj)} {σ : St} {H : Hp} {s s' : Shared}
/-- from a body: what a callee wants -/
theorem Inv.env0 (I : Inv X pins σ H s) : Env0 X.prog X.w X.K X.mg X.base X.A X.stack s H :=
  ⟨I.ok.frames, I.ok.mod, I.bs, Nat.le_trans I.ok.bsz I.sz, I.stack, I.stkFree, I.hok, I.bare⟩
/-- behind a call -/
theorem Inv.after {Q : VK} {u : Value} (I : Inv X pins σ H s) (h : CE X.stack X.prog X.w H s Q u s') : EP X pins σ Q u s' := by
  obtain ⟨v, H', os, bare, un, hok, r, q⟩ := h
  obtain ⟨hh, g, d, t, os'⟩ := s'
  obtain rfl : os' = s.os := os
  exact ⟨v, H', I.call (h' := hh) (g' := g) (d' := d) (t' := t) (ch := []) un hok bare (fun b z => absurd z (by simp)), r, q⟩
end

/-! ### calls -/
/-- f(..): the written arguments, then the defaults dvs; E: what is wanted of an exception -/
def tCall (sp : Sp) (dvs : List V) (E : XK) (t : TA) : TE := fun σ H Q => t σ H fun vs H1 => sp (vs ++ dvs) H1 Q E
/-- how the parameters are bound: us the positional arguments, kw the keywords' values by name, ds the defaults that fill up -/
def Binds (K : PySem.W.Frag) (fd : FuncData) (ps : List Str) (ds : List Value) : Prop :=
  ∀ (s : Shared) (us : List Value), K.In s.heap → (us ++ ds).length = ps.length → BindsTo s fd ⟨us, []⟩ (ps.zip (us ++ ds))
/-- every parameter is given -/
theorem Binds.all {K : PySem.W.Frag} {fd : FuncData} {ps : List Str} (h : ∀ us : List Value, us.length = ps.length → bindArgs fd ⟨us, []⟩ = pure (ps.zip us)) : Binds K fd ps [] := fun s us _ hl => by
  rw [List.append_nil] at hl ⊢
  exact .of_eq (h us hl)

/-- an exception of a callee reaches what this body wants of exceptions -/
def Passes (CX : CXT) (X : Cx) (E : XK) : Prop := ∀ (pins : List (Addr × Obj)) (σ : St) (H : Hp) (s : Shared) (e : Value) (s' : Shared), Inv X pins σ H s → CX X.stack H s E e s' → X.xe e s'

section
variable {X : Cx} {CX : CXT} {k : Nat} {f C : Addr} {fd : FuncData} {ps : List Str} {sp : Sp} {dvs : List V} {ds : List Value} {E : XK} {x m : Str} {p pos apos : Pos} {e o : Expr} {es : List Expr} {ta : TE} {t : TA}

/-- the callee runs -/
theorem run_fn {pins : List (Addr × Obj)} {σ : St} {H : Hp} {s : Shared} {Q : VK} {us : List Value} {vs : List V} (F : FnOk X.prog X.w X.K X.mg X.base CX k f fd ps sp) (hr : Room k X.A) (hb : Binds X.K fd ps ds) (hd : Vals dvs ds) (hx : Passes CX X E)
    (I : Inv X pins σ H s) (r : Vals vs us) (h : sp (vs ++ dvs) H Q E) : wpAny (model X.prog X.w) X.A (call (.ref f) us) (EP X pins σ Q) X.xe s := by
  have r2 : Vals (vs ++ dvs) (us ++ ds) := r.append hd
  have hl : (us ++ ds).length = ps.length := by rw [← r2.length]; exact F.len _ _ _ _ h
  refine wpAny_call (codeAny_mono (F.run X.A X.stack s H ⟨us, []⟩ (us ++ ds) (vs ++ dvs) Q E hr I.env0 (hb s us I.kIn hl) r2 h) fun r s' hq => ?_)
  cases r with
  | error e => exact hx pins σ H s e s' I hq
  | ok fl =>
    cases fl with
    | ret u => exact I.after hq
    | next => exact False.elim hq
    | brk => exact False.elim hq
    | cont => exact False.elim hq

theorem pe_call (F : FnOk X.prog X.w X.K X.mg X.base CX k f fd ps sp) (hr : Room k X.A) (hg : Gl X x) (hm : X.mg x = some (.ref f)) (hk : PySem.W.keepIn X.K (.ref f) = true) (hb : Binds X.K fd ps ds) (hd : Vals dvs ds) (hx : Passes CX X E)
    (ha : PA X (e :: es) t) (hdb : (x == ("__debug__" : Str)) = false := by decide) (he : starEach (e :: es) X.env = (false, eval e X.env) :: starEach es X.env := by rfl) (hpl : (backTo pos (starEach es X.env)).any (·.1) = false := by rfl) :
    PE X (.Call (.Name x p) (e :: es) [] pos) (tCall sp dvs E t) := by
  intro pins s σ H Q I h
  refine wpAny_Call_Name_kw (ld_glob I hg hm ?_ hdb)
  refine PySem.W.callWith_K (h₀ := X.base) I.ok.mod.kin hk (thn (ha pos pins s σ H _ I h) fun us s1 ⟨vs, H1, I1, r, q⟩ => ⟨I1.kIn, ?_⟩) he hpl
  exact run_fn F hr hb hd hx I1 r q
/-- what a class must have to be made -/
structure Mk (K : PySem.W.Frag) (C f : Addr) : Prop where
  makes : PySem.W.makesIn K C = true
  init : PySem.W.findIn K (.ref C) "__init__" = some (some (.ref f))
  fn : PySem.W.isFn K (.ref f) = true
  kp : PySem.W.keepIn K (.ref C) = true

end

/-! ### keywords -/
section
variable {X : Cx} {CX : CXT} {k : Nat} {f C : Addr} {fd : FuncData} {ps ks : List Str} {sp : Sp} {E : XK} {x m : Str} {p pos apos kpos : Pos} {e o : Expr} {es : List Expr} {kws : List Keyword} {te ta : TE} {t tk : TA} {nm : Option Str}
variable {g : List Value → List Value → List Value} {gV : List V → List V → List V}
end

/-! ### a def's body keeps its promise -/
/-- names: the parameters first -/
structure FnScope (N P : List Str) (sc : Scope) : Prop where
  kind : sc.kind = .function
  co : sc.isCoroutine = false
  gen : sc.isGenerator = false
  nd : N.Nodup
  pre : N.take P.length = P
  par : ∀ x ∈ P, sc.names.lookup x = some .local ∨ sc.names.lookup x = some .cell
  nofree : ∀ y ∈ sc.names, y.2 ≠ .free

theorem bindL_out {kindOf : Str → Option NameKind} {x : Str} : ∀ {binds : List (Str × Value)} {m : Str → Option Value}, (∀ v, (x, v) ∉ binds) → bindL kindOf binds m x = m x
  | [], _, _ => rfl
  | (n, v) :: r, m, h => by
    unfold bindL
    rw [bindL_out fun w hw => h w (List.mem_cons_of_mem _ hw)]
    split
    · have : x ≠ n := by rintro rfl; exact h v List.mem_cons_self
      simp [this]
    · rfl
theorem bindC_out {kindOf : Str → Option NameKind} {x : Str} : ∀ {binds : List (Str × Value)} {m : Str → Option Value}, (∀ v, (x, v) ∉ binds) → bindC kindOf binds m x = m x
  | [], _, _ => rfl
  | (n, v) :: r, m, h => by
    unfold bindC
    rw [bindC_out fun w hw => h w (List.mem_cons_of_mem _ hw)]
    split
    · rfl
    · have : x ≠ n := by rintro rfl; exact h v List.mem_cons_self
      simp [this]
theorem bindL_get {kindOf : Str → Option NameKind} {x : Str} {v : Value} : ∀ {P : List Str} {vs : List Value} {i : Nat} {m : Str → Option Value}, P.Nodup → P[i]? = some x → vs[i]? = some v → kindOf x = some .local →
    bindL kindOf (P.zip vs) m x = some v
  | [], _, _, _, _, h, _, _ => by simp at h
  | _ :: _, [], _, _, _, _, h, _ => by simp at h
  | p :: P, w :: vs, 0, m, nd, h1, h2, hk => by
    simp at h1 h2; subst h1; subst h2
    show bindL kindOf ((p, w) :: P.zip vs) m p = _
    unfold bindL
    rw [bindL_out fun v hv => (List.nodup_cons.mp nd).1 (List.of_mem_zip hv).1, if_pos hk]
    simp
  | p :: P, w :: vs, i + 1, m, nd, h1, h2, hk => by
    show bindL kindOf ((p, w) :: P.zip vs) m x = _
    unfold bindL
    exact bindL_get (i := i) (List.nodup_cons.mp nd).2 (by simpa using h1) (by simpa using h2) hk
theorem bindC_get {kindOf : Str → Option NameKind} {x : Str} {v : Value} : ∀ {P : List Str} {vs : List Value} {i : Nat} {m : Str → Option Value}, P.Nodup → P[i]? = some x → vs[i]? = some v → kindOf x ≠ some .local →
    bindC kindOf (P.zip vs) m x = some v
  | [], _, _, _, _, h, _, _ => by simp at h
  | _ :: _, [], _, _, _, _, h, _ => by simp at h
  | p :: P, w :: vs, 0, m, nd, h1, h2, hk => by
    simp at h1 h2; subst h1; subst h2
    show bindC kindOf ((p, w) :: P.zip vs) m p = _
    unfold bindC
    rw [bindC_out fun v hv => (List.nodup_cons.mp nd).1 (List.of_mem_zip hv).1, if_neg hk]
    simp
  | p :: P, w :: vs, i + 1, m, nd, h1, h2, hk => by
    show bindC kindOf ((p, w) :: P.zip vs) m x = _
    unfold bindC
    exact bindC_get (i := i) (List.nodup_cons.mp nd).2 (by simpa using h1) (by simpa using h2) hk

/-- the names' values at the entry -/
def start (N : List Str) (vs : List V) : St := vs.map some ++ List.replicate (N.length - vs.length) none

/-- the context of a def's body, at its entry; an exception leaves the frame, then lies as CX says -/
def cxOf (CX : CXT) (P : Program) (w : World) (K : PySem.W.Frag) (mg : Str → Option Value) (base : Heap) (N : List Str) (qual : Str) (scope : Scope) (f : Addr) (cd : Value) (A : Around) (outer : List Env) (s : Shared) (H : Hp) (E : XK) : Cx where
  prog := P
  w := w
  K := K
  mg := mg
  base := base
  A := A.deeper (envOfC qual scope s.heap.objs.size f cd)
  N := N
  s₀ := s
  H₀ := H
  env := envOfC qual scope s.heap.objs.size f cd
  outer := outer
  stack := envOfC qual scope s.heap.objs.size f cd :: outer
  ex := []
  calm := true
  fn := fun _ => true
  pn := []
  xe := fun e s' => wpAny (model P w) (A.deeper (envOfC qual scope s.heap.objs.size f cd)) (leaving (envOfC qual scope s.heap.objs.size f cd) e) (fun _ s'' => CX outer H s E e s'') (fun e' s'' => CX outer H s E e' s'') s'

theorem cell_has {sc : Scope} {n : Nat} {x : Str} (h : sc.names.lookup x = some .cell) : ∃ c, (cellsFrom n sc.names []).lookup x = some c := by
  have q := PySem.W.cellsFrom_some sc.names n [] (.inl h)
  exact Option.isSome_iff_exists.mp q

theorem inv_start {CX : CXT} {P : Program} {w : World} {K : PySem.W.Frag} {mg : Str → Option Value} {base : Heap} {N ps : List Str} {qual : Str} {scope : Scope} {f : Addr} {cd : Value} {A : Around} {outer : List Env} {s s1 : Shared} {H : Hp} {E : XK} {us : List Value} {vs : List V}
    (S : FnScope N ps scope) (hd : A.handled = none) (e0 : Env0 P w K mg base A outer s H) (hl : vs.length = ps.length) (r : Vals vs us)
    (x : InCallC s s.heap.objs.size (bindL (envOfC qual scope s.heap.objs.size f cd).kindOf (ps.zip us) fun _ => none) (cellsFrom (s.heap.objs.size + 1) scope.names []) (bindC (envOfC qual scope s.heap.objs.size f cd).kindOf (ps.zip us) fun _ => none) s1) :
    Inv (cxOf CX P w K mg base N qual scope f cd A outer s H E) [] (start N vs) H s1 := by
  have hpl : ps.length ≤ N.length := by have := congrArg List.length S.pre; rw [List.length_take] at this; omega
  obtain ⟨h1, tk, rfl, hk⟩ := x.done
  have noA : ∀ b : Addr, b ∉ (cxOf CX P w K mg base N qual scope f cd A outer s H E).ex := fun b z => absurd (show b ∈ ([] : List Addr) from z) (by simp)
  refine ⟨⟨e0.mod, S.kind, rfl, rfl, Nat.le_refl _, fun y z c h1 h2 => ?_, fun y hy => ?_, fun y c _ h => ?_, fun _ => hd, Around.frames_deeper e0.frames, .inr ⟨rfl, rfl⟩, fun b z => absurd z (noA b), e0.bs, e0.bsz, fun b _ _ => noA b, fun b z => absurd z (noA b), e0.funs, e0.frf⟩,
    rfl, e0.bare, Un.kept hk, ⟨_, x.toInCall.ns, fun i y v h1 h2 h3 => ?_⟩, fun y c h => ⟨_, x.cell y c h⟩, e0.hok.fresh (Nat.le_refl _), fun y c h => ?_, fun p hp => absurd (show p ∈ ([] : List (Addr × Obj)) from hp) (by simp), e0.hok.kept hk, ?_⟩
  · exact name_of_addr x.apart (PySem.mem_of_lookup h1) (PySem.mem_of_lookup h2)
  · have hy : scope.names.lookup y = some .cell ∨ scope.names.lookup y = some .free := hy
    rcases hy with hy | hy
    · exact cell_has hy
    · exact absurd rfl (S.nofree _ (PySem.mem_of_lookup hy))
  · exact Nat.le_of_lt (x.above y c (PySem.mem_of_lookup h))
  · have hi : i < vs.length := by
      unfold start at h2
      by_cases hi : i < vs.length
      · exact hi
      · rw [List.getElem?_append_right (by simpa using hi)] at h2
        rw [List.getElem?_replicate] at h2
        split at h2 <;> cases h2
    have ha : vs[i]? = some v := by
      unfold start at h2
      rw [List.getElem?_append_left (by simpa using hi), List.getElem?_map] at h2
      cases e : vs[i]? with
      | none => rw [e] at h2; cases h2
      | some a => rw [e] at h2; cases h2; rfl
    obtain ⟨u, hu, rv⟩ := r.get ha
    have hp : ps[i]? = some y := by
      rw [← S.pre, List.getElem?_take_of_lt (by omega)]; exact h1
    have ndP : ps.Nodup := by rw [← S.pre]; exact S.nd.sublist (List.take_sublist _ _)
    refine ⟨u, rv, ?_⟩
    rcases S.par y (List.mem_of_getElem? hp) with k | k
    · exact .inl ⟨k, bindL_get ndP hp hu k⟩
    · obtain ⟨c, e⟩ := cell_has (n := s.heap.objs.size + 1) k
      refine .inr ⟨.inl k, c, e, ?_⟩
      have q := x.cell y c e
      rw [bindC_get ndP hp hu (by show scope.names.lookup y ≠ _; rw [k]; decide)] at q
      exact q
  · exact e0.hok.fresh (Nat.le_of_lt (x.above y c (PySem.mem_of_lookup h)))
  · unfold start
    show _ = N.length
    rw [List.length_append, List.length_map, List.length_replicate]
    omega

/-- THE RULE: a def (or a method) of the text, by its body. The body's reading t is chosen for each entry; it is run at the parameters' values -/
theorem fn_of {CX : CXT} {P : Program} {w : World} {K : PySem.W.Frag} {mg : Str → Option Value} {base : Heap} {k : Nat} {f : Addr} {name qual : Str} {params : Arguments} {body : List Stmt} {scope : Scope} {dV kV doc pm cdv ct oc : Value} {an od : Option Addr}
    {osl : Array (Option Value)} {N ps : List Str} {sp : Sp} (lk : K.lookup f = some ⟨oc, od, .func (PySem.W.fnOf name qual params body scope dV kV doc pm an cdv ct), osl⟩) (hcd : PySem.W.codeIn K cdv qual = true) (S : FnScope N ps scope)
    (len : ∀ vs H Q E, sp vs H Q E → vs.length = ps.length)
    (hbody : ∀ (A : Around) (outer : List Env) (s : Shared) (H : Hp) (vs : List V) (Q : VK) (E : XK), Room k (A.deeper (envOfC qual scope s.heap.objs.size f cdv)) → sp vs H Q E →
      ∃ t, PSs (cxOf CX P w K mg base N qual scope f cdv A outer s H E) body t ∧ t { nx := fun _ H' => Q .non H', rt := Q } (start N vs) H) :
    FnOk P w K mg base CX (k + 1) f (PySem.W.fnOf name qual params body scope dV kV doc pm an cdv ct) ps sp := by
  refine ⟨len, fun A outer s H args us vs Q E hr e0 hb r hsp => ?_⟩
  have hl := len _ _ _ _ hsp
  have KX : K.In s.heap := e0.mod.kin.keeps fun b o e => (e0.bs b o e).1
  have lim : s.heap.NoLimit := e0.mod.nolimit.keeps fun b o e => (e0.bs b o e).1
  have hkind : ∀ y ∈ ps.zip us, scope.names.lookup y.1 = some .local ∨ (scope.names.lookup y.1 = some .cell ∧ ((cellsFrom (s.heap.objs.size + 1) scope.names []).lookup y.1).isSome = true) := fun ⟨n, v⟩ hy => by
    rcases S.par n (List.of_mem_zip hy).1 with q | q
    · exact .inl q
    · exact .inr ⟨q, PySem.W.cellsFrom_some _ _ _ (.inl q)⟩
  refine codeAny_call_function hr.depth (KX _ _ lk) rfl S.co S.gen rfl (PySem.W.codeRec_of KX hcd) (hb _ _ _ _ ?_)
  refine wpAny_newFunctionEnv_cells S.kind hkind fun env he s1 x => ?_
  subst he
  refine ⟨lim.keeps x.toInCall.keep, codeAny_func ?_⟩
  obtain ⟨t, ht, hq⟩ := hbody A outer s H vs Q E (hr.deeper _) hsp
  have I : Inv (cxOf CX P w K mg base N qual scope f cdv A outer s H E) [] (start N vs) H s1 := inv_start S hr.hd e0 hl r x
  refine wpAny_mono (ht [] s1 (start N vs) H _ I hq) (fun fl s' hs => ?_) fun e s' hs => hs
  have fin : ∀ {σ' : St} {H' : Hp} {v : V} {u : Value}, Inv (cxOf CX P w K mg base N qual scope f cdv A outer s H E) [] σ' H' s' → RelV v u → Q v H' → CE outer P w H s Q u s' :=
    fun {σ' H' v u} J rv q => ⟨v, H', J.os, J.bare, J.base, J.hok, rv, q⟩
  cases fl with
  | ret u =>
    obtain ⟨v, σ', H', J, rv, q⟩ := hs
    exact fin J rv q
  | next =>
    obtain ⟨σ', H', J, q⟩ := hs
    exact fin (v := V.non) (u := Value.none) J rfl q
  | brk =>
    obtain ⟨_, _, _, q⟩ := hs
    exact False.elim q
  | cont =>
    obtain ⟨_, _, _, q⟩ := hs
    exact False.elim q
end L2

namespace L2
open PySem PySem.Spec PyProof.Rows
section
variable {X : Cx} {x : Str} {p pos : Pos} {e : Expr} {es : List Expr} {t : TA} {id T : String} {r : List V → Hp → VK → Prop}

def tCB (r : List V → Hp → VK → Prop) (t : TA) : TE := fun σ H Q => t σ H fun vs H1 => r vs H1 Q
/-- f(e, ..), f a built-in function -/
theorem pe_callB (hc : CallR X (.builtin id) r) (hg : Gl X x) (hm : X.mg x = none) (hv : bootBuiltins x = some (.builtin id)) (ha : PA X (e :: es) t) (hn : x ≠ "__name__" := by decide) (hdb : (x == ("__debug__" : Str)) = false := by decide)
    (he : starEach (e :: es) X.env = (false, eval e X.env) :: starEach es X.env := by rfl) (hpl : (backTo pos (starEach es X.env)).any (·.1) = false := by rfl) : PE X (.Call (.Name x p) (e :: es) [] pos) (tCB r t) := by
  intro pins s σ H Q I h
  refine wpAny_Call_Name_kw (ld_blt I hg hm hv ?_ hn hdb)
  exact PyProof.Rows.callWith_builtin1 (thn (ha pos pins s σ H _ I h) fun us s1 ⟨vs, H1, I1, r1, q1⟩ => hc pins s1 σ H1 vs us Q I1 r1 q1) he hpl
/-- T(e, ..), T a built-in type -/
theorem pe_callTy (hc : CallR X (.type T) r) (hg : Gl X x) (hm : X.mg x = none) (hv : bootBuiltins x = some (.type T)) (ha : PA X (e :: es) t) (hn : x ≠ "__name__" := by decide) (hdb : (x == ("__debug__" : Str)) = false := by decide)
    (he : starEach (e :: es) X.env = (false, eval e X.env) :: starEach es X.env := by rfl) (hpl : (backTo pos (starEach es X.env)).any (·.1) = false := by rfl) : PE X (.Call (.Name x p) (e :: es) [] pos) (tCB r t) := by
  intro pins s σ H Q I h
  refine wpAny_Call_Name_kw (ld_blt I hg hm hv ?_ hn hdb)
  exact PyProof.Rows.callWith_type1 (thn (ha pos pins s σ H _ I h) fun us s1 ⟨vs, H1, I1, r1, q1⟩ => hc pins s1 σ H1 vs us Q I1 r1 q1) he hpl
end
end L2

namespace HT
open PySem PyProof.Rows

section
open PySem.SeqAt
open PySem.AutoSeq1 (wpAny_loadPart')
open PySem.MeetsSeq PySem.MeetsSeq2 PySem.MeetsSeq3

end

section
variable {prog : Program} {w : World} {A : Around} {E : Value → Shared → Prop} {s : Shared}

/-! ### t[a:b], not the whole -/
end
end HT

namespace L2
open PySem PySem.Spec PyProof.Rows

/-! ### the parts of a slice -/
abbrev TO := St → Hp → (Option Int → Hp → Prop) → Prop
section
variable {X : Cx} {e : Expr} {te : TE} {lo hi : Option Expr} {tl th : TO} {pos p2 : Pos}

/-- what a slice of a value is, by values: the slice object stands at sl -/
def SlR (X : Cx) (r : V → Option Int → Option Int → Hp → VK → Prop) : Prop :=
  ∀ (pins : List (Addr × Obj)) (s : Shared) (σ : St) (H : Hp) (x : V) (v vl vu : Value) (lo hi : Option Int) (sl : Addr) (Q : VK), Inv X pins σ H s → RelV x v → s.heap.IsSliceOf sl vl vu .none → IsPart vl lo → IsPart vu hi → r x lo hi H Q →
    ∃ T id, typeLookup (.type T) "__getitem__" = pure (some (.builtin id)) ∧ s.TypeIs v T ∧ wpAny (model X.prog X.w) X.A (getItem v (.ref sl)) (EP X pins σ Q) X.xe s
theorem SlR.or {r r' : V → Option Int → Option Int → Hp → VK → Prop} (h : SlR X r) (h' : SlR X r') : SlR X (fun x lo hi H Q => r x lo hi H Q ∨ r' x lo hi H Q) := by
  intro pins s σ H x v vl vu lo hi sl Q I rx hs pl pu q
  rcases q with q | q
  · exact h pins s σ H x v vl vu lo hi sl Q I rx hs pl pu q
  · exact h' pins s σ H x v vl vu lo hi sl Q I rx hs pl pu q
/-! ### t < u, t + u -/
end
end L2

namespace L2
open PySem PySem.Spec PyProof.Rows

/-! ### places -/
/-- the place that an index of any sign means -/
def ixN (n : Nat) (i : Int) : Option Nat := if 0 ≤ i then (if i < n then some i.toNat else none) else if -(n : Int) ≤ i then some (i + n).toNat else none
def atI {α : Type} (xs : List α) (i : Int) : Option α := (ixN xs.length i).bind fun j => xs[j]?
theorem ixN_seq {n : Nat} {i : Int} {j : Nat} (h : ixN n i = some j) : seqIndex? i n = some j ∧ j < n ∧ -(n : Int) ≤ i ∧ i < n := by
  unfold ixN at h
  by_cases h0 : 0 ≤ i
  · rw [if_pos h0] at h
    by_cases h1 : i < n
    · rw [if_pos h1] at h
      have e : i.toNat = j := Option.some.inj h
      exact ⟨by rw [seqIndex_of h0 h1, e], by omega, by omega, h1⟩
    · rw [if_neg h1] at h; cases h
  · rw [if_neg h0] at h
    by_cases h1 : -(n : Int) ≤ i
    · rw [if_pos h1] at h
      have e : (i + n).toNat = j := Option.some.inj h
      exact ⟨by rw [seqIndex_neg (by omega) h1, e], by omega, h1, by omega⟩
    · rw [if_neg h1] at h; cases h
theorem atI_get {α : Type} {xs : List α} {i : Int} {v : α} (h : atI xs i = some v) : ∃ j, seqIndex? i xs.length = some j ∧ xs[j]? = some v ∧ j < xs.length ∧ -(xs.length : Int) ≤ i ∧ i < xs.length := by
  unfold atI at h
  cases e : ixN xs.length i with
  | none => rw [e] at h; cases h
  | some j =>
    rw [e] at h
    obtain ⟨h1, h2, h3, h4⟩ := ixN_seq e
    exact ⟨j, h1, h, h2, h3, h4⟩
theorem atI_nat {α : Type} {xs : List α} {j : Nat} {v : α} (h : xs[j]? = some v) : atI xs (j : Int) = some v := by
  have hj : j < xs.length := (List.getElem?_eq_some_iff.mp h).1
  have e : ixN xs.length (j : Int) = some j := by
    unfold ixN
    rw [if_pos (by omega), if_pos (by omega)]; simp
  unfold atI; rw [e]; exact h
/-! ### what may be subscripted -/
/-- what stands as an index of a plain subscript -/
def PlainIx (b : Expr) : Prop := ∀ o i, subscripted b false o i = operate [o, i] (getItem o i)
/-- a subscript by values -/
def IxR (X : Cx) (r : R2) : Prop :=
  ∀ (value slice : Expr) (pins : List (Addr × Obj)) (s : Shared) (σ : St) (H : Hp) (x y : V) (v u : Value) (Q : VK), Inv X pins σ H s → RelV x v → RelV y u → r x y H Q →
    subscripted slice false v u = operate [v, u] (getItem v u) → wpAny (model X.prog X.w) X.A (subscriptTail value slice v u) (EP X pins σ Q) X.xe s
/-- a call of a builtin's method by values: the receiver, the arguments -/
def MtR (X : Cx) (id : String) (r : V → List V → Hp → VK → Prop) : Prop :=
  ∀ (pins : List (Addr × Obj)) (s : Shared) (σ : St) (H : Hp) (x : V) (xs : List V) (v : Value) (us : List Value) (Q : VK), Inv X pins σ H s → RelV x v → Vals xs us → r x xs H Q →
    wpAny (model X.prog X.w) X.A (call (.builtin id) (v :: us)) (EP X pins σ Q) X.xe s
section
variable {X : Cx} {a b : Expr} {ta tb : TE} {pos : Pos}
theorem IxR.or {r r' : R2} (h : IxR X r) (h' : IxR X r') : IxR X (fun x y H Q => r x y H Q ∨ r' x y H Q) := by
  intro value slice pins s σ H x y v u Q I rx ry q hs
  rcases q with q | q
  · exact h value slice pins s σ H x y v u Q I rx ry q hs
  · exact h' value slice pins s σ H x y v u Q I rx ry q hs
theorem MtR.or {id : String} {r r' : V → List V → Hp → VK → Prop} (h : MtR X id r) (h' : MtR X id r') : MtR X id (fun x xs H Q => r x xs H Q ∨ r' x xs H Q) := by
  intro pins s σ H x xs v us Q I rx rs q
  rcases q with q | q
  · exact h pins s σ H x xs v us Q I rx rs q
  · exact h' pins s σ H x xs v us Q I rx rs q
/-- a[b] -/
theorem pe_ix {r : R2} (hr : IxR X r) (ha : PE X a ta) (hb : PE X b tb) (hs : PlainIx b) : PE X (.Subscript a b pos) (tOp r ta tb) := by
  intro pins s σ H Q I h
  exact Subscript_ (binT ha hb I h fun v u s2 x y H2 I2 rx ry q => hr a b pins s2 σ H2 x y v u Q I2 rx ry q (hs _ _))

def rIxL (K : PySem.W.Frag) : R2 := fun x y H Q => ∃ p xs i v, x = .ref p ∧ y = .int i ∧ SqL K H p xs ∧ atI xs i = some v ∧ Q v H
def rIxT (K : PySem.W.Frag) : R2 := fun x y H Q => ∃ p xs i v, x = .ref p ∧ y = .int i ∧ SqT K H p xs ∧ atI xs i = some v ∧ Q v H
def rIxS : R2 := fun x y H Q => ∃ z i c, x = .str z ∧ y = .int i ∧ z.length ≤ sizeLine ∧ atI z.cps.toList i = some c ∧ Q (.str ⟨#[c]⟩) H
theorem ix_list : IxR X (rIxL X.K) := by
  intro value slice pins s σ H x y v u Q I rx ry h hs
  obtain ⟨p, xs, i, z, rfl, rfl, hq, he, q⟩ := h
  cases rx
  obtain ⟨t, rfl⟩ := ry
  obtain ⟨its, r, pl, hz⟩ := I.list hq
  obtain ⟨j, h1, h2, h3, h4, h5⟩ := atI_get he
  obtain ⟨w, ew, rw'⟩ := r.get h2
  have hl := r.length
  have hn := line63
  have fin : EP X pins σ Q w s := ⟨z, H, I, rw', q⟩
  by_cases h0 : 0 ≤ i
  · have hj : i.toNat = j := by
      rw [seqIndex_of h0 h5] at h1
      exact Option.some.inj h1
    exact item_listR pl.isList h0 (by omega) (by rw [hj]; simpa using ew) fin hs
  · have hj : (i + (its.toArray.size : Int)).toNat = j := by
      rw [seqIndex_neg (by omega) h4] at h1
      rw [List.size_toArray, ← hl]
      exact Option.some.inj h1
    exact subscriptTail_builtinR (x := w) pl.isList.typeIs slot_list_getitem.lookup
      (wpAny_getItem_list_neg (Q := fun r s' => r = w ∧ EP X pins σ Q r s') pl.isList (by omega) (by rw [List.size_toArray] <;> omega) (by omega) (by rw [hj]; simpa using ew) ⟨rfl, fin⟩) hs
theorem ix_tup : IxR X (rIxT X.K) := by
  intro value slice pins s σ H x y v u Q I rx ry h hs
  obtain ⟨p, xs, i, z, rfl, rfl, hq, he, q⟩ := h
  cases rx
  obtain ⟨t, rfl⟩ := ry
  obtain ⟨its, r, pl, hz⟩ := I.tuple hq
  obtain ⟨j, h1, h2, h3, h4, h5⟩ := atI_get he
  obtain ⟨w, ew, rw'⟩ := r.get h2
  have hl := r.length
  have hn := line63
  have fin : EP X pins σ Q w s := ⟨z, H, I, rw', q⟩
  exact subscriptTail_builtinR (x := w) pl.typeIs slot_tuple_getitem.lookup
    (getItem_tuple (j := j) (Q := fun r s' => r = w ∧ EP X pins σ Q r s') pl (by omega) (by omega) (by rw [List.size_toArray, ← hl]; exact h1) (by simpa using ew) ⟨rfl, fin⟩) hs
theorem ix_str : IxR X rIxS := by
  intro value slice pins s σ H x y v u Q I rx ry h hs
  obtain ⟨z, i, c, rfl, rfl, hz, he, q⟩ := h
  obtain ⟨t, rfl⟩ := rx
  obtain ⟨t', rfl⟩ := ry
  obtain ⟨j, h1, h2, h3, h4, h5⟩ := atI_get he
  have hl : z.cps.toList.length = z.length := by simp [Str.length]
  rw [hl] at h1 h4 h5
  have hn := line63
  exact tail_any (typeIs_str s z t) slot_str_getitem.lookup (getItem_str (c := c) (by
    have e1 : decide (i < -(2 ^ 63 : Int)) = false := decide_eq_false (by omega)
    have e2 : decide (i ≥ 2 ^ 63) = false := decide_eq_false (by omega)
    rw [e1, e2, Bool.or_false]) (by rw [h1]; simpa using h2) ⟨.str ⟨#[c]⟩, H, I.tok _, ⟨_, rfl⟩, q⟩) hs
/-! ### xs[i] = v, any sign -/
/-- the list's object behind a store -/
theorem mapSeq_set (its : List Value) (n j : Nat) (u : Value) : Obj.mapSeq (·.setIfInBounds j u) { cls := .type "list", data := .seq its.toArray n } = { cls := .type "list", data := .seq (its.set j u).toArray n } := by
  simp [Obj.mapSeq]
theorem Inv.lst {pins : List (Addr × Obj)} {σ : St} {H : Hp} {s : Shared} {p : Addr} {xs : List V} (I : Inv X pins σ H s) (h : H p = some (.lst xs)) :
    ∃ (its : List Value) (n : Nat), Vals xs its ∧ s.heap.get? p = some { cls := .type "list", data := .seq its.toArray n } ∧ xs.length ≤ sizeLine := by
  obtain ⟨z, its, n, r, e⟩ := I.hok p _ h
  exact ⟨its, n, r, e, z⟩
/-- the list at p is written by an update of its object -/
theorem Inv.lstUpd {pins : List (Addr × Obj)} {σ : St} {H : Hp} {s : Shared} {p : Addr} {xs ys : List V} {its its' : List Value} {n n' : Nat} {f : Obj → Obj} (I : Inv X pins σ H s) (h : H p = some (.lst xs))
    (ho : s.heap.get? p = some { cls := .type "list", data := .seq its.toArray n }) (hf : f { cls := .type "list", data := .seq its.toArray n } = { cls := .type "list", data := .seq its'.toArray n' }) (r : Vals ys its') (hz : ys.length ≤ sizeLine) (t : Nat) :
    Inv X pins σ (upd H p (.lst ys)) { s with heap := s.heap.update p f, toks := t } := by
  have e : (s.heap.update p f).get? p = some { cls := .type "list", data := .seq its'.toArray n' } := by
    rw [Heap.get?_update_self f ho (by rw [hf] <;> rfl), hf]
  refine I.write (x := p) (e := p) (by rw [h]; trivial) (.inl rfl) (fun b u hb q => (Heap.get?_update_other _ _ (Ne.symm hb)).trans q) ⟨_, e⟩ ?_
  exact ⟨hz, its', n', r, e⟩
def rSetL : V → V → V → Hp → (Hp → Prop) → Prop := fun o i v H Q => ∃ p xs k j, o = .ref p ∧ i = .int k ∧ H p = some (.lst xs) ∧ ixN xs.length k = some j ∧ Q (upd H p (.lst (xs.set j v)))
theorem set_list : PSet X rSetL := by
  intro pins s σ H o i v ov iv u Q I ro ri rv h
  obtain ⟨p, xs, k, j, rfl, rfl, hp, hj, q⟩ := h
  cases ro
  obtain ⟨t, rfl⟩ := ri
  obtain ⟨its, n, r, ho, hz⟩ := I.lst hp
  obtain ⟨h1, h2, h3, h4⟩ := ixN_seq hj
  have hl := r.length
  have hn := line63
  have I' : Inv X pins σ (upd H p (.lst (xs.set j v))) { s with heap := s.heap.update p (Obj.mapSeq (·.setIfInBounds j u)) } :=
    I.lstUpd hp ho (mapSeq_set its n j u) (r.set rv j) (by rw [List.length_set]; exact hz) s.toks
  by_cases h0 : 0 ≤ k
  · have hk : k.toNat = j := by
      rw [seqIndex_of h0 h4] at h1
      exact Option.some.inj h1
    exact PySem.W.ki_setAt ho h0 (by omega) (by rw [List.size_toArray, ← hl]; exact h4) (by rw [hk]; exact ⟨_, I', q⟩)
  · have hk : (k + (its.toArray.size : Int)).toNat = j := by
      rw [seqIndex_neg (by omega) h3] at h1
      rw [List.size_toArray, ← hl]
      exact Option.some.inj h1
    exact PySem.W.ki_setBack ho (by omega) (by rw [List.size_toArray, ← hl]; exact h3) (by omega) (by rw [hk]; exact ⟨_, I', q⟩)

/-! ### slices -/
/-! ### in, not in: flat items -/
/-! ### len, list(x), tuple(x) of any list or tuple that is read -/
theorem call_len_seq : CallR X (.builtin "len") (fun xs H Q => ∃ p ys, xs = [.ref p] ∧ (SqL X.K H p ys ∨ SqT X.K H p ys) ∧ Q (.int ys.length) H) := by
  intro pins s σ H xs us Q I r h
  obtain ⟨p, ys, rfl, hq, q⟩ := h
  obtain ⟨u, rfl, rx⟩ := vals1 r
  cases rx
  have hn := line63
  rcases hq with hq | hq
  · obtain ⟨its, r', pl, hz⟩ := I.list hq
    have hlen := r'.length
    exact Calls.call_len_list pl.isList (by simp only [List.size_toArray] <;> omega) ⟨.int ys.length, H, I.tok _, ⟨s.toks + 1, by rw [List.size_toArray, hlen]⟩, q⟩
  · obtain ⟨its, r', pl, hz⟩ := I.tuple hq
    have hlen := r'.length
    exact len_tuple pl (by simp only [List.size_toArray] <;> omega) ⟨.int ys.length, H, I.tok _, ⟨s.toks + 1, by rw [List.size_toArray, hlen]⟩, q⟩
theorem CallR.or {f : Value} {r r' : List V → Hp → VK → Prop} (h : CallR X f r) (h' : CallR X f r') : CallR X f (fun xs H Q => r xs H Q ∨ r' xs H Q) := by
  intro pins s σ H xs us Q I rs q
  rcases q with q | q
  · exact h pins s σ H xs us Q I rs q
  · exact h' pins s σ H xs us Q I rs q
theorem call_tuple_of : CallR X (.type "tuple") (fun xs H Q => ∃ p ys, xs = [.ref p] ∧ ((SqL X.K H p ys ∧ ∀ l, H l = none → Q (.ref l) (upd H l (.tup ys))) ∨ (SqT X.K H p ys ∧ Q (.ref p) H))) := by
  intro pins s σ H xs us Q I r h
  obtain ⟨p, ys, rfl, h⟩ := h
  obtain ⟨u, rfl, rx⟩ := vals1 r
  cases rx
  rcases h with ⟨hq, q⟩ | ⟨hq, q⟩
  · obtain ⟨its, r', pl, hz⟩ := I.list hq
    have hlen := r'.length
    refine call_tuple_list pl.isList (fun h' kp => ?_) (by simp only [List.size_toArray] <;> omega)
    have I1 : Inv X pins σ H { s with heap := h' } := I.kept (t' := s.toks) kp
    have I2 : Inv X pins σ (upd H h'.objs.size (.tup ys)) { s with heap := h'.push { cls := .type "tuple", data := .seq its.toArray } } :=
      I1.laid (t' := s.toks) (fun b o e => Heap.get?_push_of_some _ e) (Nat.le_refl _) (show ObjOk X.prog X.w _ _ _ (.tup ys) from ⟨hz, its, r', IsTup.new _ _⟩)
    exact ⟨.ref h'.objs.size, _, I2, rfl, q _ (I1.hok.fresh (Nat.le_refl _))⟩
  · obtain ⟨its, r', pl, hz⟩ := I.tuple hq
    exact call_tuple_same pl ⟨.ref p, H, I, rfl, q⟩

/-! ### the call of a builtin's method: o.m(..) -/
/-- the value is of that builtin type -/
def tyV (K : PySem.W.Frag) (T : String) (x : V) (H : Hp) : Prop := match x with
  | .str _ => T = "str"
  | .int _ => T = "int"
  | .ref p => (T = "list" ∧ ∃ xs, SqL K H p xs) ∨ (T = "tuple" ∧ ∃ o, K.lookup p = some o ∧ o.cls = .type "tuple" ∧ o.dict = none) ∨
      (T = "dict" ∧ ((∃ kvs, H p = some (.dK kvs)) ∨ ∃ kvs, H p = some (.dT kvs))) ∨ (T = "set" ∧ ∃ S n, H p = some (.set S n))
  | _ => False
theorem tyV_is {pins : List (Addr × Obj)} {σ : St} {H : Hp} {s : Shared} {T : String} {x : V} {v : Value} (I : Inv X pins σ H s) (r : RelV x v) (ty : tyV X.K T x H) :
    s.TypeIs v T ∧ ∀ a, v = .ref a → ∃ ob, s.heap.get? a = some ob ∧ ob.dict = none := by
  cases x with
  | str z =>
    obtain ⟨t, rfl⟩ := r
    cases (show T = "str" from ty)
    exact ⟨typeIs_str s z t, fun _ e => nomatch e⟩
  | int i =>
    obtain ⟨t, rfl⟩ := r
    cases (show T = "int" from ty)
    exact ⟨typeIs_int s i t, fun _ e => nomatch e⟩
  | ref p =>
    cases r
    rcases ty with ⟨rfl, xs, hq⟩ | ⟨rfl, o, hk, hc, hd⟩ | ⟨rfl, hk⟩ | ⟨rfl, S, n, hk⟩
    · obtain ⟨its, _, pl, _⟩ := I.list hq
      refine ⟨pl.isList.typeIs, fun a e => ?_⟩
      cases e
      obtain ⟨o, n, e, c, hd, _⟩ := pl
      exact ⟨o, e, hd⟩
    · refine ⟨⟨o, I.kIn p o hk, hc⟩, fun a e => ?_⟩
      cases e
      exact ⟨o, I.kIn _ o hk, hd⟩
    · have z : ∃ o, s.heap.get? p = some o ∧ o.ExactDict := by
        rcases hk with ⟨kvs, hk⟩ | ⟨kvs, hk⟩
        · obtain ⟨_, _, _, _, o, _, _, e, ex, _⟩ := I.hok p _ hk
          exact ⟨o, e, ex⟩
        · obtain ⟨_, _, _, _, o, _, _, e, ex, _⟩ := I.hok p _ hk
          exact ⟨o, e, ex⟩
      obtain ⟨o, e, ex⟩ := z
      refine ⟨⟨o, e, ex.1⟩, fun a e2 => ?_⟩
      cases e2
      exact ⟨o, e, ex.2.1⟩
    · obtain ⟨o, _, _, _, e, ex, _⟩ := I.hok p _ hk
      refine ⟨⟨o, e, ex.1⟩, fun a e2 => ?_⟩
      cases e2
      exact ⟨o, e, ex.2.1⟩
  | _ => exact False.elim ty
def tBM (K : PySem.W.Frag) (T : String) (r : V → List V → Hp → VK → Prop) (to : TE) (t : TA) : TE := fun σ H Q => to σ H fun x H1 => tyV K T x H1 ∧ t σ H1 fun xs H2 => r x xs H2 Q
variable {o e : Expr} {es : List Expr} {to : TE} {t : TA} {name : Str} {apos cpos : Pos} {T id : String} {r : V → List V → Hp → VK → Prop}
theorem pe_bm (pa : PlainAttrs T) (slot : Slot T name id) (hty : typeOf (.builtin id) = pure (.type "method_descriptor")) (hm : MtR X id r) (ho : PE X o to) (ha : PA X (e :: es) t)
    (hbase : attributeBase o name X.env (eval o X.env) = eval o X.env := by rfl)
    (hfew : ((backTo cpos (starEach (e :: es) X.env)).all (fun x => !x.1) && (backToKw cpos (keywordEach [] X.env)).all (fun x => x.1.isSome)
      && decide ((e :: es).length + ([] : List Keyword).length + (if ([] : List Keyword).isEmpty then 0 else 1) < 30)) = true := by rfl)
    (hline : (apos.endLine == cpos.line) = true := by rfl) (hs : starEach (e :: es) X.env = (false, eval e X.env) :: starEach es X.env := by rfl) (hplain : (backTo cpos (starEach es X.env)).any (·.1) = false := by rfl) :
    PE X (.Call (.Attribute o name apos) (e :: es) [] cpos) (tBM X.K T r to t) := by
  intro pins s σ H Q I h
  refine wpAny_Call_method_late hbase hfew hline rfl (thn (ho pins s σ H _ I h) fun v s1 ⟨x, H1, I1, r1, ty, q1⟩ => ?_)
  obtain ⟨h1, h2⟩ := tyV_is I1 r1 ty
  refine ⟨T, id, pa, slot, hty, h1, h2, ?_⟩
  have hA := ha cpos pins s1 σ H1 _ I1 q1
  rw [hs] at hA ⊢
  refine Calls.callWith_builtin (by show (false || (backTo cpos (starEach es X.env)).any (·.1)) = false; rw [hplain] <;> rfl) (Calls.evalArgs_plain ?_)
  exact thn hA fun us s2 ⟨vs, H2, I2, r2, q2⟩ => hm pins s2 σ H2 x vs v us Q I2 r1 r2 q2
/- xs.append(e), list.index on a module's tuple .. are MtR facts of 06m -/
end
end L2

namespace L2
open PySem PySem.Spec PyProof.Rows

def MtM (X : Cx) (id : String) (r : V → List V → Hp → VK → Prop) : Prop :=
  ∀ (pins : List (Addr × Obj)) (s : Shared) (σ : St) (H : Hp) (x : V) (xs : List V) (v : Value) (us : List Value) (Q : VK), Inv X pins σ H s → RelV x v → Vals xs us → r x xs H Q →
    wpAny (model X.prog X.w) X.A (call (.builtin id) (v :: us)) (EP X pins σ Q) X.xe s

/-! ### lists of values -/
theorem Vals.one : ∀ {x : V} {us : List Value}, Vals [x] us → ∃ u, us = [u] ∧ RelV x u
  | _, _, .cons r .nil => ⟨_, rfl, r⟩
theorem Vals.two : ∀ {x y : V} {us : List Value}, Vals [x, y] us → ∃ u v, us = [u, v] ∧ RelV x u ∧ RelV y v
  | _, _, _, .cons r (.cons q .nil) => ⟨_, _, rfl, r, q⟩
theorem Vals.reverse {xs : List V} {us : List Value} (h : Vals xs us) : Vals xs.reverse us.reverse := by
  induction h with
  | nil => exact .nil
  | cons r t ih => rw [List.reverse_cons, List.reverse_cons]; exact Vals.append ih (.cons r .nil)
section
variable {X : Cx} {pins : List (Addr × Obj)} {σ : St} {H : Hp} {s : Shared} {l b : Addr} {xs ys zs : List V}

/-! ### the two steps: a tracked list is rewritten, a new list is laid -/
theorem Inv.lset {its its' : List Value} {n : Nat} {f : Array Value → Array Value} {t' : Nat} (I : Inv X pins σ H s) (hH : H l = some (.lst xs))
    (e : s.heap.get? l = some { cls := .type "list", data := .seq its.toArray n }) (hf : f its.toArray = its'.toArray) (hv : Vals ys its') (hz : ys.length ≤ sizeLine) :
    Inv X pins σ (upd H l (.lst ys)) { s with heap := s.heap.update l (Obj.mapSeq f), toks := t' } := by
  have q := PySem.IsL.update e f
  rw [hf] at q
  refine I.write (x := l) (e := l) (by rw [hH]; exact trivial) (.inl rfl) (fun b' u hb hu => (Heap.get?_update_other s.heap (Obj.mapSeq f) (Ne.symm hb)).trans hu) ⟨_, q⟩ ?_
  exact ⟨hz, its', _, hv, q⟩
theorem Inv.lnew {its : List Value} {t' : Nat} (I : Inv X pins σ H s) (hv : Vals ys its) (hz : ys.length ≤ sizeLine) :
    Inv X pins σ (upd H s.heap.objs.size (.lst ys)) { s with heap := s.heap.push { cls := .type "list", data := .seq its.toArray }, toks := t' } :=
  I.laid (fun _ _ q => Heap.get?_push_of_some _ q) (Nat.le_refl _) ⟨hz, its, 0, hv, Heap.get?_push_size _ rfl⟩
theorem Inv.fresh (I : Inv X pins σ H s) : H s.heap.objs.size = none := I.hok.fresh (Nat.le_refl _)
theorem Inv.lstM (I : Inv X pins σ H s) (hH : H l = some (.lst xs)) : xs.length ≤ sizeLine ∧ ∃ (its : List Value) (n : Nat), Vals xs its ∧ xs.length = its.length ∧ s.heap.get? l = some { cls := .type "list", data := .seq its.toArray n } := by
  obtain ⟨z, its, n, r, e⟩ := I.hok l _ hH
  exact ⟨z, its, n, r, r.length, e⟩

end

section
variable {X : Cx}

/-! ### methods -/
def rAppend : V → List V → Hp → VK → Prop := fun x vs H Q => ∃ l xs y, x = .ref l ∧ vs = [y] ∧ H l = some (.lst xs) ∧ xs.length < sizeLine ∧ Q .non (upd H l (.lst (xs ++ [y])))
theorem mt_append : MtM X "list.append" rAppend := by
  intro pins s σ H x vs v us Q I rx rv h
  obtain ⟨l, xs, y, rfl, rfl, hH, hz, q⟩ := h
  cases rx
  obtain ⟨u, rfl, ru⟩ := rv.one
  obtain ⟨z, its, n, r, hl, e⟩ := I.lstM hH
  refine call_meets F.slot_list_append ⟨_, e, rfl⟩ F.entry_list_append (F.args_list_append_2 _ _) (PySem.list_append l its.toArray n u (by rw [List.size_toArray]; omega)) ⟨e, ?_⟩
  refine ⟨.non, _, I.lset (its' := its ++ [u]) hH e (by simp) (r.append (.cons ru .nil)) ?_, rfl, q⟩
  rw [List.length_append, List.length_singleton]
  omega

/-! ### list + list, list += list, list * int -/
/-! ### del xs[i] -/
end

/-! ### xs[a:b] = ys -/
section
variable {prog : Program} {w : World} {A : Around} {E : Value → Shared → Prop} {s : Shared}
end

section
variable {X : Cx}
end
end L2

namespace Att
open PySem PySem.W PySem.Calls PyProof.Rows

/-! ### the script -/
theorem ints_of_wellAll {P : Params} {h : Heap} : ∀ (ns : List Int) (vs : List Value), WellAll P h vs (ns.map WData.int) → IntsAre vs ns := by
  intro ns
  induction ns with
  | nil =>
    intro vs w
    rw [List.map_nil] at w
    cases w
    exact .nil
  | cons n ns ih =>
    intro vs w
    rw [List.map_cons] at w
    cases w with
    | cons a b =>
      cases a
      exact .cons _ _ (ih _ b)

theorem script_of {l : OpenLaw} {n : Nat} (hn : l.most = some n) {P : Params} {h : Heap} {args : List WData} {vals : List Value}
    (hpre : l.row.toRowW.claim.pre args = true) (hwl : WellAll P h vals args) :
    ∃ a vs ns, vals = [Value.ref a] ∧ args = [WData.list (ns.map WData.int)] ∧ h.get? a = some { cls := .type "list", data := .seq vs.toArray } ∧ IntsAre vs ns ∧ ns.length ≤ n := by
  have hsh : WShape.hasAll [] args [.list .int] = true := (pre_splitW hpre).1
  have hc : l.pre.holds [] { args := args } = true := (pre_splitW hpre).2
  obtain ⟨d, r, rfl, h1, h2⟩ := hasAllW_cons hsh
  obtain rfl := hasAllW_nil h2
  obtain ⟨xs, rfl, h3⟩ := hasW_list h1
  obtain ⟨ns, rfl⟩ := items_int h3
  have hlen : ns.length ≤ n := by
    unfold OpenLaw.pre at hc
    have h4 : (WTm.not (.lt (.lit (.int (n : Int))) (.len (.arg 0)))).holds [] { args := [.list (ns.map .int)] } = true := by
      have h4 := (holds_andW hc).1
      rw [hn] at h4
      exact h4
    have h5 := condW_of h4 (w_not (w_lt w_lit (w_len_list (w_arg rfl))))
    rw [List.length_map] at h5
    refine Nat.le_of_not_lt fun q => ?_
    have q' : (n : Int) < ((ns.length : Nat) : Int) := by omega
    first
      | (rw [decide_eq_true q'] at h5; exact absurd h5 (by decide))
      | (simp at h5; omega)
  cases hwl with
  | cons w1 w2 =>
    cases w2
    cases w1 with
    | list ho hall => exact ⟨_, _, ns, rfl, rfl, ho, ints_of_wellAll ns _ hall, hlen⟩

theorem post_true (l : OpenLaw) (args : List WData) : l.row.toRowW.claim.post args (.bool true) args = true :=
  postW_of (r := l.row.toRowW) (X := (true == true))
    (show WShape.has [] (.bool true) .bool = true by first | rfl | decide | simp [WShape.has, WShape.arms, WShape.armsAll])
    (show (WTm.eq .res (.lit (.bool true))).value [] { args := args, res := some (.bool true), after := args } = some (.bool (true == true)) from w_eq_bool (w_res rfl) w_lit) rfl

/-! ### the attachment: holds_open's last premise (the goal 'hc' behind k_head) from a wpAny of the law's body -/
/-- the same from a codeAny of the CALL (for a layer whose function contracts speak of calls) -/
theorem attach_call {l : OpenLaw} {n : Nat} {q : Program} {loose : List Str} {XP : (Str → Option Value) → Heap → Prop} {YP : World → Heap → Prop} {d : DefRec}
    (hn : l.most = some n) (hdf : d.params.defaults = [])
    (call : ∀ (w : World) (s₀ s₁ : Shared) (mg mb : Str → Option Value) (fa : Addr) (o : Obj) (pm cd doc : Value) (a : Addr) (vs : List Value) (ns : List Int),
      Ground q loose [] XP w s₀ mg mb s₁.heap → YP w s₁.heap →
      s₁.heap.get? fa = some o → o.data = .func (docDef d.name d.params d.body d.scope pm cd doc) → s₁.heap.CodeRec cd d.name → mg d.name = some (.ref fa) →
      s₁.heap.get? a = some { cls := .type "list", data := .seq vs.toArray } → IntsAre vs ns → ns.length ≤ n → s₁.gens = #[] →
      codeAny (model l.prog w) callerA (.call (.ref fa) ⟨[.ref a], []⟩) (fun r s' => r = .ok (.ret (.bool true)) ∧ OldK s₁.heap s'.heap ∧ s'.os = s₁.os ∧ AllBare s'.gens) s₁) :
    WalkO q loose XP YP l.row.toRowW d [] (fun f vs => PySem.call f vs) := by
  intro w s₀ s₁ mg mb G Y fa o pm cd doc dV kV ho hd hcd hD hmg hg args vals as hpre hlay hrd hwl hlo
  obtain rfl : dV = .none := Dflts.none hD hdf
  obtain rfl : kV = .none := Dflts.noKw hD
  obtain ⟨a, vs, ns, rfl, rfl, hobj, hints, hlen⟩ := script_of hn hpre hwl
  refine enter_call (codeAny_mono (call w s₀ s₁ mg mb fa o pm cd doc a vs ns G Y ho (fd_plain hd) hcd hmg hobj hints hlen hg) fun r s' hq => ?_)
  obtain ⟨rfl, h2, h3, h4⟩ := hq
  exact ⟨.inl ⟨.bool true, .bool true, [], rfl, fun _ => rfl, .bool true, post_true l _, fun _ => ⟨List.Pairwise.nil, fun _ hm => (nomatch hm)⟩⟩, h2, h3, h4⟩

/-! ### rules over ANY heap (no ledger) from facts about the written part K: the library's own take a ledger (News) for what they write -/
section
variable {prog : Program} {w : World} {A : Around} {E : Value → Shared → Prop} {s : Shared} {K : Frag}

/-! the whole heap as the ledger: makes every rule that writes through a ledger a rule over any heap -/
def ledger (h : Heap) (L d : Addr) : List (Addr × Obj) := (List.range h.objs.size).filterMap fun a => if a = L ∨ a = d then none else (h.get? a).map fun o => (a, o)
end
end Att

namespace L2
open PySem PySem.Spec PyProof.Rows

theorem vals_ints : ∀ {vs : List Value} {ns : List Int}, IntsAre vs ns → Vals (ns.map V.int) vs
  | _, _, .nil => .nil
  | _, _, .cons n t h => .cons ⟨t, rfl⟩ (vals_ints h)

/-- nothing is tracked but the script, known to the object (or it is an object of the module) -/
def Only (H : Hp) : Prop := ∀ b, H b = none ∨ ∃ o xs, H b = some (.frz o (.lst xs))

/-- THE HEAD: the law's promise, at the heap behind the top. F, the promise of the law's def, may use that base is part of the heap (so K.In base, base.Ns mainGlobals mg stand in Mod) -/
theorem law_call {P : Program} {w : World} {K : PySem.W.Frag} {mg mb : Str → Option Value} {CX : CXT} {k : Nat} {fa a : Addr} {fd : FuncData} {x : Str} {sp : Sp} {s₁ : Shared} {vs : List Value} {ns : List Int}
    (KX : K.In s₁.heap) (hns : s₁.heap.Ns mainGlobals mg) (hb : s₁.heap.Ns builtinsNs mb) (hbb : ∀ x : Str, x ≠ "__name__" → mb x = bootBuiltins x) (hlim : s₁.heap.NoLimit) (hg : s₁.gens = #[])
    (ha : s₁.heap.get? a = some { cls := .type "list", data := .seq vs.toArray }) (hi : IntsAre vs ns) (hl : ns.length ≤ sizeLine) (hr : Room k callerA)
    (F : ∀ base : Heap, K.In base → base.Ns mainGlobals mg → FnOk P w K mg base CX k fa fd [x] sp) (hbind : ∀ (s : Shared) (u : Value), BindsTo s fd ⟨[u], []⟩ [(x, u)])
    (hsp : ∀ H : Hp, Only H → SqL K H a (ns.map V.int) → sp [.ref a] H (fun v _ => v = .bl true) fun _ _ _ => False)
    (hCX : ∀ H e s', CX [] H s₁ (fun _ _ _ => False) e s' → False) :
    codeAny (model P w) callerA (.call (.ref fa) ⟨[.ref a], []⟩) (fun r s' => r = .ok (.ret (.bool true)) ∧ OldK s₁.heap s'.heap ∧ s'.os = s₁.os ∧ AllBare s'.gens) s₁ := by
  have rv := vals_ints hi
  have lenV := hi.length
  -- from an abstract heap in which nothing but the script may be tracked
  have core : ∀ H : Hp, Only H → SqL K H a (ns.map V.int) → HOk P w H s₁.heap → (∀ b, H b ≠ none → b = a) → (H a ≠ none → K.lookup a = none) →
      codeAny (model P w) callerA (.call (.ref fa) ⟨[.ref a], []⟩) (fun r s' => r = .ok (.ret (.bool true)) ∧ OldK s₁.heap s'.heap ∧ s'.os = s₁.os ∧ AllBare s'.gens) s₁ := by
    intro H hO hS hok hA hK
    have base_of : ∀ {b : Addr} {o : Obj}, s₁.heap.get? b = some o → H b = none → (hidT s₁.heap H).get? b = some o := fun e n => hidT_get e n
    have noA : ∀ {b : Addr} {o : Obj} {es : Array DictEntry} {ep : Nat}, s₁.heap.get? b = some o → o.data = .dict es ep → H b = none := fun {b o es ep} e d => by
      cases q : H b with
      | none => rfl
      | some u =>
        have e' : b = a := hA b (by rw [q]; simp)
        subst e'
        rw [ha] at e; cases e
        have d' : Data.seq vs.toArray _ = Data.dict es ep := d
        cases d'
    have nsK : ∀ {b : Addr} {m : Str → Option Value}, s₁.heap.Ns b m → (hidT s₁.heap H).Ns b m := fun {b m} ⟨o, es, ep, e, d, r⟩ => ⟨o, es, ep, base_of e (noA e d), d, r⟩
    have hKb : K.In (hidT s₁.heap H) := fun b o e => base_of (KX b o e) (by
      cases q : H b with
      | none => rfl
      | some u =>
        have e' : b = a := hA b (by rw [q]; simp)
        subst e'
        rw [hK (by rw [q]; simp)] at e; cases e)
    have hM : Mod K mg (hidT s₁.heap H) := ⟨hKb, nsK hns, ⟨mb, nsK hb, hbb⟩, let ⟨mc, h1, h2⟩ := hlim; ⟨mc, nsK h1, h2⟩⟩
    have e0 : Env0 P w K mg (hidT s₁.heap H) callerA [] s₁ H := ⟨rfl, hM, fun b o e => of_hidT e, Nat.le_of_eq (hidT_size _ _), trivial, fun b hb => absurd (show b ∈ ([] : List Addr) from hb) (by simp), hok, .of_eq hg⟩
    refine codeAny_mono ((F _ hKb (nsK hns)).run callerA [] s₁ H ⟨[.ref a], []⟩ [.ref a] [.ref a] _ _ hr e0 (hbind s₁ (.ref a)) (.cons rfl .nil) (hsp H hO hS)) fun r s' h => ?_
    cases r with
    | error e => exact (hCX H e s' h).elim
    | ok fl =>
      cases fl with
      | next => exact False.elim h
      | brk => exact False.elim h
      | cont => exact False.elim h
      | ret u =>
        obtain ⟨v, H', os, bare, un, hok', r', q⟩ := h
        have q' : v = .bl true := q
        subst q'
        obtain rfl : u = Value.bool true := r'
        refine ⟨rfl, OldK.of_keep fun b o e => ?_, os, bare⟩
        cases q : H b with
        | none => exact un.keep b o e q (by intro z; exact absurd (show b ∈ ([] : List Addr) from z) (by simp)) (by simp)
        | some u =>
          rcases hO b with z | ⟨ob, xs, z⟩
          · rw [q] at z; cases z
          · have z2 := un.frzs b ob _ z
            obtain ⟨e1, _⟩ := hok b _ z
            obtain ⟨e2, _⟩ := hok' b _ z2
            rw [e] at e1; cases e1
            exact e2
  cases hk : K.lookup a with
  | some o =>
    -- the script is one of the module's own objects
    have e := KX a o hk
    rw [ha] at e
    cases e
    refine core (fun _ => none) (fun _ => .inl rfl) (.inr ⟨_, vs.toArray, _, hk, rfl, rfl, rfl, by rw [List.size_toArray, lenV]; exact hl, by simpa using rv⟩) (fun b u z => by have z' : (none : Option HO) = some u := z; cases z') (fun b z => absurd rfl z) fun z => absurd rfl z
  | none =>
    refine core (fun b => if b = a then some (.frz { cls := .type "list", data := .seq vs.toArray } (.lst (ns.map V.int))) else none) (fun b => ?_) (.inl (.inr ⟨{ cls := .type "list", data := .seq vs.toArray }, if_pos rfl⟩)) (fun b u z => ?_) (fun b z => ?_) fun _ => hk
    · by_cases hb : b = a
      · exact .inr ⟨_, _, if_pos hb⟩
      · exact .inl (if_neg hb)
    · by_cases hb : b = a
      · have z' := (if_pos hb).symm.trans z
        cases z'
        subst hb
        exact ⟨ha, by rw [List.length_map]; exact hl, vs, _, rv, ha⟩
      · have z' := (if_neg hb).symm.trans z
        cases z'
    · by_cases hb : b = a
      · exact hb
      · exact absurd (if_neg hb) z
end L2

namespace L2
open PySem PySem.Spec PyProof.Rows

abbrev KOf {K : PySem.W.Frag} {h : Heap} (_ : K.In h) : PySem.W.Frag := K

/-- the goal that k_head leaves (case hc), from the law's promise. F gives the function object fd (K's own) once, then the promise over every base -/
theorem walk_of {l : PySem.W.OpenLaw} {n k : Nat} {q : Program} {loose : List Str} {XP : (Str → Option Value) → Heap → Prop} {YP : World → Heap → Prop} {d : DefRec} {K : Params → PySem.W.Frag} {CX : World → CXT} {sp : World → Sp} {x : Str}
    (hn : l.most = some n) (hn2 : n ≤ sizeLine) (hdf : d.params.defaults = []) (hr : Room k callerA)
    (hY : ∀ (w : World) (h : Heap), YP w h → (K w.params).In h)
    (F : ∀ (w : World) (mg : Str → Option Value) (fa : Addr) (h : Heap), (K w.params).In h → h.Ns mainGlobals mg → mg d.name = some (.ref fa) →
      ∃ fd : FuncData, (∀ (s : Shared) (u : Value), BindsTo s fd ⟨[u], []⟩ [(x, u)]) ∧
        ∀ base : Heap, (K w.params).In base → base.Ns mainGlobals mg → FnOk l.prog w (K w.params) mg base (CX w) k fa fd [x] (sp w))
    (hsp : ∀ (w : World) (H : Hp) (a : Addr) (ns : List Int), ns.length ≤ n → Only H → SqL (K w.params) H a (ns.map V.int) → sp w [.ref a] H (fun v _ => v = .bl true) fun _ _ _ => False)
    (hCX : ∀ (w : World) (H : Hp) (s : Shared) (e : Value) (s' : Shared), CX w [] H s (fun _ _ _ => False) e s' → False) :
    PySem.W.WalkO q loose XP YP l.row.toRowW d [] (fun f vs => PySem.call f vs) := by
  refine Att.attach_call hn hdf fun w s₀ s₁ mg mb fa o pm cd doc a vs ns G Y ho hd hcd hmg hobj hints hlen hg => ?_
  have KX := hY w _ Y
  obtain ⟨fd, hb, hF⟩ := F w mg fa _ KX G.T.g hmg
  exact law_call KX G.T.g G.T.b G.T.builtins G.T.nolimit hg hobj hints (Nat.le_trans hlen hn2) hr hF hb (fun H hO hS => hsp w H a ns hlen hO hS) fun H e s' => hCX w H s₁ e s'
end L2

/- THE LAST THEOREM (shape; LID, My.* are yours):
   My.Adr: a structure of the addresses that your layer names (classes, functions); My.Txt K t: a structure (Prop) of the equations over K;
   My.txt_mk : {K} {implicit addresses ..} (e1 : nsIn K mainGlobals "law" = some (some (.ref f))) (e2 : K.lookup f = some ⟨oc, od, .func (fnOf "law" "law" params body scope dV kV doc pm an cdv ct), sl⟩) (e3 : codeIn K cdv "law" = true) .. : ∃ t, My.Txt K t

set_option maxRecDepth 100000 in
set_option maxHeartbeats 0 in
theorem PySem.Challenge.cw_LID_holds : PySem.Challenge.rw_LID.Holds := by
  w_on; o_law; k_head; (case hw => w_witness2)
  k_fill
  refine L2.walk_of (l := PySem.Challenge.rw_LID) (n := 63) (k := 40) (x := "script") (CX := fun w => ..) (sp := fun _ => My.sp_law) rfl (by decide) rfl ⟨rfl, by decide, by decide⟩ (fun w h Y => PySem.W.kIn_of Y) ?F ?S ?C
  case F =>
    intro w mg fa h KX G hmg
    have T : ∃ t, My.Txt (L2.KOf KX) t := by
      dsimp only [L2.KOf]                          -- K must stand as «<heap const> w.params» for k_is
      refine' My.txt_mk ?e1 ?e2 ?e3 ..
      (case e1 => PySem.W.k_is)                    -- in the order: a name -> its address -> its object -> its parts
      (case e2 => PySem.W.k_is)
      ..
    obtain ⟨t, T⟩ := T
    have e0 := hmg.symm.trans (PySem.W.mg_of KX G T.law)
    cases e0                                       -- fa is the law's own address
    exact ⟨_, fun s u => .of_eq rfl, fun base kb nb => My.law_fn T kb nb⟩     -- if «.of_eq rfl» comes too early: refine' ⟨_, ?b, fun base kb nb => My.law_fn T kb nb⟩; exact fun s u => .of_eq rfl
  case S => exact fun w H a ns hl hO hS => ..
  case C => exact ..
(the tactic k_is has no namespace: write k_is) -/

/-! SHORT WORDS over the layer: a def of the text, its body, what a loop and a test want. -/
namespace L2
open PySem PySem.Spec PyProof.Rows

/-! ### the text by places -/
def defArgs (s : Stmt) : Arguments := match s with
  | .FunctionDef _ a _ _ _ _ _ _ _ _ => a
  | _ => { posonlyargs := [], args := [], vararg := none, kwonlyargs := [], kw_defaults := [], kwarg := none, defaults := [] }
def defBody (s : Stmt) : List Stmt := match s with
  | .FunctionDef _ _ b _ _ _ _ _ _ _ => b
  | _ => []
def defScope (s : Stmt) : Scope := match s with
  | .FunctionDef _ _ _ _ _ _ sc _ _ _ => sc
  | _ => { kind := .function, names := [], isGenerator := false, isCoroutine := false }

/-! ### no exception leaves a def -/
abbrev CX0 : CXT := fun _ _ _ _ _ _ => False
abbrev E0 : XK := fun _ _ _ => False
theorem pass0 {X : Cx} : Passes CX0 X E0 := fun _ _ _ _ _ _ _ h => h.elim

/-! ### a def (or method) of the text as it stands behind the top -/
structure Fun (K : PySem.W.Frag) (x qual : Str) (st : Stmt) (f : Addr) (fd : FuncData) : Prop where
  ex : ∃ (oc : Value) (od : Option Addr) (kV doc pm : Value) (an : Option Addr) (cdv ct : Value) (osl : Array (Option Value)),
    fd = PySem.W.fnOf x qual (defArgs st) (defBody st) (defScope st) .none kV doc pm an cdv ct ∧ K.lookup f = some ⟨oc, od, .func fd, osl⟩ ∧ PySem.W.codeIn K cdv qual = true
  kp : PySem.W.keepIn K (.ref f) = true
section
variable {P : Program} {w : World} {K : PySem.W.Frag} {mg : Str → Option Value} {base : Heap}
/-- THE RULE for a def: its body as a term of rules, and the reading of that term -/
theorem Fun.ok {x qual : Str} {st : Stmt} {f : Addr} {fd : FuncData} {N ps : List Str} {k : Nat} {sp : Sp} (F : Fun K x qual st f fd) (S : FnScope N ps (defScope st)) (len : ∀ vs H Q E, sp vs H Q E → vs.length = ps.length)
    (hbody : ∀ (cdv : Value) (A : Around) (outer : List Env) (s : Shared) (H : Hp) (vs : List V) (Q : VK) (E : XK), Room k (A.deeper (envOfC qual (defScope st) s.heap.objs.size f cdv)) → sp vs H Q E →
      ∃ t, PSs (cxOf CX0 P w K mg base N qual (defScope st) f cdv A outer s H E).nox (defBody st) t ∧ t { nx := fun _ H' => Q .non H', rt := Q } (start N vs) H) : FnOk P w K mg base CX0 (k + 1) f fd ps sp := by
  obtain ⟨oc, od, kV, doc, pm, an, cdv, ct, osl, rfl, lk, hcd⟩ := F.ex
  refine fn_of lk hcd S len fun A outer s H vs Q E hr hsp => ?_
  obtain ⟨t, h, q⟩ := hbody cdv A outer s H vs Q E hr hsp
  exact ⟨t, h.nox, q⟩
/-- how its arguments bind (no defaults): h is «fun _ _ _ _ _ _ us hl => match us, hl with | [_, _], _ => rfl», one _ a parameter -/
theorem Fun.binds {x qual : Str} {st : Stmt} {f : Addr} {fd : FuncData} {ps : List Str} (F : Fun K x qual st f fd)
    (h : ∀ (kV doc pm : Value) (an : Option Addr) (cdv ct : Value) (us : List Value), us.length = ps.length → bindArgs (PySem.W.fnOf x qual (defArgs st) (defBody st) (defScope st) .none kV doc pm an cdv ct) ⟨us, []⟩ = pure (ps.zip us)) : Binds K fd ps [] := by
  obtain ⟨oc, od, kV, doc, pm, an, cdv, ct, osl, rfl, lk, hcd⟩ := F.ex
  exact .all (h kV doc pm an cdv ct)
theorem fun_mk {x qual : Str} {st : Stmt} {f : Addr} {oc : Value} {od an : Option Addr} {osl : Array (Option Value)} {kV doc pm cdv ct : Value} (l : K.lookup f = some ⟨oc, od, .func (PySem.W.fnOf x qual (defArgs st) (defBody st) (defScope st) .none kV doc pm an cdv ct), osl⟩)
    (c : PySem.W.codeIn K cdv qual = true) (k : PySem.W.keepIn K (.ref f) = true) : Fun K x qual st f (PySem.W.fnOf x qual (defArgs st) (defBody st) (defScope st) .none kV doc pm an cdv ct) := ⟨⟨oc, od, kV, doc, pm, an, cdv, ct, osl, rfl, l, c⟩, k⟩
end
/-! ### expressions in short: the name that stands in the i-th slot -/
section
variable {X : Cx}
theorem pv (i : Nat) {x : Str} {pos : Pos} (hN : X.N[i]? = some x := by rfl) (hv : Vis X.env.scope x := by first | exact Or.inl rfl | exact Or.inr (Or.inl rfl) | exact Or.inr (Or.inr rfl)) (hd : (x == ("__debug__" : Str)) = false := by decide)
    (hcd : (x == ("__classdict__" : Str)) = false := by decide) : PE X (.Name x pos) (tVar i) := pe_var hN hv hd hcd
end

/-! ### tests -/
theorem iteF {A B : Prop} (h : B) : if false = true then A else B := by
  rw [if_neg Bool.false_ne_true]
  exact h
theorem iteT {A B : Prop} (h : A) : if true = true then A else B := by
  rw [if_pos rfl]
  exact h
theorem ite2 {c A B : Prop} [Decidable c] (h1 : c → A) (h2 : ¬ c → B) : if c then A else B := by
  by_cases h : c
  · rw [if_pos h]
    exact h1 h
  · rw [if_neg h]
    exact h2 h
/-! ### heaps -/
/-- all that was tracked is as it was -/
def Same (H H' : Hp) : Prop := ∀ b o, H b = some o → H' b = some o
theorem Same.refl (H : Hp) : Same H H := fun _ _ h => h
theorem Same.trans {H H1 H2 : Hp} (a : Same H H1) (b : Same H1 H2) : Same H H2 := fun c o h => b c o (a c o h)
theorem Same.free {H H' : Hp} (e : Same H H') {l : Addr} (h : H' l = Option.none) : H l = Option.none := by
  cases q : H l with
  | none => rfl
  | some o =>
    rw [e l o q] at h
    cases h
theorem Same.seq {K : PySem.W.Frag} {H H' : Hp} {a : Addr} {xs : List V} (e : Same H H') (h : SqL K H a xs) : SqL K H' a xs := by
  rcases h with (h | ⟨o, h⟩) | h
  · exact .inl (.inl (e _ _ h))
  · exact .inl (.inr ⟨o, e _ _ h⟩)
  · exact .inr h

end L2

set_option Elab.async false
set_option linter.all false
set_option maxRecDepth 100000
namespace L2
open PySem PySem.Spec PyProof.Rows

/-! ### wide ints -/
def Wd (i : Int) : Prop := i.natAbs < 2 ^ 5000
theorem Wd.log {i : Int} (h : Wd i) : i.natAbs.log2 < 9000 := by
  by_cases e : i.natAbs = 0
  · rw [e]; decide
  · have h1 : i.natAbs.log2 < 5000 := (Nat.log2_lt e).mpr h
    omega
section
variable {X : Cx}
theorem op_fdivW : OpR X (binaryOp .FloorDiv) (rI (fun _ j => 0 < j ∧ Wd j) fun i j => .int (i / j)) := opI fun i j _ _ _ _ _ hc q => by
  have h1 : (0 : Int) < j := hc.1
  exact floordiv_int (by omega) (by rw [Int.fdiv_eq_ediv_of_nonneg i (by omega)]; exact q) (.inl (PyProof.noPylong_of_log2 hc.2.log))
theorem op_fdivNW : OpR X (binaryOp .FloorDiv) (rI (fun _ j => j ≠ 0 ∧ Wd j) fun i j => .int (i.fdiv j)) := opI fun _ _ _ _ _ _ _ hc q => floordiv_int hc.1 q (.inl (PyProof.noPylong_of_log2 hc.2.log))
end

/-! ### isinstance -/
/-- the name of a value's type -/
def TyN (K : PySem.W.Frag) (H : Hp) (x : V) (T : String) : Prop :=
  match x with
  | .non => T = "NoneType"
  | .bl _ => T = "bool"
  | .int _ => T = "int"
  | .str _ => T = "str"
  | .ref a => (T = "list" ∧ ∃ xs, SqL K H a xs) ∨ (T = "tuple" ∧ ∃ xs, SqT K H a xs)
  | _ => False
def tyIs (T n : String) : Bool := T == n || (T == "bool" && n == "int")
def tyNames : List String := ["NoneType", "bool", "int", "str", "list", "tuple"]
def tyWords : List String := ["bool", "int", "str", "list", "tuple"]
theorem kit_ty {K : PySem.W.Frag} {T n : String} (h1 : T ∈ tyNames) (h2 : n ∈ tyWords) : PySem.W.kitOne K (.type T) (.type n) = some (tyIs T n) := by
  have all : tyNames.all (fun T => tyWords.all fun n => PySem.W.kitOne [] (.type T) (.type n) == some (tyIs T n)) = true := by decide +kernel
  have a1 := List.all_eq_true.mp all T h1
  have a2 := List.all_eq_true.mp a1 n h2
  have e : PySem.W.kitOne K (.type T) (.type n) = PySem.W.kitOne [] (.type T) (.type n) := by
    unfold PySem.W.kitOne PySem.W.kitCls PySem.W.subIn
    rfl
  rw [e]
  exact beq_iff_eq.mp a2
section
variable {X : Cx}
theorem TyN.mem {K : PySem.W.Frag} {H : Hp} {x : V} {T : String} (h : TyN K H x T) : T ∈ tyNames := by
  cases x with
  | non => cases (show T = "NoneType" from h); decide
  | bl b => cases (show T = "bool" from h); decide
  | int b => cases (show T = "int" from h); decide
  | str b => cases (show T = "str" from h); decide
  | ref a => rcases (show (T = "list" ∧ ∃ xs, SqL K H a xs) ∨ (T = "tuple" ∧ ∃ xs, SqT K H a xs) from h) with ⟨e, _⟩ | ⟨e, _⟩ <;> cases e <;> decide
  | _ => exact (show False from h).elim
theorem kit_of {pins : List (Addr × Obj)} {s : Shared} {σ : St} {H : Hp} {x : V} {u : Value} {T : String} (I : Inv X pins σ H s) (rx : RelV x u) (ty : TyN X.K H x T) :
    ∃ P : Heap → Prop, PySem.W.KitX X.K u (.type T) P ∧ P s.heap ∧ u ≠ .builtin "__main__.__loader__#opaque" := by
  cases x with
  | non => cases (show T = "NoneType" from ty); cases (show u = Value.none from rx); exact ⟨_, PySem.W.kitx_none, True.intro, fun z => nomatch z⟩
  | bl b => cases (show T = "bool" from ty); cases (show u = Value.bool b from rx); exact ⟨_, PySem.W.kitx_bool, True.intro, fun z => nomatch z⟩
  | int b => cases (show T = "int" from ty); obtain ⟨t, q⟩ := (show ∃ t, u = Value.int b t from rx); cases q; exact ⟨_, PySem.W.kitx_int, True.intro, fun z => nomatch z⟩
  | str b => cases (show T = "str" from ty); obtain ⟨t, q⟩ := (show ∃ t, u = Value.str b t from rx); cases q; exact ⟨_, PySem.W.kitx_str, True.intro, fun z => nomatch z⟩
  | ref a =>
    cases (show u = Value.ref a from rx)
    rcases (show (T = "list" ∧ ∃ xs, SqL X.K H a xs) ∨ (T = "tuple" ∧ ∃ xs, SqT X.K H a xs) from ty) with ⟨e, xs, hx⟩ | ⟨e, xs, hx⟩
    · cases e
      obtain ⟨its, r, ⟨o, n, h1, h2, _⟩, _⟩ := I.list hx
      exact ⟨_, PySem.W.kitx_list, ⟨o, h1, h2⟩, fun z => nomatch z⟩
    · cases e
      obtain ⟨its, r, ⟨o, h1, h2, _⟩, _⟩ := I.tuple hx
      exact ⟨_, PySem.W.kitx_tuple, ⟨o, h1, h2⟩, fun z => nomatch z⟩
  | _ => exact (show False from ty).elim
def rIsi (K : PySem.W.Frag) : List V → Hp → VK → Prop := fun xs H Q => ∃ x T n b, xs = [x, .ty n] ∧ TyN K H x T ∧ n ∈ tyWords ∧ tyIs T n = b ∧ Q (.bl b) H
theorem call_isi : CallR X (.builtin "isinstance") (rIsi X.K) := by
  intro pins s σ H xs us Q I r h
  obtain ⟨x, T, n, b, rfl, ty, hn, rfl, q⟩ := h
  obtain ⟨u, c, rfl, rx, rc⟩ := vals2 r
  cases (show c = Value.type n from rc)
  obtain ⟨P, Z, p, hx⟩ := kit_of I rx ty
  exact PySem.W.kia_one Z I.kIn p (kit_ty ty.mem hn) hx fun tk => ⟨.bl (tyIs T n), H, I.tok _, rfl, q⟩
/-- isinstance(x, (A, B)) -/
def rIsiT (K : PySem.W.Frag) : List V → Hp → VK → Prop := fun xs H Q => ∃ (x : V) (T : String) (p : Addr) (ns : List String) (b : Bool), xs = [x, .ref p] ∧ H p = some (.tup (ns.map V.ty)) ∧ TyN K H x T ∧ (∀ n ∈ ns, n ∈ tyWords) ∧ ns.any (tyIs T) = b ∧ Q (.bl b) H
theorem kit_tys {K : PySem.W.Frag} {T : String} (h1 : T ∈ tyNames) : ∀ {ns : List String}, (∀ n ∈ ns, n ∈ tyWords) → PySem.W.kitAny K (.type T) (ns.map Value.type) = some (ns.any (tyIs T))
  | [], _ => rfl
  | n :: r, h => by
    have e := kit_ty (K := K) h1 (h n (List.mem_cons_self ..))
    have ih := kit_tys (K := K) h1 (ns := r) fun m hm => h m (List.mem_cons_of_mem _ hm)
    rw [List.map_cons, PySem.W.kitAny, e, List.any_cons]
    cases tyIs T n with
    | true => rfl
    | false => simpa using ih
theorem vals_ty : ∀ {ns : List String} {us : List Value}, Vals (ns.map V.ty) us → us = ns.map Value.type
  | [], _, .nil => rfl
  | n :: r, _, .cons q t => by
    cases (show _ = Value.type n from q)
    rw [vals_ty t]; rfl
theorem call_isiT : CallR X (.builtin "isinstance") (rIsiT X.K) := by
  intro pins s σ H xs us Q I r h
  obtain ⟨x, T, p, ns, b, rfl, hp, ty, hn, rfl, q⟩ := h
  obtain ⟨u, c, rfl, rx, rc⟩ := vals2 r
  cases (show c = Value.ref p from rc)
  obtain ⟨P, Z, pp, hx⟩ := kit_of I rx ty
  obtain ⟨_, its, rv, ⟨cls, dd, dt, sl⟩, h1, h2, n, h3⟩ := (show ObjOk X.prog X.w H s.heap p (.tup (ns.map V.ty)) from I.hok p _ hp)
  simp only at h2 h3
  subst h2 h3
  have e := vals_ty rv
  subst e
  exact PySem.W.kia_tup Z I.kIn pp h1 (kit_tys ty.mem hn) hx fun tk => ⟨.bl _, H, I.tok _, rfl, q⟩
end

/-! ### data, and == of data -/
mutual
/-- the value x stands for the datum d -/
def RD (K : PySem.W.Frag) (H : Hp) : V → PyData → Prop
  | x, .none => x = .non
  | x, .bool b => x = .bl b
  | x, .int i => x = .int i
  | x, .str y => x = .str y
  | x, .list ds => ∃ a xs, x = .ref a ∧ SqL K H a xs ∧ RDs K H xs ds
  | x, .tuple ds => ∃ a xs, x = .ref a ∧ SqT K H a xs ∧ RDs K H xs ds
  | _, .dict _ => False
def RDs (K : PySem.W.Frag) (H : Hp) : List V → List PyData → Prop
  | xs, [] => xs = []
  | xs, d :: ds => ∃ y ys, xs = y :: ys ∧ RD K H y d ∧ RDs K H ys ds
end
section
variable {X : Cx}
mutual
theorem RD.reads {pins : List (Addr × Obj)} {s : Shared} {σ : St} {H : Hp} (I : Inv X pins σ H s) : ∀ {x : V} {u : Value} (d : PyData), RelV x u → RD X.K H x d → ∃ as, Reads s.heap u d as
  | x, u, .none, r, h => by cases (show x = .non from by simpa [RD] using h); cases (show u = Value.none from r); exact ⟨_, .none⟩
  | x, u, .bool b, r, h => by cases (show x = .bl b from by simpa [RD] using h); cases (show u = Value.bool b from r); exact ⟨_, .bool b⟩
  | x, u, .int i, r, h => by cases (show x = .int i from by simpa [RD] using h); obtain ⟨t, q⟩ := (show ∃ t, u = Value.int i t from r); cases q; exact ⟨_, .int i t⟩
  | x, u, .str y, r, h => by cases (show x = .str y from by simpa [RD] using h); obtain ⟨t, q⟩ := (show ∃ t, u = Value.str y t from r); cases q; exact ⟨_, .str y t⟩
  | x, u, .list ds, r, h => by
    rw [RD] at h
    obtain ⟨a, xs, rfl, hx, hd⟩ := h
    cases (show u = Value.ref a from r)
    obtain ⟨its, rv, ⟨o, n, h1, h2, h3, h4⟩, _⟩ := I.list hx
    obtain ⟨as, q⟩ := RDs.reads I ds rv hd
    exact ⟨_, .list h1 h2 h4 (by simpa using q)⟩
  | x, u, .tuple ds, r, h => by
    rw [RD] at h
    obtain ⟨a, xs, rfl, hx, hd⟩ := h
    cases (show u = Value.ref a from r)
    obtain ⟨its, rv, ⟨o, h1, h2, n, h4⟩, _⟩ := I.tuple hx
    obtain ⟨as, q⟩ := RDs.reads I ds rv hd
    exact ⟨_, .tuple h1 h2 h4 (by simpa using q)⟩
  | x, u, .dict _, r, h => by simp [RD] at h
theorem RDs.reads {pins : List (Addr × Obj)} {s : Shared} {σ : St} {H : Hp} (I : Inv X pins σ H s) : ∀ {xs : List V} {us : List Value} (ds : List PyData), Vals xs us → RDs X.K H xs ds → ∃ as, ReadsAll s.heap us ds as
  | xs, us, [], r, h => by
    cases (show xs = [] from by simpa [RDs] using h)
    cases r
    exact ⟨_, .nil⟩
  | xs, us, d :: ds, r, h => by
    rw [RDs] at h
    obtain ⟨y, ys, rfl, h1, h2⟩ := h
    cases r with
    | cons ra rb =>
      obtain ⟨as, q⟩ := RD.reads I d ra h1
      obtain ⟨bs, q'⟩ := RDs.reads I ds rb h2
      exact ⟨_, .cons q q'⟩
end
def rEqD (K : PySem.W.Frag) : R2 := fun x y H Q => ∃ d e, RD K H x d ∧ RD K H y e ∧ SeqAt.shaped d = true ∧ SeqAt.shaped e = true ∧ Q (.bl (PyData.eqv d e)) H
def rNeD (K : PySem.W.Frag) : R2 := fun x y H Q => ∃ d e, RD K H x d ∧ RD K H y e ∧ SeqAt.shaped d = true ∧ SeqAt.shaped e = true ∧ Q (.bl (!PyData.eqv d e)) H
theorem op_eqD (hu : X.A.units + 64 < cLine) : OpR X (compareOp .Eq) (rEqD X.K) := by
  intro pins s σ H x y v u Q I rx ry h
  obtain ⟨d, e, hd, he, sd, se, q⟩ := h
  obtain ⟨as, ra⟩ := RD.reads I d rx hd
  obtain ⟨bs, rb⟩ := RD.reads I e ry he
  exact eq_dataH ra rb sd se hu ⟨.bl _, H, I, rfl, q⟩
theorem op_neD (hu : X.A.units + 64 < cLine) : OpR X (compareOp .NotEq) (rNeD X.K) := by
  intro pins s σ H x y v u Q I rx ry h
  obtain ⟨d, e, hd, he, sd, se, q⟩ := h
  obtain ⟨as, ra⟩ := RD.reads I d rx hd
  obtain ⟨bs, rb⟩ := RD.reads I e ry he
  exact ne_dataH ra rb sd se hu ⟨.bl _, H, I, rfl, q⟩
end
end L2


set_option Elab.async false
set_option linter.all false
set_option maxRecDepth 100000
namespace L2
open PySem PySem.Spec PyProof.Rows

/-! ### a new object -/
theorem Same.new {H : Hp} {t : Addr} {o : HO} (ht : H t = none) : Same H (upd H t o) := fun b o' e => by rw [upd_ne (ne_of_none e ht)]; exact e
structure Nw (H H' : Hp) (p : Addr) (o : HO) : Prop where
  no : H p = none
  at' : H' p = some o
  same : Same H H'
  eq : H' = upd H p o
theorem Nw.of {H : Hp} {p : Addr} {o : HO} (h : H p = none) : Nw H (upd H p o) p o := ⟨h, upd_same, .new h, rfl⟩
/-! ### the builtins are not hidden by the text -/
def bltNames : List Str := ["len", "abs", "min", "max", "range", "isinstance", "int", "bool", "str", "tuple", "list", "any", "all", "sum", "zip", "enumerate", "sorted", "reversed", "ord", "chr", "divmod", "repr", "dict", "set"]
def Blt (mg : Str → Option Value) : Prop := ∀ x ∈ bltNames, mg x = none
theorem Blt.at {mg : Str → Option Value} (B : Blt mg) (x : Str) (h : x ∈ bltNames := by decide) : mg x = none := B x h

/-! ### a def of the text, and its promise, in one word -/
structure FA (K : PySem.W.Frag) (mg : Str → Option Value) (x : Str) (st : Stmt) : Prop where
  ex : ∃ f fd, mg x = some (.ref f) ∧ Fun K x x st f fd
def FnHas (P : Program) (w : World) (K : PySem.W.Frag) (mg : Str → Option Value) (base : Heap) (x : Str) (k : Nat) (sp : Sp) : Prop :=
  ∃ f fd ps, FnOk P w K mg base CX0 k f fd ps sp ∧ mg x = some (.ref f) ∧ PySem.W.keepIn K (.ref f) = true ∧ Binds K fd ps []
section
variable {P : Program} {w : World} {K : PySem.W.Frag} {mg : Str → Option Value} {base : Heap}
theorem fa_mk {h : Heap} {x : Str} {st : Stmt} {f : Addr} {oc : Value} {od an : Option Addr} {osl : Array (Option Value)} {kV doc pm cdv ct : Value} (X : K.In h) (G : h.Ns mainGlobals mg)
    (a : PySem.W.nsIn K mainGlobals x = some (some (.ref f)))
    (l : K.lookup f = some ⟨oc, od, .func (PySem.W.fnOf x x (defArgs st) (defBody st) (defScope st) .none kV doc pm an cdv ct), osl⟩)
    (c : PySem.W.codeIn K cdv x = true) (k : PySem.W.keepIn K (.ref f) = true) : FA K mg x st :=
  ⟨f, _, PySem.W.mg_of X G a, fun_mk l c k⟩
theorem FA.has {x : Str} {st : Stmt} {N ps : List Str} {k : Nat} {sp : Sp} (F : FA K mg x st) (S : FnScope N ps (defScope st)) (len : ∀ vs H Q E, sp vs H Q E → vs.length = ps.length)
    (hb : ∀ (kV doc pm : Value) (an : Option Addr) (cdv ct : Value) (us : List Value), us.length = ps.length → bindArgs (PySem.W.fnOf x x (defArgs st) (defBody st) (defScope st) .none kV doc pm an cdv ct) ⟨us, []⟩ = pure (ps.zip us))
    (hbody : ∀ (f : Addr) (cdv : Value) (A : Around) (outer : List Env) (s : Shared) (H : Hp) (vs : List V) (Q : VK) (E : XK), Room k (A.deeper (envOfC x (defScope st) s.heap.objs.size f cdv)) → sp vs H Q E →
      ∃ t, PSs (cxOf CX0 P w K mg base N x (defScope st) f cdv A outer s H E).nox (defBody st) t ∧ t { nx := fun _ H' => Q .non H', rt := Q } (start N vs) H) : FnHas P w K mg base x (k + 1) sp := by
  obtain ⟨f, fd, hm, F⟩ := F.ex
  exact ⟨f, fd, ps, F.ok S len fun cdv A outer s H vs Q E => hbody f cdv A outer s H vs Q E, hm, F.kp, F.binds hb⟩
theorem FnHas.imp {x : Str} {k : Nat} {sp sp' : Sp} (F : FnHas P w K mg base x k sp) (h : ∀ vs H Q E, sp' vs H Q E → sp vs H Q E) : FnHas P w K mg base x k sp' := by
  obtain ⟨f, fd, ps, F, r⟩ := F
  exact ⟨f, fd, ps, F.imp h, r⟩
end
section
variable {X : Cx} {k : Nat} {x : Str} {p pos : Pos} {e : Expr} {es : List Expr} {t : TA} {sp : Sp}
def tFn (sp : Sp) (t : TA) : TE := fun σ H Q => t σ H fun vs H1 => sp vs H1 Q E0
theorem pe_fn (F : FnHas X.prog X.w X.K X.mg X.base x k sp) (hr : Room k X.A) (hg : Gl X x) (ha : PA X (e :: es) t) (hdb : (x == ("__debug__" : Str)) = false := by decide)
    (he : starEach (e :: es) X.env = (false, eval e X.env) :: starEach es X.env := by rfl) (hpl : (backTo pos (starEach es X.env)).any (·.1) = false := by rfl) :
    PE X (.Call (.Name x p) (e :: es) [] pos) (tFn sp t) := by
  obtain ⟨f, fd, ps, F, hm, hk, hb⟩ := F
  have h := pe_call (pos := pos) (p := p) F hr hg hm hk hb .nil pass0 ha hdb he hpl
  intro pins s σ H Q I hq
  refine h pins s σ H Q I ?_
  have e1 : (fun (vs : List V) H1 => sp (vs ++ []) H1 Q E0) = fun vs H1 => sp vs H1 Q E0 := by
    funext vs H1; rw [List.append_nil]
  show t σ H fun vs H1 => sp (vs ++ []) H1 Q E0
  rw [e1]
  exact hq
/-- a product, by what the machine asks -/
theorem op_mulG : OpR X (binaryOp .Mult) (rI (fun i j => IntMulOk i j) fun i j => .int (i * j)) := opI fun _ _ _ _ _ _ _ hc q => mul_int q hc
theorem op_eqI : OpR X (compareOp .Eq) (rI0 fun i j => .bl (decide (i = j))) := opB0 fun _ _ _ _ _ _ _ q => eq_int (by rw [Bool.beq_eq_decide_eq]; exact q)
theorem op_neI : OpR X (compareOp .NotEq) (rI0 fun i j => .bl (!decide (i = j))) := opB0 fun _ _ _ _ _ _ _ q => ne_int (by rw [bne, Bool.beq_eq_decide_eq]; exact q)
theorem op_eqA (hu : X.A.units + 64 < cLine) : OpR X (compareOp .Eq) (fun x y H Q => rI0 (fun i j => .bl (decide (i = j))) x y H Q ∨ rEqD X.K x y H Q) := op_eqI.or (op_eqD hu)
theorem op_neA (hu : X.A.units + 64 < cLine) : OpR X (compareOp .NotEq) (fun x y H Q => rI0 (fun i j => .bl (!decide (i = j))) x y H Q ∨ rNeD X.K x y H Q) := op_neI.or (op_neD hu)
mutual
theorem eqv_refl : ∀ d : PyData, d.canLay0 = true → PyData.eqv d d = true
  | .none, _ => by simp [PyData.eqv]
  | .bool b, _ => by simp [PyData.eqv]
  | .int i, _ => by simp [PyData.eqv]
  | .str x, _ => by simp [PyData.eqv]
  | .list ds, h => by simp only [PyData.eqv]; exact eqvAll_refl ds (by simpa [PyData.canLay0] using h)
  | .tuple ds, h => by simp only [PyData.eqv]; exact eqvAll_refl ds (by simpa [PyData.canLay0] using h)
  | .dict _, h => by simp [PyData.canLay0] at h
theorem eqvAll_refl : ∀ ds : List PyData, PyData.canLayAll0 ds = true → PyData.eqvAll ds ds = true
  | [], _ => by simp [PyData.eqvAll]
  | d :: ds, h => by
    simp only [PyData.canLayAll0, Bool.and_eq_true] at h
    simp only [PyData.eqvAll, Bool.and_eq_true]
    exact ⟨eqv_refl d h.1, eqvAll_refl ds h.2⟩
end
theorem rd_bl {K : PySem.W.Frag} {H : Hp} (b : Bool) : RD K H (.bl b) (.bool b) := by simp [RD]
theorem rd_int {K : PySem.W.Frag} {H : Hp} (i : Int) : RD K H (.int i) (.int i) := by simp [RD]
theorem rd_str {K : PySem.W.Frag} {H : Hp} (x : Str) : RD K H (.str x) (.str x) := by simp [RD]
theorem rd_tup {K : PySem.W.Frag} {H : Hp} {p : Addr} {xs : List V} {ds : List PyData} (h : SqT K H p xs) (r : RDs K H xs ds) : RD K H (.ref p) (.tuple ds) := by rw [RD]; exact ⟨p, xs, rfl, h, r⟩
theorem rds_nil {K : PySem.W.Frag} {H : Hp} : RDs K H [] [] := by simp [RDs]
theorem rds_cons {K : PySem.W.Frag} {H : Hp} {x : V} {xs : List V} {d : PyData} {ds : List PyData} (h : RD K H x d) (r : RDs K H xs ds) : RDs K H (x :: xs) (d :: ds) := by rw [RDs]; exact ⟨x, xs, rfl, h, r⟩
/-- a word between two statements -/
def tMid (t : TS) : TS := fun D σ H => ∃ Mid : St → Hp → Prop, t { D with nx := Mid } σ H ∧ ∀ σ' H', Mid σ' H' → D.nx σ' H'
theorem ps_mid {st : Stmt} {t : TS} (h : PS X st t) : PS X st (tMid t) := by
  intro pins s σ H D I hq
  obtain ⟨Mid, q, m⟩ := hq
  refine thn (h pins s σ H _ I q) fun f s1 q1 => ?_
  cases f with
  | next => obtain ⟨σ', H', I', q'⟩ := q1; exact ⟨σ', H', I', m _ _ q'⟩
  | brk => exact q1
  | cont => exact q1
  | ret u => exact q1
end
end L2
namespace L2
open PySem PySem.Spec PyProof.Rows
def NoG (K : PySem.W.Frag) (xs : List Str) : Prop := ∀ x ∈ xs, PySem.W.nsIn K mainGlobals x = some none
theorem NoG.nil {K : PySem.W.Frag} : NoG K [] := fun _ h => nomatch h
theorem NoG.cons {K : PySem.W.Frag} {x : Str} {xs : List Str} (a : PySem.W.nsIn K mainGlobals x = some none) (r : NoG K xs) : NoG K (x :: xs) := fun y hy => by
  rcases List.mem_cons.mp hy with e | e
  · rw [e]; exact a
  · exact r y e
theorem blt_mk {K : PySem.W.Frag} {mg : Str → Option Value} {h : Heap} (X : K.In h) (G : h.Ns mainGlobals mg) (a : NoG K bltNames) : Blt mg := fun x hx =>
  PySem.W.mg_none_of X G (a x hx)
/-- the law's own promise, from all that the top has written -/
theorem law_walk {l : PySem.W.OpenLaw} {q : Program} {loose : List Str} {XP : (Str → Option Value) → Heap → Prop} {YP : World → Heap → Prop} {d : DefRec} {K : Params → PySem.W.Frag} {k : Nat} {x : Str} {st : Stmt} (hn : l.most = some 63) (hdf : d.params.defaults = [])
    (hr : Room k callerA) (hY : ∀ (w : World) (h : Heap), YP w h → (K w.params).In h) (All : PySem.W.Frag → (Str → Option Value) → Prop)
    (F : ∀ (w : World) (mg : Str → Option Value) (h : Heap), (K w.params).In h → h.Ns mainGlobals mg → All (K w.params) mg)
    (L : ∀ (K : PySem.W.Frag) (mg : Str → Option Value), All K mg → FA K mg d.name st)
    (hb : ∀ (kV doc pm : Value) (an : Option Addr) (cdv ct u : Value), bindArgs (PySem.W.fnOf d.name d.name (defArgs st) (defBody st) (defScope st) .none kV doc pm an cdv ct) ⟨[u], []⟩ = pure [(x, u)])
    (ok : ∀ (P : Program) (w : World) (K : PySem.W.Frag) (mg : Str → Option Value) (base : Heap) (f : Addr) (fd : FuncData), All K mg → Fun K d.name d.name st f fd → FnOk P w K mg base CX0 k f fd [x]
      (fun vs H Q _ => ∃ (a : Addr) (ns : List Int), vs = [.ref a] ∧ SqL K H a (ns.map V.int) ∧ ns.length ≤ 63 ∧ ∀ H', Q (.bl true) H')) :
    PySem.W.WalkO q loose XP YP l.row.toRowW d [] (fun f vs => PySem.call f vs) :=
  L2.walk_of (n := 63) (k := k) (x := x) (CX := fun _ => CX0) (sp := fun w => fun vs H Q _ => ∃ (a : Addr) (ns : List Int), vs = [.ref a] ∧ SqL (K w.params) H a (ns.map V.int) ∧ ns.length ≤ 63 ∧ ∀ H', Q (.bl true) H') hn (by decide) hdf hr hY
    (fun w mg fa h KX G hmg => by
      have A := F w mg h KX G
      obtain ⟨f, fd, hm, Fn⟩ := (L _ _ A).ex
      have e : fa = f := by
        rw [hmg] at hm
        injection (Option.some.inj hm)
      subst e
      refine ⟨fd, fun s u => ?_, fun base _ _ => ok l.prog w _ mg base fa fd A Fn⟩
      obtain ⟨oc, od, kV, doc, pm, an, cdv, ct, osl, rfl, lk, hcd⟩ := Fn.ex
      exact .of_eq (hb kV doc pm an cdv ct u))
    (fun _ _ a ns hl _ hS => ⟨a, ns, rfl, hS, hl, fun _ => rfl⟩) fun _ _ _ _ _ z => z
end L2


set_option Elab.async false
set_option linter.all false
set_option maxRecDepth 100000
namespace L2
open PySem PySem.Spec PyProof.Rows

/-! ### a list comprehension of one clause -/
/-- the closure of a block -/
theorem closure_ok {env : Env} : ∀ (ns : List (Str × NameKind)) (cs : List (Str × Addr)), (∀ x ∈ ns, x.2 = .free → ∃ c, env.cells.lookup x.1 = some c) → (∀ x c, cs.lookup x = some c → env.cells.lookup x = some c) →
    ∃ cl, (forIn ns cs (fun x r => if (x.2 == NameKind.free) = true then do let a ← cellOf env x.1; pure (ForInStep.yield ((x.1, a) :: r)) else pure (ForInStep.yield r)) : Sem (List (Str × Addr))) = pure cl ∧
      (∀ x c, cl.lookup x = some c → env.cells.lookup x = some c) ∧ (∀ x c, cs.lookup x = some c → ∃ c', cl.lookup x = some c') ∧ ∀ x ∈ ns, x.2 = .free → ∃ c, cl.lookup x.1 = some c
  | [], cs, _, h2 => ⟨cs, rfl, h2, fun x c e => ⟨c, e⟩, fun _ h => nomatch h⟩
  | (n, k) :: r, cs, h1, h2 => by
    by_cases hk : k = .free
    · subst hk
      obtain ⟨c, hc⟩ := h1 (n, .free) (.head _) rfl
      have e1 : cellOf env n = pure c := by
        unfold cellOf
        rw [show env.cells.lookup n = some c from hc]
      obtain ⟨cl, a1, a2, a3, a4⟩ := closure_ok r ((n, c) :: cs) (fun x hx => h1 x (.tail _ hx)) (fun x d e => by
        rw [List.lookup_cons] at e
        cases z : x == n with
        | true =>
          rw [z] at e
          cases e
          rw [beq_iff_eq.mp z]; exact hc
        | false => rw [z] at e; exact h2 x d e)
      refine ⟨cl, ?_, a2, fun x d e => ?_, fun x hx hf => ?_⟩
      · rw [List.forIn_cons]
        show (do let r' ← (if (NameKind.free == NameKind.free) = true then do let a ← cellOf env n; pure (ForInStep.yield ((n, a) :: cs)) else pure (ForInStep.yield cs)); _) = _
        rw [if_pos (by rfl), e1]
        exact a1
      · by_cases z : x == n
        · exact a3 x c (by rw [List.lookup_cons, z])
        · exact a3 x d (by rw [List.lookup_cons, Bool.eq_false_iff.mpr z]; exact e)
      · rcases List.mem_cons.mp hx with rfl | hx
        · exact a3 n c (by rw [List.lookup_cons, beq_self_eq_true])
        · exact a4 x hx hf
    · obtain ⟨cl, a1, a2, a3, a4⟩ := closure_ok r cs (fun x hx => h1 x (.tail _ hx)) h2
      refine ⟨cl, ?_, a2, a3, fun x hx hf => ?_⟩
      · rw [List.forIn_cons]
        show (do let r' ← (if (k == NameKind.free) = true then do let a ← cellOf env n; pure (ForInStep.yield ((n, a) :: cs)) else pure (ForInStep.yield cs)); _) = _
        rw [if_neg (by simpa using hk)]
        exact a1
      · rcases List.mem_cons.mp hx with rfl | hx
        · exact absurd hf hk
        · exact a4 x hx hf
theorem closureFor_ok {env : Env} {scope : Scope} (h1 : ∀ x ∈ scope.names, x.2 = .free → ∃ c, env.cells.lookup x.1 = some c) :
    ∃ cl, closureFor scope env = pure cl ∧ (∀ x c, cl.lookup x = some c → env.cells.lookup x = some c) ∧ ∀ x ∈ scope.names, x.2 = .free → ∃ c, cl.lookup x.1 = some c := by
  obtain ⟨cl, a1, a2, _, a4⟩ := closure_ok (env := env) scope.names [] h1 (fun x c e => nomatch e)
  refine ⟨cl, ?_, a2, a4⟩
  unfold closureFor
  show (forIn scope.names ([] : List (Str × Addr)) (fun (x : Str × NameKind) r => match x with | (name, kind) => if (kind == NameKind.free) = true then do let a ← cellOf env name; pure (ForInStep.yield ((name, a) :: r)) else pure (ForInStep.yield r)) >>= fun r => (pure r : Sem (List (Str × Addr)))) = pure cl
  have ef : (fun (x : Str × NameKind) (r : List (Str × Addr)) => match x with | (name, kind) => (if (kind == NameKind.free) = true then do let a ← cellOf env name; pure (ForInStep.yield ((name, a) :: r)) else pure (ForInStep.yield r) : Sem (ForInStep (List (Str × Addr)))))
      = fun x r => if (x.2 == NameKind.free) = true then do let a ← cellOf env x.1; pure (ForInStep.yield ((x.1, a) :: r)) else pure (ForInStep.yield r) := by
    funext x r
    obtain ⟨n, k⟩ := x
    rfl
  rw [ef, a1]
  rfl

theorem lookup_relabel_free {env : Env} (hk : env.scope.kind = .function) {x : Str} (hx : env.kindOf x = some .cell) : ∀ {names : List (Str × NameKind)}, names.lookup x = some .free →
    (names.map fun (n, k) => if (k == NameKind.free && env.scope.kind == .function && env.kindOf n == some .cell) then (n, NameKind.cell) else (n, k)).lookup x = some .cell
  | [], h => nomatch h
  | (n, k) :: r, h => by
    have ih := @lookup_relabel_free env hk x hx r
    show List.lookup x ((if (k == NameKind.free && env.scope.kind == .function && env.kindOf n == some .cell) = true then (n, NameKind.cell) else (n, k)) :: _) = _
    cases z : x == n with
    | true =>
      simp only [List.lookup_cons, z] at h
      cases h
      have e := beq_iff_eq.mp z
      subst e
      rw [if_pos (by rw [hk, hx]; rfl), List.lookup_cons, z]
    | false =>
      simp only [List.lookup_cons, z] at h
      split <;> (simp only [List.lookup_cons, z]; exact ih h)

/-- the block's context -/
def compCx (X : Cx) (N : List Str) (scope : Scope) (cl : List (Str × Addr)) (s : Shared) (H : Hp) (fp : List Addr) (pins : List (Addr × Obj)) : Cx :=
  { prog := X.prog, w := X.w, K := X.K, mg := X.mg, base := X.base, A := X.A, N := N, s₀ := s, H₀ := H, env := compEnvC scope cl s.heap.objs.size X.env, outer := X.stack, stack := X.stack, ex := fp, fn := fun _ => false, calm := X.calm,
    pn := X.pn ++ pins, xe := fun _ _ => False }
/-- the names that stand outside: the block's slot, the place outside -/
def stC (js : List (Option Nat)) (σ : St) : St := js.map fun | none => none | some j => (σ[j]?).join
def chkC (X : Cx) (N : List Str) (js : List (Option Nat)) (scope : Scope) : Bool :=
  N.length == js.length && (N.zip js).all fun p => match p.2 with | none => true | some j => X.N[j]? == some p.1 && scope.names.lookup p.1 == some NameKind.free && X.env.kindOf p.1 == some NameKind.cell
def chkS (X : Cx) (scope : Scope) : Bool := scope.kind == .function && X.env.scope.kind == .function && scope.names.all fun x => match x.2 with
  | .free => X.env.kindOf x.1 == some NameKind.cell
  | .cell => false
  | .local => scope.names.lookup x.1 == some NameKind.local
  | _ => true

section
variable {X : Cx} {pins : List (Addr × Obj)} {σ : St} {H : Hp} {s : Shared}
theorem lookup_mem {α β : Type} [BEq α] [LawfulBEq α] : ∀ {l : List (α × β)} {x : α} {b : β}, l.lookup x = some b → (x, b) ∈ l
  | [], _, _, h => nomatch h
  | (n, k) :: r, x, b, h => by
    rw [List.lookup_cons] at h
    cases z : x == n with
    | true => rw [z] at h; cases h; rw [beq_iff_eq.mp z]; exact .head _
    | false => rw [z] at h; exact .tail _ (lookup_mem h)
theorem relabel_inv {env : Env} {x : Str} {k : NameKind} : ∀ {names : List (Str × NameKind)}, (names.map fun (n, k) => if (k == NameKind.free && env.scope.kind == .function && env.kindOf n == some .cell) then (n, NameKind.cell) else (n, k)).lookup x = some k →
    names.lookup x = some k ∨ (k = .cell ∧ names.lookup x = some .free)
  | [], h => nomatch h
  | (n, k') :: r, h => by
    have ih := @relabel_inv env x k r
    have h' : List.lookup x ((if (k' == NameKind.free && env.scope.kind == .function && env.kindOf n == some .cell) = true then (n, NameKind.cell) else (n, k')) :: (r.map fun (n, k) => if (k == NameKind.free && env.scope.kind == .function && env.kindOf n == some .cell) then (n, NameKind.cell) else (n, k))) = some k := h
    cases z : x == n with
    | true =>
      split at h'
      · rename_i hc
        simp only [List.lookup_cons, z] at h'
        cases h'
        rw [Bool.and_eq_true, Bool.and_eq_true] at hc
        have e : k' = .free := beq_iff_eq.mp hc.1.1
        subst e
        exact .inr ⟨rfl, by rw [List.lookup_cons, z]⟩
      · simp only [List.lookup_cons, z] at h'
        cases h'
        exact .inl (by rw [List.lookup_cons, z])
    | false =>
      rw [List.lookup_cons, z]
      refine ih ?_
      split at h'
      · simpa only [List.lookup_cons, z] using h'
      · simpa only [List.lookup_cons, z] using h'
/-- the block's entry -/
theorem Inv.comp {N : List Str} {js : List (Option Nat)} {scope : Scope} {cl : List (Str × Addr)} {fp : List Addr} {h' : Heap} {tk : Nat} (I : Inv X pins σ H s) (hN : chkC X N js scope = true) (hS : chkS X scope = true)
    (c1 : ∀ x c, cl.lookup x = some c → X.env.cells.lookup x = some c) (c2 : ∀ x ∈ scope.names, x.2 = .free → ∃ c, cl.lookup x.1 = some c) (hf : ∀ b ∈ fp, FpOk X pins H b) (hfl : ∀ b ∈ fp, b < s.heap.objs.size)
    (hn : h'.Ns s.heap.objs.size fun _ => none) (hk : ∀ b o, s.heap.get? b = some o → h'.get? b = some o) : Inv (compCx X N scope cl s H fp pins) [] (stC js σ) H { s with heap := h', toks := tk } := by
  unfold chkS at hS
  rw [Bool.and_eq_true, Bool.and_eq_true] at hS
  obtain ⟨⟨s1, s2⟩, s3⟩ := hS
  have hkind : scope.kind = .function := beq_iff_eq.mp s1
  have hkindX : X.env.scope.kind = .function := beq_iff_eq.mp s2
  unfold chkC at hN
  rw [Bool.and_eq_true] at hN
  obtain ⟨n1, n2⟩ := hN
  have hlen : N.length = js.length := beq_iff_eq.mp n1
  have inC : ∀ x k, (relabel scope X.env).names.lookup x = some k → scope.names.lookup x = some k ∨ (k = .cell ∧ scope.names.lookup x = some .free) := fun x k e => relabel_inv e
  have noCell : ∀ x, scope.names.lookup x ≠ some .cell := fun x e => by
    have := List.all_eq_true.mp s3 _ (lookup_mem e)
    exact Bool.false_ne_true this
  have fs_sub : ∀ b ∈ (compCx X N scope cl s H fp pins).fs, b ∈ X.env.locals :: X.fs := I.stkSub
  have ok : (compCx X N scope cl s H fp pins).Ok := {
    mod := I.ok.mod
    kind := hkind
    glob := I.ok.glob
    blt := I.ok.blt
    above := Nat.le_refl _
    inj := fun x y c e1 e2 => I.ok.inj x y c (c1 x c e1) (c1 y c e2)
    has := fun x hx => by
      have fr : scope.names.lookup x = some .free → ∃ c, cl.lookup x = some c := fun e => c2 (x, .free) (lookup_mem e) rfl
      rcases hx with e | e
      · rcases inC x _ e with e | ⟨_, e⟩
        · exact absurd e (noCell x)
        · exact fr e
      · rcases inC x _ e with e | ⟨z, _⟩
        · exact fr e
        · cases z
    cab := fun x c e => nomatch e
    hd := I.ok.hd
    frames := I.ok.frames
    stk := .inl rfl
    exf := fun b hb => ⟨Nat.ne_of_lt (hfl b hb), fun x c e => (hf b hb).2.2.2.2.1 x c (c1 x c e)⟩
    bs := I.bs
    bsz := Nat.le_trans I.ok.bsz I.sz
    noex := fun b o e hb => by
      rcases (hf b hb).2.2.2.1 with z | z
      · exact I.ok.noex b o e z
      · exact absurd (Nat.lt_of_lt_of_le (Heap.lt_size e) (Nat.le_trans I.ok.bsz z)) (Nat.lt_irrefl _)
    exfs := fun b hb z => by
      obtain ⟨_, q1, q2, _⟩ := hf b hb
      rcases List.mem_cons.mp (fs_sub b z) with e | e
      · exact q1 e
      · exact q2 e
    funs := I.stack
    frf := I.stkFree }
  refine ⟨ok, rfl, I.bare, Un.kept hk, ⟨_, hn, fun i x v e1 e2 e3 => ?_⟩, fun x c e => ?_, I.hok.fresh (Nat.le_refl _), fun x c e => I.freeC x c (c1 x c e), fun p hp => ?_, I.hok.kept hk, ?_⟩
  · have e2' : (js.map fun | none => none | some j => (σ[j]?).join)[i]? = some (some v) := e2
    rw [List.getElem?_map] at e2'
    cases hj : js[i]? with
    | none => rw [hj] at e2'; cases e2'
    | some o =>
      rw [hj] at e2'
      cases o with
      | none => cases e2'
      | some j =>
        have hz : (N.zip js)[i]? = some (x, some j) := by
          rw [List.getElem?_zip_eq_some]; exact ⟨e1, hj⟩
        have chk := List.all_eq_true.mp n2 _ (List.mem_of_getElem? hz)
        simp only [Bool.and_eq_true, beq_iff_eq] at chk
        obtain ⟨⟨h1, h2⟩, h3⟩ := chk
        have e3' : (σ[j]?).join = some v := by simpa using e2'
        have hσ : σ[j]? = some (some v) := by
          cases q : σ[j]? with
          | none => rw [q] at e3'; cases e3'
          | some o =>
            rw [q] at e3'
            have : o = some v := by simpa using e3'
            rw [this]
        obtain ⟨m, hm, hl⟩ := I.loc
        obtain ⟨u, r, l⟩ := hl j x v h1 hσ (.inr (.inl h3))
        refine ⟨u, r, ?_⟩
        rcases l with ⟨k, _⟩ | ⟨_, c, hc, hcell⟩
        · rw [h3] at k; cases k
        · obtain ⟨c', hc'⟩ := c2 (x, .free) (lookup_mem h2) rfl
          have := c1 x c' hc'
          rw [hc] at this; cases this
          refine .inr ⟨.inl (lookup_relabel_free hkindX h3 h2), c, hc', ?_⟩
          obtain ⟨ob, ho, hd⟩ := hcell
          exact ⟨ob, hk _ _ ho, hd⟩
  · obtain ⟨v, ob, ho, hd⟩ := I.cell x c (c1 x c e)
    exact ⟨v, ob, hk _ _ ho, hd⟩
  · have hp' : p ∈ X.pn ++ pins := by simpa [compCx] using hp
    obtain ⟨a1, a2, a3, a4, a5⟩ := I.pin p hp'
    refine ⟨hk _ _ a1, a2, Nat.ne_of_lt (Heap.lt_size a1), fun z => ?_, a5⟩
    rcases List.mem_cons.mp (fs_sub p.1 z) with e | e
    · exact a3 e
    · exact a4 e
  · show (js.map _).length = N.length
    rw [List.length_map, hlen]
end

/-- the loop of a block, whatever its target -/
theorem compLoop_gen {prog : Program} {w : World} {A : Around} {R : Result → Shared → Prop} {s : Shared} {elt target iter : Expr} {ifs : List Expr} {scope : Scope} {pos : Pos} {it acc : Value} {env : Env} (I : Nat → Shared → Prop)
    (turn : ∀ n s, I n s → wpAny (model prog w) A (pyNext it) (fun r s₁ => match r with
      | none => R (.ok .next) s₁
      | some v => wpAny (model prog w) A (letOwnedTupleGo target it v) (fun _ s₁ => wpAny (model prog w) A (assign target env v) (fun _ s₂ =>
          wpAny (model prog w) A (forIn ifs true fun c r => if r = true then do let ok ← isTrue c env (eval c env); pure (ForInStep.yield ok) else pure (ForInStep.yield r)) (fun ok s₃ =>
            if ok = true then wpAny (model prog w) A (eval elt env) (fun x s₄ =>
              wpAny (model prog w) A (call (.builtin "list.append") [acc, x]) (fun _ s₅ => ∃ m, m < n ∧ I m s₅) (fun _ _ => False) s₄) (fun _ _ => False) s₃
            else ∃ m, m < n ∧ I m s₃) (fun _ _ => False) s₂) (fun _ _ => False) s₁) (fun _ _ => False) s₁) (fun _ _ => False) s)
    (n : Nat) (h : I n s) : codeAny (model prog w) A (.compLoop (.ListComp elt [⟨target, iter, ifs, 0⟩] scope pos) 0 it acc env) R s := by
  refine codeAny_loop rfl I (fun n s hI => ?_) n h
  show wpAny _ A ((compTurn (.ListComp elt [⟨target, iter, ifs, 0⟩] scope pos) 0 it acc env).onRaise (fun x => do noteFrame x env; theTreesLotGoes x)) _ _ s
  refine wpAny_noted ?_
  rw [compTurn_list]
  refine wpAny_bind (wpAny_standAt (wpAny_bind (wpAny_mono (turn n s hI) (fun r s₁ h₁ => ?_) fun _ _ h' => h'.elim)))
  cases r with
  | none => exact wpAny_pure h₁
  | some v =>
    refine wpAny_bind (wpAny_mono h₁ (fun _ s₁' h₁ => ?_) fun _ _ h' => h'.elim)
    refine wpAny_bind (wpAny_mono h₁ (fun _ s₂ h₂ => wpAny_bind (wpAny_mono h₂ (fun ok s₃ h₃ => ?_) fun _ _ h' => h'.elim)) fun _ _ h' => h'.elim)
    cases ok with
    | false => exact wpAny_pure ⟨rfl, h₃⟩
    | true =>
      exact wpAny_bind (wpAny_bind (wpAny_mono h₃ (fun x s₄ h₄ => wpAny_bind (wpAny_mono h₄ (fun _ s₅ h₅ => wpAny_pure (wpAny_pure ⟨rfl, h₅⟩)) fun _ _ h' => h'.elim)) fun _ _ h' => h'.elim))

/-- a block's tests -/
def PTs (X : Cx) (ifs : List Expr) (t : TT) : Prop :=
  ∀ (pins : List (Addr × Obj)) (s : Shared) (σ : St) (H : Hp) (Q : Bool → Hp → Prop), Inv X pins σ H s → t σ H Q →
    wpAny (model X.prog X.w) X.A (forIn ifs true fun c r => if r = true then do let ok ← isTrue c X.env (eval c X.env); pure (ForInStep.yield ok) else pure (ForInStep.yield r)) (TP X pins σ Q) X.xe s
def tYes : TT := fun _ H Q => Q true H
theorem pts_nil {X : Cx} : PTs X [] tYes := fun _ _ _ H _ I h => wpAny_tests_nil ⟨H, I, h⟩
def CompW (J : It) (g : TG) (tt : TT) (te : TE) (Q : VK) (D : Addr) (σ : St) (H : Hp) : Prop := ∃ W : Nat → Nat → St → Hp → Prop, (∃ m, W 0 m σ H) ∧ ∀ i m σ' H', W i m σ' H' →
  (J.stop i H' ∧ Q (.ref D) H') ∨ (J.go i H' ∧ ∀ x H2, J.yld i H' x H2 → g x σ' H2 fun σ3 H3 => tt σ3 H3 fun ok H4 => if ok = true then
    te σ3 H4 fun y H5 => ∃ ys, H5 D = some (.lst ys) ∧ ys.length < sizeLine ∧ ∃ m', m' < m ∧ W (i + 1) m' σ3 (upd H5 D (.lst (ys ++ [y])))
    else ∃ m', m' < m ∧ W (i + 1) m' σ3 H4)
def tComp (js : List (Option Nat)) (wi : TI) (g : TG) (tt : TT) (te : TE) : TE := fun σ H Q => wi σ H fun J H1 => ∀ D H2, Nw H1 H2 D (.lst []) → CompW J g tt te Q D (stC js σ) H2

theorem HOk.but {P : Program} {w : World} {H : Hp} {h h' : Heap} {C : Addr} (ok : HOk P w H h) (hn : H C = none) (hs : Heap.SameBut C h h') : HOk P w H h' := fun b ob e => by
  refine (ok b ob e).stay (fun c w' hc q => (hs.2 c ?_).trans q) (fun _ q => q) fun _ _ q => q
  rintro rfl
  rcases hc with rfl | hc
  · rw [hn] at e; cases e
  · rw [hn] at hc; cases hc

set_option maxHeartbeats 1000000 in
theorem pe_comp {X : Cx} {N : List Str} {js : List (Option Nat)} {elt tg iter : Expr} {ifs : List Expr} {scope : Scope} {pos : Pos} {wi : TI} {g : TG} {tt : TT} {te : TE} (hc : X.calm = true) (hN : chkC X N js scope = true) (hS : chkS X scope = true)
    (hi : PI X tg iter wi) (hg : ∀ cl s H fp pins, PG (compCx X N scope cl s H fp pins) tg g) (ht : ∀ cl s H fp pins, PTs (compCx X N scope cl s H fp pins) ifs tt) (he : ∀ cl s H fp pins, PE (compCx X N scope cl s H fp pins) elt te)
    (hs : ∀ x, foldedSetIterable iter X.env x = pure x := by intro _; rfl) : PE X (.ListComp elt [⟨tg, iter, ifs, 0⟩] scope pos) (tComp js wi g tt te) := by
  intro pins s σ H Q I h
  have hS' := hS
  unfold chkS at hS'
  rw [Bool.and_eq_true, Bool.and_eq_true] at hS'
  obtain ⟨⟨k1, k2⟩, k3⟩ := hS'
  have hkind : scope.kind = .function := beq_iff_eq.mp k1
  have hfree : ∀ x ∈ scope.names, x.2 = .free → ∃ c, X.env.cells.lookup x.1 = some c := fun x hx e => by
    have := List.all_eq_true.mp k3 x hx
    rw [e] at this
    exact I.ok.has x.1 (.inl (beq_iff_eq.mp this))
  have hcell : ∀ x ∈ scope.names, x.2 ≠ .cell := fun x hx e => by
    have := List.all_eq_true.mp k3 x hx
    rw [e] at this
    exact Bool.false_ne_true this
  have hnames : ∀ x ∈ scope.names, x.2 = .local → scope.names.lookup x.1 = some .local := fun x hx e => by
    have := List.all_eq_true.mp k3 x hx
    rw [e] at this
    exact beq_iff_eq.mp this
  obtain ⟨cl, hclos, c1, c2⟩ := closureFor_ok hfree
  rw [eval_ListComp]
  refine wpAny_comprehension_free (use := none) rfl hs hclos hkind hnames (thn (hi pins s σ H _ I h) fun v s1 h1 => thn h1 fun itv s2 h2 => ?_)
  obtain ⟨it, fp, tn, J, H2, e, I2, T, st2, f2, h2⟩ := h2
  subst e
  have hD : H2 s2.heap.objs.size = none := I2.hok.fresh (Nat.le_refl _)
  obtain ⟨W, ⟨m0, w0⟩, turn⟩ := h2 _ _ (Nw.of hD)
  refine wpAny_newObj_type (wpAny_newFunctionEnv hcell (by intro y hy; simp at hy) (fun h₁ hns₁ hsb₁ => ?_) hkind)
  have fpl : ∀ b ∈ fp, b < s2.heap.objs.size := fun b hb => by
    obtain ⟨o, e, _⟩ := T.obj _ _ st2 b hb
    exact Heap.lt_size e
  have I3 : Inv X pins σ (upd H2 s2.heap.objs.size (.lst [])) { s2 with heap := s2.heap.push { cls := .type "list", dict := none, data := .seq ([] : List Value).toArray } } := I2.lnew (its := []) (t' := s2.toks) .nil (Nat.zero_le _)
  generalize hH3 : s2.heap.push { cls := .type "list", dict := none, data := .seq ([] : List Value).toArray } = h3 at I3 hns₁ hsb₁
  have sz3 : h3.objs.size = s2.heap.objs.size + 1 := by rw [← hH3, Heap.size_push]
  have keep23 : ∀ b o, s2.heap.get? b = some o → h3.get? b = some o := fun b o e => by rw [← hH3]; exact Heap.get?_push_of_some _ e
  have f3 : ∀ b ∈ fp, FpOk X pins (upd H2 s2.heap.objs.size (.lst [])) b := fun b hb => ⟨by rw [upd_ne (Nat.ne_of_lt (fpl b hb))]; exact (f2 b hb).1, (f2 b hb).2⟩
  have keep31 : ∀ b o, h3.get? b = some o → h₁.get? b = some o := fun b o e => (hsb₁.2 b (Nat.ne_of_lt (Heap.lt_size e))).trans (Heap.get?_push_of_some _ e)
  have I4 : Inv (compCx X N scope cl { s2 with heap := h3 } (upd H2 s2.heap.objs.size (.lst [])) fp pins) [] (stC js σ) (upd H2 s2.heap.objs.size (.lst [])) { s2 with heap := h₁, toks := s2.toks + ([] : List (Str × Value)).length } :=
    I3.comp (s := { s2 with heap := h3 }) hN hS c1 c2 f3 (fun b hb => by show b < h3.objs.size; rw [sz3]; exact Nat.lt_succ_of_lt (fpl b hb)) (by simpa using hns₁) keep31
  have st4 : tn 0 h₁ := T.keep _ _ _ st2 fun b _ o e => keep31 b o (keep23 b o e)
  -- the loop
  have loop : codeAny (model X.prog X.w) X.A (.compLoop (.ListComp elt [⟨tg, iter, ifs, 0⟩] scope pos) 0 (.ref it) (.ref s2.heap.objs.size) (compEnvC scope cl h3.objs.size X.env))
      (compPost (model X.prog X.w) X.A X.xe none (EP X pins σ Q) (.ref s2.heap.objs.size) h3.objs.size) { s2 with heap := h₁, toks := s2.toks + ([] : List (Str × Value)).length } := by
    refine compLoop_gen (fun n s' => ∃ i σ' H', Inv (compCx X N scope cl { s2 with heap := h3 } (upd H2 s2.heap.objs.size (.lst [])) fp pins) [] σ' H' s' ∧ tn i s'.heap ∧ (∀ b ∈ fp, H' b = none) ∧ W i n σ' H') ?_ m0
      ⟨0, _, _, I4, st4, fun b hb => (f3 b hb).1, w0⟩
    rintro n s5 ⟨i, σ5, H5, I5, st5, fr5, w5⟩
    have stat : ∀ {H' : Hp}, (∀ b ∈ fp, H' b = none) → ∀ b ∈ fp, FpOk (compCx X N scope cl { s2 with heap := h3 } (upd H2 s2.heap.objs.size (.lst [])) fp pins) [] H' b := fun {H'} hn b hb => by
      obtain ⟨_, q1, q2, q3, q4, q5⟩ := f3 b hb
      refine ⟨hn b hb, fun z => ?_, I4.ok.exfs b hb, .inl hb, fun x c e => q4 x c (c1 x c e), fun p hp => q5 p (by simpa [compCx] using hp)⟩
      have hlt : b < h3.objs.size := by rw [sz3]; exact Nat.lt_succ_of_lt (fpl b hb)
      exact Nat.ne_of_lt hlt z
    rcases turn i n σ5 H5 w5 with ⟨stop, qn⟩ | ⟨go, step⟩
    · refine thn (T.done (compCx X N scope cl { s2 with heap := h3 } (upd H2 s2.heap.objs.size (.lst [])) fp pins) rfl rfl rfl hc i [] s5 σ5 H5 _ I5 (stat fr5) st5 stop) fun r s6 ⟨hr, I6⟩ => ?_
      subst hr
      obtain ⟨m, hm, _⟩ := I6.loc
      refine ⟨m, hm, fun h7 hs7 => ?_⟩
      have u0 : Un (frs X.stack) fp (upd H2 s2.heap.objs.size (.lst [])) H5 h3 s6.heap := I6.base
      have ne : ∀ b o, h3.get? b = some o → b ≠ h3.objs.size := fun b o e => Nat.ne_of_lt (Heap.lt_size e)
      have u : Un (frs X.stack) fp (upd H2 s2.heap.objs.size (.lst [])) H5 h3 h7 := ⟨fun b o e n hb hx => (hs7.2 b (ne b o e)).trans (u0.keep b o e n hb hx),
        fun b o e n hb hx => let ⟨sl, q⟩ := u0.slot b o e n hb hx; ⟨sl, (hs7.2 b (ne b o e)).trans q⟩, u0.free, fun b o e hx => let ⟨o', q⟩ := u0.there b o e hx; ⟨o', (hs7.2 b (ne b o e)).trans q⟩, u0.tups, u0.frzs, u0.tbls⟩
      have I7 : Inv X pins σ H5 { s6 with heap := h7 } := I3.call' (s' := { s6 with heap := h7 }) (ch := fp) I6.os u (I6.hok.but I6.free hs7) I6.bare fun b hb => ⟨(f3 b hb).2.2.2.1, (f3 b hb).2.1, (f3 b hb).2.2.2.2.1, (f3 b hb).2.2.2.2.2⟩
      exact ⟨.ref s2.heap.objs.size, H5, I7, rfl, qn⟩
    · refine thn (T.item (compCx X N scope cl { s2 with heap := h3 } (upd H2 s2.heap.objs.size (.lst [])) fp pins) rfl rfl rfl hc i [] s5 σ5 H5 _ I5 (stat fr5) st5 go) fun r s6 ⟨u, hr, h6⟩ => ?_
      subst hr
      refine thn h6 fun _ s7 ⟨x, H7, I7, r7, y7, st7, fr7⟩ => ?_
      have I7' := I7.pinned (stat fr7) (T.obj _ _ st7)
      refine thn (hg _ _ _ _ _ _ s7 σ5 H7 x u _ I7' r7 (step x H7 y7)) fun _ s8 ⟨σ8, H8, I8, q8⟩ => ?_
      refine thn (ht _ _ _ _ _ _ s8 σ8 H8 _ I8 q8) fun ok s9 ⟨H9, I9, q9⟩ => ?_
      have again : ∀ {s' : Shared} {σ7 : St} {H7 : Hp}, Inv (compCx X N scope cl { s2 with heap := h3 } (upd H2 s2.heap.objs.size (.lst [])) fp pins) ([] ++ pinsAt fp s7.heap) σ7 H7 s' → (∃ m', m' < n ∧ W (i + 1) m' σ7 H7) →
          ∃ m, m < n ∧ ∃ i σ' H', Inv (compCx X N scope cl { s2 with heap := h3 } (upd H2 s2.heap.objs.size (.lst [])) fp pins) [] σ' H' s' ∧ tn i s'.heap ∧ (∀ b ∈ fp, H' b = none) ∧ W i m σ' H' := fun {s' σ7 H7} J7 n7 => by
        obtain ⟨m', hm, w7⟩ := n7
        refine ⟨m', hm, i + 1, σ7, H7, J7.unpinned, T.keep _ _ _ st7 fun b hb o e => (J7.pin (b, o) (List.mem_append_right _ (List.mem_append_right _ (mem_pinsAt hb e)))).1, fun b hb => ?_, w7⟩
        obtain ⟨o, e, d⟩ := T.obj _ _ st7 b hb
        exact (J7.pin (b, o) (List.mem_append_right _ (List.mem_append_right _ (mem_pinsAt hb e)))).2.1
      cases ok with
      | false =>
        rw [if_neg Bool.false_ne_true] at q9 ⊢
        exact again I9 q9
      | true =>
        rw [if_pos rfl] at q9 ⊢
        refine thn (he _ _ _ _ _ _ s9 σ8 H9 _ I9 q9) fun yv s10 ⟨y, H10, I10, r10, ys, hys, hz, w10⟩ => ?_
        refine thn (mt_append _ s10 σ8 H10 (.ref s2.heap.objs.size) [y] (.ref s2.heap.objs.size) [yv] (fun _ H11 => ∃ m', m' < n ∧ W (i + 1) m' σ8 H11) I10 rfl (.cons r10 .nil) ⟨_, ys, y, rfl, rfl, hys, hz, w10⟩) fun _ s11 ⟨v11, H11, I11, r11, q11⟩ => ?_
        exact again I11 q11
  exact codeAny_compStart_list loop (T.self _ 0 _ _ _ st4 loop)
end L2


set_option Elab.async false
set_option linter.all false
set_option maxRecDepth 100000
namespace L2
open PySem PySem.Spec PyProof.Rows
section
variable {X : Cx}
end
/-! ### forms of a comprehension that one uses -/
/-- by hand: the measure is the rest of n turns; go or stop is shown by the word -/
theorem comp_by {J : It} {g : TG} {tt : TT} {te : TE} {Q : VK} {D : Addr} {σ : St} {H : Hp} (n : Nat) (Pv : Nat → St → Hp → Prop) (h0 : Pv 0 σ H)
    (hs : ∀ i σ H, i < n → Pv i σ H → J.go i H ∧ ∀ x H2, J.yld i H x H2 → g x σ H2 fun σ3 H3 => tt σ3 H3 fun ok H4 => if ok = true then te σ3 H4 fun y H5 => ∃ ys, H5 D = some (.lst ys) ∧ ys.length < sizeLine ∧ ∃ m', m' < n - i ∧ m' = n - (i + 1) ∧ i + 1 ≤ n ∧ Pv (i + 1) σ3 (upd H5 D (.lst (ys ++ [y])))
      else ∃ m', m' < n - i ∧ m' = n - (i + 1) ∧ i + 1 ≤ n ∧ Pv (i + 1) σ3 H4)
    (hd : ∀ σ H, Pv n σ H → J.stop n H ∧ Q (.ref D) H) :
    CompW J g tt te Q D σ H := by
  refine ⟨fun i m σ H => m = n - i ∧ i ≤ n ∧ Pv i σ H, ⟨n, by simp, Nat.zero_le _, h0⟩, ?_⟩
  rintro i m σ H ⟨rfl, hi, p⟩
  by_cases hlt : i < n
  · exact .inr (hs i σ H hlt p)
  · have e : i = n := by omega
    subst e
    exact .inl (hd σ H p)
end L2
namespace L2
open PySem PySem.Spec PyProof.Rows
/-! ### the same rules, over K by its name -/
section
variable {X : Cx} {tg : Expr}
theorem ixK (K : PySem.W.Frag) (h : X.K = K) : IxR X (fun x y H Q => rIxL K x y H Q ∨ rIxT K x y H Q) := by subst h; exact ix_list.or ix_tup
theorem lenK (K : PySem.W.Frag) (h : X.K = K) : CallR X (.builtin "len") (fun xs H Q => ∃ p ys, xs = [.ref p] ∧ (SqL K H p ys ∨ SqT K H p ys) ∧ Q (.int ys.length) H) := by subst h; exact call_len_seq
theorem isiK (K : PySem.W.Frag) (h : X.K = K) : CallR X (.builtin "isinstance") (fun xs H Q => rIsi K xs H Q ∨ rIsiT K xs H Q) := by subst h; exact call_isi.or call_isiT
theorem eqK (K : PySem.W.Frag) (h : X.K = K) (hu : X.A.units + 64 < cLine) : OpR X (compareOp .Eq) (fun x y H Q => rI0 (fun i j => .bl (decide (i = j))) x y H Q ∨ rEqD K x y H Q) := by subst h; exact op_eqA hu
theorem neK (K : PySem.W.Frag) (h : X.K = K) (hu : X.A.units + 64 < cLine) : OpR X (compareOp .NotEq) (fun x y H Q => rI0 (fun i j => .bl (!decide (i = j))) x y H Q ∨ rNeD K x y H Q) := by subst h; exact op_neA hu
theorem tupleK (K : PySem.W.Frag) (h : X.K = K) : CallR X (.type "tuple") (fun xs H Q => ∃ p ys, xs = [.ref p] ∧ ((SqL K H p ys ∧ ∀ l H', Nw H H' l (.tup ys) → Q (.ref l) H') ∨ (SqT K H p ys ∧ Q (.ref p) H))) := by
  subst h
  intro pins s σ H xs us Q I r hq
  obtain ⟨p, ys, e, h1⟩ := hq
  exact call_tuple_of pins s σ H xs us Q I r ⟨p, ys, e, h1.imp (fun ⟨a, k⟩ => ⟨a, fun l hl => k l _ (.of hl)⟩) id⟩
def tTupA (t : TA) : TE := fun σ H Q => t σ H fun xs H1 => xs.length ≤ sizeLine ∧ ∀ p H', Nw H1 H' p (.tup xs) → Q (.ref p) H'
def tLstA (t : TA) : TE := fun σ H Q => t σ H fun xs H1 => xs.length ≤ sizeLine ∧ ∀ p H', Nw H1 H' p (.lst xs) → Q (.ref p) H'
theorem pe_tupA {es : List Expr} {t : TA} {pos : Pos} {x1} (h : PA X es t) : PE X (.Tuple es x1 pos) (tTupA t) := by
  intro pins s σ H Q I hq
  refine wpAny_Tuple_spliced (thn (h pos pins s σ H _ I hq) fun us s1 ⟨xs, H1, I1, r, z, q⟩ => ⟨by rw [← r.length]; exact z, ?_⟩)
  have hf : H1 s1.heap.objs.size = none := I1.hok.fresh (Nat.le_refl _)
  refine ⟨.ref s1.heap.objs.size, upd H1 s1.heap.objs.size (.tup xs), I1.laid (t' := s1.toks) (fun b u e => Heap.get?_push_of_some _ e) (Nat.le_refl _) ?_, rfl, q _ _ (.of hf)⟩
  exact ⟨z, us, r, ⟨_, Heap.get?_push_size _ rfl, rfl, _, rfl⟩⟩
theorem pe_lstA {es : List Expr} {t : TA} {pos : Pos} (h : PA X es t) : PE X (.List es pos) (tLstA t) := by
  intro pins s σ H Q I hq
  refine wpAny_List_spliced (thn (h pos pins s σ H _ I hq) fun us s1 ⟨xs, H1, I1, r, z, q⟩ => ⟨by rw [← r.length]; exact z, ?_⟩)
  have hf : H1 s1.heap.objs.size = none := I1.hok.fresh (Nat.le_refl _)
  refine ⟨.ref s1.heap.objs.size, upd H1 s1.heap.objs.size (.lst xs), I1.laid (t' := s1.toks) (fun b u e => Heap.get?_push_of_some _ e) (Nat.le_refl _) ?_, rfl, q _ _ (.of hf)⟩
  exact ⟨z, us, 0, r, Heap.get?_push_size _ rfl⟩
theorem piT (K : PySem.W.Frag) (h : X.K = K) {l : Expr} {tl : TE} (hl : PE X l tl) : PI X tg l (iTup K tl) := by subst h; exact pi_tup hl
theorem pgT (K : PySem.W.Frag) (h : X.K = K) {es : List Expr} {k : Nat} {t : TGs} {n : Nat} {pos : Pos} (hc : X.calm = true) (hg : PGs X es t) (hn : (assignEach es X.env).length = n := by rfl) (hst : (assignEach es X.env).findIdx? (·.1) = none := by rfl) :
    PG X (.Tuple es k pos) (gTup K n t) := by subst h; exact pg_tup hc hg hn hst
theorem yesN {j : Nat} {x : V} {σ : St} {H : Hp} {A B : St → Hp → Prop} (h : A (σ.set j (some x)) H) : gName j x σ H fun σ3 H3 => tYes σ3 H3 fun ok H4 => if ok = true then A σ3 H4 else B σ3 H4 := by
  show if true = true then A (σ.set j (some x)) H else B (σ.set j (some x)) H
  rw [if_pos rfl]; exact h
end
end L2


set_option Elab.async false
set_option linter.all false
set_option maxRecDepth 100000
namespace L2
open PySem PySem.Spec PyProof.Rows

/-! ### data goes on -/
theorem SqL.go {K : PySem.W.Frag} {H H' : Hp} {a : Addr} {xs : List V} (s : Same H H') (h : SqL K H a xs) : SqL K H' a xs := h.imp (fun r => r.imp (s _ _) fun ⟨o, e⟩ => ⟨o, s _ _ e⟩) id
theorem SqT.go {K : PySem.W.Frag} {H H' : Hp} {a : Addr} {xs : List V} (s : Same H H') (h : SqT K H a xs) : SqT K H' a xs := h.imp (fun r => r.imp (s _ _) fun ⟨o, e⟩ => ⟨o, s _ _ e⟩) id
mutual
theorem RD.mono {K : PySem.W.Frag} {H H' : Hp} (s : Same H H') : ∀ {x : V} (d : PyData), RD K H x d → RD K H' x d
  | x, .none, h => by simpa [RD] using h
  | x, .bool b, h => by simpa [RD] using h
  | x, .int i, h => by simpa [RD] using h
  | x, .str y, h => by simpa [RD] using h
  | x, .list ds, h => by
    rw [RD] at h ⊢
    obtain ⟨a, xs, e, h1, h2⟩ := h
    exact ⟨a, xs, e, h1.go s, RDs.mono s ds h2⟩
  | x, .tuple ds, h => by
    rw [RD] at h ⊢
    obtain ⟨a, xs, e, h1, h2⟩ := h
    exact ⟨a, xs, e, h1.go s, RDs.mono s ds h2⟩
  | x, .dict _, h => by simp [RD] at h
theorem RDs.mono {K : PySem.W.Frag} {H H' : Hp} (s : Same H H') : ∀ {xs : List V} (ds : List PyData), RDs K H xs ds → RDs K H' xs ds
  | xs, [], h => by simpa [RDs] using h
  | xs, d :: ds, h => by
    rw [RDs] at h ⊢
    obtain ⟨y, ys, e, h1, h2⟩ := h
    exact ⟨y, ys, e, RD.mono s d h1, RDs.mono s ds h2⟩
end
section
variable {K : PySem.W.Frag} {H H' : Hp}
theorem RDs.nil_inv {xs : List V} (h : RDs K H xs []) : xs = [] := by simpa [RDs] using h
theorem RDs.cons_inv {xs : List V} {d : PyData} {ds : List PyData} (h : RDs K H xs (d :: ds)) : ∃ y ys, xs = y :: ys ∧ RD K H y d ∧ RDs K H ys ds := by rw [RDs] at h; exact h
theorem RD.tup_inv {x : V} {ds : List PyData} (h : RD K H x (.tuple ds)) : ∃ a xs, x = .ref a ∧ SqT K H a xs ∧ RDs K H xs ds := by rw [RD] at h; exact h
theorem RD.lst_inv {x : V} {ds : List PyData} (h : RD K H x (.list ds)) : ∃ a xs, x = .ref a ∧ SqL K H a xs ∧ RDs K H xs ds := by rw [RD] at h; exact h
theorem RD.int_inv {x : V} {i : Int} (h : RD K H x (.int i)) : x = .int i := by rw [RD] at h; exact h
theorem RD.bl_inv {x : V} {i : Bool} (h : RD K H x (.bool i)) : x = .bl i := by rw [RD] at h; exact h
theorem RD.str_inv {x : V} {i : Str} (h : RD K H x (.str i)) : x = .str i := by rw [RD] at h; exact h
theorem RD.non_inv {x : V} (h : RD K H x .none) : x = .non := by rw [RD] at h; exact h
theorem RDs.length : ∀ {xs : List V} {ds : List PyData}, RDs K H xs ds → xs.length = ds.length
  | xs, [], h => by rw [h.nil_inv]; rfl
  | xs, d :: ds, h => by
    obtain ⟨y, ys, rfl, _, h2⟩ := h.cons_inv
    rw [List.length_cons, List.length_cons, RDs.length h2]
theorem RDs.append : ∀ {xs ys : List V} {ds es : List PyData}, RDs K H xs ds → RDs K H ys es → RDs K H (xs ++ ys) (ds ++ es)
  | xs, ys, [], es, h, g => by rw [h.nil_inv]; exact g
  | xs, ys, d :: ds, es, h, g => by
    obtain ⟨y, zs, rfl, h1, h2⟩ := h.cons_inv
    exact rds_cons h1 (RDs.append h2 g)
theorem RDs.take : ∀ (n : Nat) {xs : List V} {ds : List PyData}, RDs K H xs ds → RDs K H (xs.take n) (ds.take n)
  | 0, xs, ds, h => by rw [List.take_zero, List.take_zero]; exact rds_nil
  | n + 1, xs, [], h => by rw [h.nil_inv]; exact rds_nil
  | n + 1, xs, d :: ds, h => by
    obtain ⟨y, zs, rfl, h1, h2⟩ := h.cons_inv
    exact rds_cons h1 (RDs.take n h2)
theorem RDs.get : ∀ (n : Nat) {xs : List V} {ds : List PyData} {d : PyData}, RDs K H xs ds → ds[n]? = some d → ∃ x, xs[n]? = some x ∧ RD K H x d
  | n, xs, [], d, h, e => by simp at e
  | 0, xs, d' :: ds, d, h, e => by
    obtain ⟨y, zs, rfl, h1, h2⟩ := h.cons_inv
    have e' : d' = d := by simpa using e
    subst e'
    exact ⟨y, rfl, h1⟩
  | n + 1, xs, d' :: ds, d, h, e => by
    obtain ⟨y, zs, rfl, h1, h2⟩ := h.cons_inv
    exact RDs.get n h2 (by simpa using e)
theorem RDs.get' (n : Nat) {xs : List V} {ds : List PyData} {x : V} (h : RDs K H xs ds) (e : xs[n]? = some x) : ∃ d, ds[n]? = some d ∧ RD K H x d := by
  have hl : n < ds.length := by rw [← h.length]; exact (List.getElem?_eq_some_iff.mp e).1
  obtain ⟨y, e1, r⟩ := h.get n (List.getElem?_eq_getElem hl)
  rw [e] at e1
  cases e1
  exact ⟨_, List.getElem?_eq_getElem hl, r⟩
/-- the name of a datum's type -/
def tyD : PyData → String
  | .none => "NoneType"
  | .bool _ => "bool"
  | .int _ => "int"
  | .str _ => "str"
  | .list _ => "list"
  | .tuple _ => "tuple"
  | .dict _ => "dict"
theorem RD.ty {x : V} : ∀ {d : PyData}, RD K H x d → TyN K H x (tyD d)
  | .none, h => by rw [h.non_inv]; rfl
  | .bool b, h => by rw [h.bl_inv]; rfl
  | .int b, h => by rw [h.int_inv]; rfl
  | .str b, h => by rw [h.str_inv]; rfl
  | .list ds, h => by obtain ⟨a, xs, rfl, h1, _⟩ := h.lst_inv; exact .inl ⟨rfl, xs, h1⟩
  | .tuple ds, h => by obtain ⟨a, xs, rfl, h1, _⟩ := h.tup_inv; exact .inr ⟨rfl, xs, h1⟩
  | .dict _, h => by simp [RD] at h
/-! ### good data -/
structure OkD (n : Nat) (d : PyData) : Prop where
  lay : d.canLay0 = true
  dep : d.depth ≤ n
def OkDs (n : Nat) (ds : List PyData) : Prop := ∀ d ∈ ds, OkD n d
theorem okds_iff {n : Nat} : ∀ {ds : List PyData}, OkDs n ds ↔ (PyData.canLayAll0 ds = true ∧ PyData.depthAll ds ≤ n)
  | [] => ⟨fun _ => ⟨rfl, Nat.zero_le _⟩, fun _ _ h => nomatch h⟩
  | d :: ds => by
    have ih := okds_iff (n := n) (ds := ds)
    simp only [PyData.canLayAll0, PyData.depthAll, Bool.and_eq_true]
    constructor
    · intro h
      have h1 := h d (.head _)
      have h2 := ih.mp fun x hx => h x (.tail _ hx)
      exact ⟨⟨h1.lay, h2.1⟩, Nat.max_le.mpr ⟨h1.dep, h2.2⟩⟩
    · rintro ⟨⟨a, b⟩, c⟩ x hx
      have c' := Nat.max_le.mp c
      rcases List.mem_cons.mp hx with rfl | hx
      · exact ⟨a, c'.1⟩
      · exact ih.mpr ⟨b, c'.2⟩ x hx
theorem OkDs.tup {n : Nat} {ds : List PyData} (h : OkDs n ds) : OkD (n + 1) (.tuple ds) := ⟨by simpa [PyData.canLay0] using (okds_iff.mp h).1, by simpa [PyData.depth] using (okds_iff.mp h).2⟩
theorem OkDs.lst {n : Nat} {ds : List PyData} (h : OkDs n ds) : OkD (n + 1) (.list ds) := ⟨by simpa [PyData.canLay0] using (okds_iff.mp h).1, by simpa [PyData.depth] using (okds_iff.mp h).2⟩
theorem OkD.tup_inv {n : Nat} {ds : List PyData} (h : OkD (n + 1) (.tuple ds)) : OkDs n ds := okds_iff.mpr ⟨by simpa [PyData.canLay0] using h.lay, by simpa [PyData.depth] using h.dep⟩
theorem OkD.lst_inv {n : Nat} {ds : List PyData} (h : OkD (n + 1) (.list ds)) : OkDs n ds := okds_iff.mpr ⟨by simpa [PyData.canLay0] using h.lay, by simpa [PyData.depth] using h.dep⟩
theorem OkD.int {n : Nat} (i : Int) : OkD n (.int i) := ⟨rfl, Nat.zero_le _⟩
theorem OkD.bl {n : Nat} (i : Bool) : OkD n (.bool i) := ⟨rfl, Nat.zero_le _⟩
theorem OkD.non {n : Nat} : OkD n .none := ⟨rfl, Nat.zero_le _⟩
theorem OkDs.nil {n : Nat} : OkDs n [] := fun _ h => nomatch h
theorem OkDs.cons {n : Nat} {d : PyData} {ds : List PyData} (h : OkD n d) (g : OkDs n ds) : OkDs n (d :: ds) := fun x hx => by
  rcases List.mem_cons.mp hx with rfl | hx
  · exact h
  · exact g x hx
theorem OkD.shaped {n : Nat} {d : PyData} (h : OkD n d) (l : n ≤ 64) : SeqAt.shaped d = true := by
  unfold SeqAt.shaped
  rw [h.lay, Bool.true_and]
  exact decide_eq_true (Nat.le_trans h.dep l)
theorem OkD.refl {n : Nat} {d : PyData} (h : OkD n d) : PyData.eqv d d = true := eqv_refl d h.lay
/-! ### data beside one object -/
def del (H : Hp) (p : Addr) : Hp := fun b => if b = p then none else H b
theorem del_some {H : Hp} {p b : Addr} {o : HO} : del H p b = some o ↔ b ≠ p ∧ H b = some o := by
  unfold del
  by_cases e : b = p
  · rw [if_pos e]; simp [e]
  · rw [if_neg e]; simp [e]
theorem del_same {H : Hp} {p : Addr} : Same (del H p) H := fun b o e => (del_some.mp e).2
def SD (p : Addr) (H H' : Hp) : Prop := Same (del H p) (del H' p)
theorem Same.sd {p : Addr} (s : Same H H') : SD p H H' := fun b o e => del_some.mpr ⟨(del_some.mp e).1, s _ _ (del_some.mp e).2⟩
theorem SD.refl {p : Addr} : SD p H H := fun _ _ e => e
theorem SD.trans {p : Addr} {H1 : Hp} (a : SD p H H') (b : SD p H' H1) : SD p H H1 := fun c o e => b c o (a c o e)
theorem Nw.del {p q : Addr} {o : HO} (h : Nw H H' q o) (hp : H p ≠ none) : L2.del H' p q = some o := del_some.mpr ⟨fun e => hp (e ▸ h.no), h.at'⟩
structure AD (K : PySem.W.Frag) (p : Addr) (n : Nat) (H : Hp) (v : V) (d : PyData) : Prop where
  rd : RD K (del H p) v d
  ok : OkD n d
structure ADs (K : PySem.W.Frag) (p : Addr) (n : Nat) (H : Hp) (vs : List V) (ds : List PyData) : Prop where
  rds : RDs K (del H p) vs ds
  ok : OkDs n ds
variable {p : Addr} {n m : Nat} {v : V} {vs : List V} {d : PyData} {ds es : List PyData}
theorem AD.rd' (h : AD K p n H v d) : RD K H v d := RD.mono del_same _ h.rd
theorem AD.ty (h : AD K p n H v d) : TyN K H v (tyD d) := h.rd'.ty
theorem AD.go (h : AD K p n H v d) (s : SD p H H') : AD K p n H' v d := ⟨RD.mono s _ h.rd, h.ok⟩
theorem ADs.go (h : ADs K p n H vs ds) (s : SD p H H') : ADs K p n H' vs ds := ⟨RDs.mono s _ h.rds, h.ok⟩
theorem ADs.nil : ADs K p n H [] [] := ⟨rds_nil, .nil⟩
theorem ADs.cons (h : AD K p n H v d) (g : ADs K p n H vs ds) : ADs K p n H (v :: vs) (d :: ds) := ⟨rds_cons h.rd g.rds, .cons h.ok g.ok⟩
theorem ADs.one (h : AD K p n H v d) : ADs K p n H [v] [d] := .cons h .nil
theorem AD.int (i : Int) : AD K p n H (.int i) (.int i) := ⟨rd_int i, .int i⟩
theorem AD.bl (i : Bool) : AD K p n H (.bl i) (.bool i) := ⟨rd_bl i, .bl i⟩
theorem ADs.get (h : ADs K p n H vs ds) (i : Nat) (e : ds[i]? = some d) : ∃ x, vs[i]? = some x ∧ AD K p n H x d := by
  obtain ⟨x, e1, r⟩ := h.rds.get i e
  exact ⟨x, e1, r, h.ok d (List.mem_of_getElem? e)⟩
end
/-! ### t + u, t[a:b] of data -/
section
variable {X : Cx}
end
end L2
namespace HT
open PySem PySem.Spec PyProof.Rows
section
variable {prog : Program} {w : World} {A : Around} {E : Value → Shared → Prop} {s : Shared}
end
end HT
namespace L2
open PySem PySem.Spec PyProof.Rows
section
variable {X : Cx}
end
/-! ### a display of literals -/
def fr (H H' : Hp) : Hp := fun b => match H b with | none => H' b | some _ => none
def litAll (f : Expr → Option PyData) : List Expr → Option (List PyData)
  | [] => some []
  | e :: es => match f e, litAll f es with
    | some d, some ds => some (d :: ds)
    | _, _ => none
def lit : Nat → Expr → Option PyData
  | 0, _ => none
  | _ + 1, .Constant .none _ _ => some .none
  | _ + 1, .Constant (.bool b) _ _ => some (.bool b)
  | _ + 1, .Constant (.int i) _ _ => some (.int i)
  | _ + 1, .Constant (.str x) _ _ => some (.str x)
  | n + 1, .Tuple es _ _ => match litAll (lit n) es with
    | some ds => if ds.length ≤ 1000 then some (.tuple ds) else none
    | none => none
  | n + 1, .List es _ => match litAll (lit n) es with
    | some ds => if ds.length ≤ 1000 then some (.list ds) else none
    | none => none
  | n + 1, .UnaryOp .USub a _ => match lit n a with
    | some (.int i) => some (.int (-i))
    | _ => none
  | n + 1, .BinOp a .Pow b _ => match lit n a, lit n b with
    | some (.int i), some (.int j) => if 0 ≤ j ∧ j ≤ 1000000 ∧ i.natAbs < 2 ^ 64 then some (.int (i ^ j.toNat)) else none
    | _, _ => none
  | _, _ => none
section
variable {X : Cx}
end
end L2
namespace L2
theorem atI_of {α : Type} {xs : List α} {i : Int} {v : α} (h0 : 0 ≤ i) (h : xs[i.toNat]? = some v) : atI xs i = some v := by
  have hl : i.toNat < xs.length := (List.getElem?_eq_some_iff.mp h).1
  unfold atI ixN
  rw [if_pos h0, if_pos (by omega)]
  exact h
end L2
namespace L2
open PySem PySem.Spec PyProof.Rows
theorem smallN (n : Nat) (h : n ≤ 1000) : n ≤ sizeLine := Nat.le_trans h (by decide)
end L2
namespace L2
open PySem PySem.Spec PyProof.Rows
end L2


set_option Elab.async false
set_option linter.all false
set_option maxRecDepth 100000
namespace L2
open PySem PySem.Spec PyProof.Rows

/-! ### constants of the text -/
section
variable {K : PySem.W.Frag} {mg : Str → Option Value} {h : Heap}
end
section
variable {X : Cx}
end
/-! ### truths, one for each item -/
end L2


set_option Elab.async false
set_option linter.all false
set_option maxRecDepth 100000
namespace L2
open PySem PySem.Spec PyProof.Rows
section
variable {X : Cx}
/-! ### list + list -/
/-! ### in, not in: data -/
open Classical in
/-! ### a list taken apart -/
/-! ### a list or a tuple turned about -/
end
end L2
namespace L2
end L2


set_option Elab.async false
set_option linter.all false
set_option maxRecDepth 100000
namespace L2
open PySem PySem.Spec PyProof.Rows
/-! ### zip of two rows, each a list or a tuple -/
def ItO (b : Bool) (h : Heap) (it l : Addr) (k : Nat) : Prop := match b with | true => h.IsListIter it l k | false => h.IsTupleIter it l k
def SqO (b : Bool) (h : Heap) (l : Addr) (xs : Array Value) : Prop := match b with | true => h.IsList l xs | false => h.IsTuple l xs
def cnO (b : Bool) : String := match b with | true => "list_iterator" | false => "tuple_iterator"
theorem ItO.to {b : Bool} {h g : Heap} {it l : Addr} {k : Nat} (x : ItO b h it l k) (e : ∀ o, h.get? it = some o → g.get? it = some o) : ItO b g it l k := by
  cases b <;> (obtain ⟨o, ho, r⟩ := x; exact ⟨o, e o ho, r⟩)
theorem SqO.to {b : Bool} {h g : Heap} {l : Addr} {xs : Array Value} (x : SqO b h l xs) (e : ∀ o, h.get? l = some o → g.get? l = some o) : SqO b g l xs := by
  cases b <;> (obtain ⟨o, ho, r⟩ := x; exact ⟨o, e o ho, r⟩)
theorem ItO.ob {b : Bool} {h : Heap} {it l : Addr} {k : Nat} (x : ItO b h it l k) : ∃ o, h.get? it = some o ∧ o.cls = .type (cnO b) ∧ ∀ v, o.data ≠ .cell v := by
  cases b <;> (obtain ⟨o, ho, c, d⟩ := x; exact ⟨o, ho, c, fun v z => by rw [d] at z; cases z⟩)
section
variable {prog : Program} {w : World} {A : Around} {E : Value → Shared → Prop} {s : Shared}
end
section
variable {X : Cx} {pins : List (Addr × Obj)} {σ : St} {H : Hp} {s : Shared} {h' : Heap}
theorem Inv.turnedL {t' : Nat} {fp : List Addr} (I : Inv X pins σ H s) (k : ∀ b o, b ∉ fp → s.heap.get? b = some o → h'.get? b = some o) (hf : ∀ b ∈ fp, FpOk X pins H b) : Inv X pins σ H { s with heap := h', toks := t' } := by
  have nit : ∀ b u, H b = some u → b ∉ fp := fun b u e z => by rw [(hf b z).1] at e; cases e
  have hL : X.env.locals ∉ fp := fun z => (hf _ z).2.1 rfl
  refine I.step (g' := s.gens) (d' := s.drawn) (ch := fp) (fun b hb => ?_) (fun b o _ _ hc e _ => k b o hc e) (fun b o _ _ hc e _ => ⟨o.slots, k b o hc e⟩) (fun _ _ _ _ n => n)
    (fun b o hc e => ⟨o, k b o hc e⟩) (fun _ _ e => e) (fun _ _ _ e => e) (fun b ps e => ⟨#[], by rw [e]; simp⟩) (fun m hm => ?_) (fun b u e => ?_) I.bare
  · obtain ⟨f0, f1, f2, f3, f4, f5⟩ := hf b hb
    exact ⟨f3, f1, f4, f5⟩
  · obtain ⟨o, es, ep, ho, r⟩ := hm
    exact ⟨o, es, ep, k _ o hL ho, r⟩
  · refine (I.hok b u e).stay (fun c v hc q => k c v ?_ q) (fun _ q => q) fun _ _ q => q
    rcases hc with z | z
    · rw [z]; exact nit b u e
    · exact nit c _ z
end
def SqV (b : Bool) (K : PySem.W.Frag) (H : Hp) (a : Addr) (xs : List V) : Prop := match b with | true => SqL K H a xs | false => SqT K H a xs
theorem SqV.get {X : Cx} {pins : List (Addr × Obj)} {σ : St} {H : Hp} {s : Shared} {b : Bool} {a : Addr} {xs : List V} (I : Inv X pins σ H s) (h : SqV b X.K H a xs) : ∃ its : List Value, Vals xs its ∧ SqO b s.heap a its.toArray := by
  cases b
  · obtain ⟨its, r, p, _⟩ := I.tuple h; exact ⟨its, r, p⟩
  · obtain ⟨its, r, p, _⟩ := I.list h; exact ⟨its, r, p.isList⟩
theorem SqV.inj {X : Cx} {pins : List (Addr × Obj)} {σ : St} {H : Hp} {s : Shared} {b : Bool} {a : Addr} {xs ys : List V} (I : Inv X pins σ H s) (h : SqV b X.K H a xs) (g : SqV b X.K H a ys) : xs = ys := by
  cases b
  · exact I.tuple_inj h g
  · exact I.list_inj h g
end L2


set_option Elab.async false
set_option linter.all false
set_option maxRecDepth 100000
namespace L2
open PySem PySem.Spec PyProof.Rows
theorem SqV.go {b : Bool} {K : PySem.W.Frag} {H H' : Hp} {a : Addr} {xs : List V} (s : Same H H') (h : SqV b K H a xs) : SqV b K H' a xs := by
  cases b
  · exact SqT.go s h
  · exact SqL.go s h
end L2


set_option Elab.async false
set_option linter.all false
set_option maxRecDepth 100000
namespace L2
open PySem PySem.Spec PyProof.Rows
theorem ObjOk.there {P : Program} {w : World} {H : Hp} {h : Heap} {a : Addr} {o : HO} (x : ObjOk P w H h a o) : ∃ ob, h.get? a = some ob := by
  induction o with
  | lst xs => obtain ⟨_, _, _, _, e⟩ := x; exact ⟨_, e⟩
  | tup xs => obtain ⟨_, _, _, ob, e, _⟩ := x; exact ⟨ob, e⟩
  | dK kvs => obtain ⟨_, _, _, _, ob, _, _, e, _⟩ := x; exact ⟨ob, e⟩
  | dT kvs => obtain ⟨_, _, _, _, ob, _, _, e, _⟩ := x; exact ⟨ob, e⟩
  | set S n => obtain ⟨ob, _, _, _, e, _⟩ := x; exact ⟨ob, e⟩
  | ins C dx fs => obtain ⟨_, _, _, e, _⟩ := x; exact ⟨_, e⟩
  | own y => exact x
  | xd fs => obtain ⟨_, ⟨ob, _, _, e, _⟩, _⟩ := x; exact ⟨ob, e⟩
  | rng lo hi => obtain ⟨_, _, _, e⟩ := x; exact ⟨_, e⟩
  | frz ob u => exact ⟨_, x.1⟩
  | tbl ps => exact ⟨_, x⟩
  | met f y => exact ⟨_, x⟩
  | ext φ => exact x.2.1
/-! ### an exception on its way -/
/-- all but the frames and the exception's own records is as it was; B is that part -/
structure Fl (P : Program) (w : World) (outer : List Env) (H : Hp) (h₁ : Heap) (ex : Addr) (H' : Hp) (B h : Heap) : Prop where
  un : Un (frs outer) [] H H' h₁ h
  hok : HOk P w H' h
  k1 : ∀ b o, h₁.get? b = some o → H b = none → b ∉ frs outer → B.get? b = some o
  k2 : ∀ b o, H' b = some o → ∃ ob, B.get? b = some ob
  k3 : ∀ b o, h₁.get? b = some o → b ∉ frs outer → ∃ ob, B.get? b = some ob
  fr : ∀ b ∈ frs outer, H' b = none
  nw : h₁.get? ex = none
  ne : H' ex = none
theorem Fl.step {P : Program} {w : World} {outer : List Env} {H H' : Hp} {h₁ B h h' : Heap} {ex : Addr} {base : Heap} (F : Fl P w outer H h₁ ex H' B h) (st : B.StaysIn h) (st' : B.StaysIn h') (up : h.UpToSlots h') (ff : h.FunFrames base outer) : Fl P w outer H h₁ ex H' B h' := by
  have slot : ∀ b o, h₁.get? b = some o → H b = none → b ∈ frs outer → ∃ sl, h'.get? b = some { o with slots := sl } := fun b o e n hb => by
    obtain ⟨sl, e1⟩ := F.un.slot b o e n hb (by simp)
    obtain ⟨_, o2, e2, hd⟩ := ff.mem hb
    rw [e1] at e2
    cases e2
    obtain ⟨sl', e3⟩ := up b _ e1 (fun vs => hd vs)
    exact ⟨sl', e3⟩
  refine ⟨⟨fun b o e n hb _ => st' b o (F.k1 b o e n hb), fun b o e n hb _ => slot b o e n hb, F.un.free, fun b o e hx => ?_, F.un.tups, F.un.frzs, F.un.tbls⟩, fun b u e => ?_, F.k1, F.k2, F.k3, F.fr, F.nw, F.ne⟩
  · by_cases hb : b ∈ frs outer
    · obtain ⟨_, o2, e2, hd⟩ := ff.mem hb
      obtain ⟨sl, e3⟩ := up b o2 e2 hd
      exact ⟨_, e3⟩
    · obtain ⟨ob, e1⟩ := F.k3 b o e hb
      exact ⟨ob, st' b ob e1⟩
  · refine (F.hok b u e).stay (fun c v hc q => ?_) (fun _ q => q) fun _ _ q => q
    have inB : ∃ ob, B.get? c = some ob := by
      rcases hc with z | z
      · rw [z]; exact F.k2 b u e
      · exact F.k2 c _ z
    obtain ⟨ob, e1⟩ := inB
    have e2 := st c ob e1
    rw [q] at e2
    cases e2
    exact st' c _ e1
section
variable {P : Program} {w : World} {K : PySem.W.Frag} {mg : Str → Option Value} {base : Heap} {N : List Str} {qual : Str} {scope : Scope} {f : Addr} {cd : Value} {A : Around} {outer : List Env} {s : Shared} {H : Hp} {E : XK} {pins : List (Addr × Obj)} {σ : St} {H1 : Hp} {s1 : Shared} {h2 : Heap} {ex : Addr} {cls : Value} {vs : List Value}
end
/-! ### an own exception class without methods -/
structure Exc (K : PySem.W.Frag) (mg : Str → Option Value) (x : Str) (C : Addr) (bmB : List Value) (newId : String) : Prop where
  at' : mg x = some (.ref C)
  ok : PySem.W.excIn K C bmB newId = true
theorem Exc.own {K : PySem.W.Frag} {mg : Str → Option Value} {x : Str} {C : Addr} {bmB : List Value} {newId : String} {h : Heap} (e : Exc K mg x C bmB newId) (X : K.In h) : OwnCls x C bmB newId mg h := by
  refine ⟨e.at', ?_⟩
  have q := e.ok
  unfold PySem.W.excIn at q
  split at q
  · rename_i dd cd sl ho
    split at q
    · rename_i D2 bl a0 a1 a2 a3 nn a5 hm hs
      simp only [beq_iff_eq, Bool.and_eq_true, Bool.not_eq_true'] at q
      obtain ⟨⟨⟨⟨⟨r1, r2⟩, hdel⟩, ht⟩, hok⟩, hni⟩ := q
      subst r1 r2
      obtain ⟨c1, c2, c3, c4, c5, c6, c7, c8, c9, c10, c11⟩ := cd
      dsimp only at hm hdel hok hni; subst hm hdel
      obtain ⟨l⟩ := sl
      simp only at hs; subst hs
      exact ⟨bl, c4, c1, c5, c2, c6, c7, c8, c9, c10, dd, a0, a1, a2, a3, a5, _, X _ _ ho, .of_isNs (PySem.W.isNs_of_in X hok), PySem.W.nsMap_none_of_in X hok hni, PySem.W.tail_of_in X ht⟩
    · cases q
  · cases q
section
variable {X : Cx} {x : Str} {C : Addr} {bmB : List Value} {newId initId B : String} {e : Expr} {t : TA} {np cpos pos : Pos}
end
end L2


set_option Elab.async false
set_option linter.all false
set_option maxRecDepth 100000
namespace L2
open PySem PySem.Spec PyProof.Rows
/-! ### the class of a handler -/
section
variable {M : Model} {A : Around} {Ex : Value → Shared → Prop}
end
/-! ### a def that may raise -/
section
variable {X : Cx} {k : Nat} {x : Str} {p pos : Pos} {e : Expr} {es : List Expr} {t : TA} {sp : Sp}
end
/-! ### try, with one clause that takes it -/
abbrev Cx.hand (X : Cx) (ex : Addr) : Cx := { X with A := X.A.mark (some (.ref ex)), calm := false, xe := fun _ _ => False }
section
variable {X : Cx} {pins : List (Addr × Obj)} {σ : St} {H : Hp} {s : Shared}
theorem Inv.hand (I : Inv X pins σ H s) (ex : Addr) : Inv (X.hand ex) pins σ H s :=
  ⟨⟨I.ok.mod, I.ok.kind, I.ok.glob, I.ok.blt, I.ok.above, I.ok.inj, I.ok.has, I.ok.cab, fun h => (Bool.false_ne_true h).elim, I.ok.frames, I.ok.stk, I.ok.exf, I.ok.bs, I.ok.bsz, I.ok.noex, I.ok.exfs, I.ok.funs, I.ok.frf⟩,
    I.os, I.bare, I.base, I.loc, I.cell, I.free, I.freeC, I.pin, I.hok, I.len⟩
end
/-! ### a def's own statements, nothing pinned -/
def PSs0 (X : Cx) (st : List Stmt) (t : TS) : Prop := ∀ (s : Shared) (σ : St) (H : Hp) (D : Ends), Inv X [] σ H s → t D σ H → wpAny (model X.prog X.w) X.A (execs st X.env) (SP X [] D) X.xe s
def PS0 (X : Cx) (st : Stmt) (t : TS) : Prop := ∀ (s : Shared) (σ : St) (H : Hp) (D : Ends), Inv X [] σ H s → t D σ H → wpAny (model X.prog X.w) X.A (exec st X.env) (SP X [] D) X.xe s
theorem PSs0.one {X : Cx} {st : Stmt} {t : TS} (h : PS0 X st t) : PSs0 X [st] t := by
  intro s σ H D I q
  refine wpAny_execs_cons (thn (h s σ H D I q) fun f s1 q => ?_)
  cases f with
  | next => exact wpAny_execs_nil q
  | ret v => exact q
  | brk => exact q
  | cont => exact q
/-- class C is one that a clause for D takes -/
def takes (K : PySem.W.Frag) (C D : Addr) : Prop := PySem.W.mroIn K C (.ref D) = some true
section
variable {X : Cx} {i : Nat} {n y : Str} {Dc : Addr} {bmD : List Value} {newD : String} {body suite : List Stmt} {b0 : Stmt} {np hpos pos : Pos} {tb : XK → TS} {th : TS} {Cs : Addr → Prop}
end
end L2


set_option Elab.async false
set_option linter.all false
set_option maxRecDepth 100000
namespace L2
open PySem PySem.Spec PyProof.Rows PySem.W Builtin.Getset_descriptor
section
variable {prog : Program} {w : World} {A : Around} {E : Value → Shared → Prop} {h : Heap} {g : Array GenState} {d : Drawn} {t : Nat} {os : OsState} {K : Frag} {x C : Addr} {o : Obj}
end
end L2


set_option Elab.async false
set_option linter.all false
set_option maxRecDepth 100000
namespace L2
open PySem PySem.Spec PyProof.Rows
/-! ### isinstance of an exception, by own classes and built-in ones -/
section
variable {X : Cx}
end
end L2
namespace L2
open PySem PySem.Spec PyProof.Rows
end L2
namespace L2
open PySem PySem.Spec PyProof.Rows
end L2


namespace Ar
theorem gcd_fm (a b : Int) : Int.gcd b (a.fmod b) = Int.gcd a b := by
  rw [Int.fmod_def, Int.gcd_sub_mul_left_right, Int.gcd_comm]
theorem fm_lt {a b : Int} (h : b ≠ 0) : (a.fmod b).natAbs < b.natAbs := by
  rw [Int.fmod_eq_emod]
  have h0 := Int.emod_nonneg a h
  have h1 := Int.emod_lt a h
  by_cases hb : 0 ≤ b
  · rw [if_pos (.inl hb)]; omega
  · by_cases hd : b ∣ a
    · rw [if_pos (.inr hd), Int.emod_eq_zero_of_dvd hd]; omega
    · have : a % b ≠ 0 := fun z => hd (Int.dvd_of_emod_eq_zero z)
      rw [if_neg (by simp [hb, hd])]; omega
def sg (p q : Int) : Int := if q < 0 then -(Int.gcd p q : Int) else (Int.gcd p q : Int)
def lowP (p q : Int) : Int := p.fdiv (sg p q)
def lowQ (p q : Int) : Int := q.fdiv (sg p q)
theorem gcd_pos {p q : Int} (h : q ≠ 0) : 0 < (Int.gcd p q : Int) := by
  have : Int.gcd p q ≠ 0 := fun z => h (Int.gcd_eq_zero_iff.mp z).2
  omega
theorem sg_ne {p q : Int} (h : q ≠ 0) : sg p q ≠ 0 := by
  have := gcd_pos (p := p) h
  unfold sg; split <;> omega
theorem sg_dvd_left (p q : Int) : sg p q ∣ p := by
  unfold sg; split
  · exact Int.neg_dvd.mpr (Int.gcd_dvd_left p q)
  · exact Int.gcd_dvd_left p q
theorem sg_dvd_right (p q : Int) : sg p q ∣ q := by
  unfold sg; split
  · exact Int.neg_dvd.mpr (Int.gcd_dvd_right p q)
  · exact Int.gcd_dvd_right p q
theorem lowP_mul (p q : Int) : sg p q * lowP p q = p := by
  unfold lowP; rw [Int.fdiv_eq_ediv_of_dvd (sg_dvd_left p q)]; exact Int.mul_ediv_cancel' (sg_dvd_left p q)
theorem lowQ_mul (p q : Int) : sg p q * lowQ p q = q := by
  unfold lowQ; rw [Int.fdiv_eq_ediv_of_dvd (sg_dvd_right p q)]; exact Int.mul_ediv_cancel' (sg_dvd_right p q)
theorem sg_abs (p q : Int) : (sg p q).natAbs = Int.gcd p q := by unfold sg; split <;> omega
theorem low_cop {p q : Int} (h : q ≠ 0) : Int.gcd (lowP p q) (lowQ p q) = 1 := by
  have e : Int.gcd (sg p q * lowP p q) (sg p q * lowQ p q) = (sg p q).natAbs * Int.gcd (lowP p q) (lowQ p q) := Int.gcd_mul_left _ _ _
  rw [lowP_mul, lowQ_mul, sg_abs] at e
  have g := gcd_pos (p := p) h
  have g' : 0 < Int.gcd p q := by omega
  have e' : Int.gcd p q * 1 = Int.gcd p q * Int.gcd (lowP p q) (lowQ p q) := by omega
  exact (Nat.eq_of_mul_eq_mul_left g' e').symm
theorem lowQ_pos {p q : Int} (h : q ≠ 0) : 0 < lowQ p q := by
  have e := lowQ_mul p q
  have g := gcd_pos (p := p) h
  by_cases hq : q < 0
  · have es : sg p q = -(Int.gcd p q : Int) := by unfold sg; rw [if_pos hq]
    rw [es] at e
    refine Int.not_le.mp fun hl => ?_
    have : 0 ≤ -(Int.gcd p q : Int) * lowQ p q := Int.mul_nonneg_of_nonpos_of_nonpos (by omega) hl
    omega
  · have es : sg p q = (Int.gcd p q : Int) := by unfold sg; rw [if_neg hq]
    rw [es] at e
    refine Int.not_le.mp fun hl => ?_
    have : (Int.gcd p q : Int) * lowQ p q ≤ 0 := Int.mul_nonpos_of_nonneg_of_nonpos (by omega) hl
    omega
theorem abs_le_of_mul {s x y : Int} (hs : s ≠ 0) (e : s * x = y) : x.natAbs ≤ y.natAbs := by
  rw [← e, Int.natAbs_mul]
  exact Nat.le_mul_of_pos_left _ (by omega)
theorem lowP_le {p q : Int} (h : q ≠ 0) : (lowP p q).natAbs ≤ p.natAbs := abs_le_of_mul (sg_ne h) (lowP_mul p q)
theorem lowQ_le {p q : Int} (h : q ≠ 0) : (lowQ p q).natAbs ≤ q.natAbs := abs_le_of_mul (sg_ne h) (lowQ_mul p q)
theorem sg_le {p q : Int} (h : q ≠ 0) : (sg p q).natAbs ≤ q.natAbs := by
  rw [sg_abs]
  exact Nat.le_of_dvd (by omega) (Int.gcd_dvd_natAbs_right p q)
end Ar


namespace Rt
open Rat
theorem cop (r : Rat) : Int.gcd r.num r.den = 1 := by
  have := r.reduced
  simpa [Int.gcd, Nat.Coprime] using this
/-- bounds -/
structure Bd (n : Nat) (r : Rat) : Prop where
  num : r.num.natAbs < 2 ^ n
  den : r.den < 2 ^ n
theorem Bd.mono {n m : Nat} {r : Rat} (h : Bd n r) (l : n ≤ m) : Bd m r := ⟨Nat.lt_of_lt_of_le h.num (Nat.pow_le_pow_right (by decide) l), Nat.lt_of_lt_of_le h.den (Nat.pow_le_pow_right (by decide) l)⟩
section
variable {n m : Nat} {r s : Rat}
end
end Rt


set_option Elab.async false
set_option linter.all false
set_option maxRecDepth 100000
namespace L2
open PySem PySem.Spec PyProof.Rows

/-! ### whatever is no list stays -/
def SameT (H H' : Hp) : Prop := ∀ b o, (∀ xs, o ≠ .lst xs) → H b = some o → H' b = some o
section
variable {K : PySem.W.Frag} {H H' H2 : Hp}
theorem Same.t (s : Same H H') : SameT H H' := fun b o _ e => s b o e
theorem SameT.refl : SameT H H := fun _ _ _ e => e
theorem SameT.trans (a : SameT H H') (b : SameT H' H2) : SameT H H2 := fun c o n e => b c o n (a c o n e)
theorem SameT.updL {D : Addr} {xs ys : List V} (h : H D = some (.lst xs)) : SameT H (upd H D (.lst ys)) := fun b o n e => by
  rw [upd_ne (ne_of e h (n xs))]; exact e
theorem SqT.t {a : Addr} {xs : List V} (s : SameT H H') (h : SqT K H a xs) : SqT K H' a xs :=
  h.imp (fun r => r.imp (s _ _ fun _ z => nomatch z) fun ⟨o, e⟩ => ⟨o, s _ _ (fun _ z => nomatch z) e⟩) id
mutual
/-- no list in it -/
def noL : PyData → Bool
  | .list _ => false
  | .dict _ => false
  | .tuple ds => noLs ds
  | .none => true
  | .bool _ => true
  | .int _ => true
  | .str _ => true
def noLs : List PyData → Bool
  | [] => true
  | d :: ds => noL d && noLs ds
end
theorem noLs_mem : ∀ {ds : List PyData}, noLs ds = true ↔ ∀ d ∈ ds, noL d = true
  | [] => ⟨fun _ _ h => (nomatch h), fun _ => by simp [noLs]⟩
  | d :: ds => by
    rw [noLs, Bool.and_eq_true, noLs_mem (ds := ds)]
    constructor
    · rintro ⟨a, b⟩ x hx
      rcases List.mem_cons.mp hx with rfl | hx
      · exact a
      · exact b x hx
    · intro h
      exact ⟨h d (.head _), fun x hx => h x (.tail _ hx)⟩
theorem noLs_ints (ns : List Int) : noLs (ns.map PyData.int) = true := noLs_mem.mpr fun d hd => by
  obtain ⟨i, _, rfl⟩ := List.mem_map.mp hd
  simp [noL]
mutual
theorem RD.t (s : SameT H H') : ∀ {x : V} (d : PyData), noL d = true → RD K H x d → RD K H' x d
  | x, .none, _, h => by simpa [RD] using h
  | x, .bool b, _, h => by simpa [RD] using h
  | x, .int i, _, h => by simpa [RD] using h
  | x, .str y, _, h => by simpa [RD] using h
  | x, .list ds, n, h => by simp [noL] at n
  | x, .tuple ds, n, h => by
    rw [RD] at h ⊢
    obtain ⟨a, xs, e, h1, h2⟩ := h
    exact ⟨a, xs, e, h1.t s, RDs.t s ds (by simpa [noL] using n) h2⟩
  | x, .dict _, _, h => by simp [RD] at h
theorem RDs.t (s : SameT H H') : ∀ {xs : List V} (ds : List PyData), noLs ds = true → RDs K H xs ds → RDs K H' xs ds
  | xs, [], _, h => by simpa [RDs] using h
  | xs, d :: ds, n, h => by
    rw [RDs] at h ⊢
    rw [noLs, Bool.and_eq_true] at n
    obtain ⟨y, ys, e, h1, h2⟩ := h
    exact ⟨y, ys, e, RD.t s d n.1 h1, RDs.t s ds n.2 h2⟩
end
theorem RDs.ints_inv : ∀ {xs : List V} {ns : List Int}, RDs K H xs (ns.map PyData.int) → xs = ns.map V.int
  | xs, [], h => h.nil_inv
  | xs, n :: ns, h => by
    obtain ⟨y, ys, rfl, h1, h2⟩ := h.cons_inv
    rw [h1.int_inv, RDs.ints_inv h2]; rfl
theorem rds_ints : ∀ (ns : List Int), RDs K H (ns.map V.int) (ns.map PyData.int)
  | [] => rds_nil
  | n :: ns => rds_cons (rd_int n) (rds_ints ns)
/-! ### comprehensions, of data -/
theorem comp_rd {J : It} {xs : List V} {ds : List PyData} {te : TE} {Q : VK} {D : Addr} {H0 : Hp} (rest : St) (nw : Nw H H0 D (.lst [])) (hl : xs.length = ds.length) (hz : xs.length ≤ 1000) (hn : noLs ds = true)
    (go : ∀ i x H2, xs[i]? = some x → Same H H2 → J.go i H2 ∧ ∀ y H3, J.yld i H2 y H3 → H3 = H2 ∧ y = x) (stop : ∀ H2, Same H H2 → J.stop xs.length H2)
    (hs : ∀ (i : Nat) (x : V) (d : PyData) (H2 : Hp) (Q' : VK), xs[i]? = some x → ds[i]? = some d → Same H H2 → (∀ y H3, Same H2 H3 → RD K H3 y d → Q' y H3) → te (some x :: rest) H2 Q')
    (hq : ∀ H' ys, Same H H' → H' D = some (.lst ys) → RDs K H' ys ds → Q (.ref D) H') : CompW J (gName 0) tYes te Q D (none :: rest) H0 := by
  have hD := nw.no
  refine comp_by xs.length (fun i σ H2 => Same H H2 ∧ (∃ ys, H2 D = some (.lst ys) ∧ RDs K H2 ys (ds.take i)) ∧ ∃ v, σ = v :: rest) ?_ ?_ ?_
  · exact ⟨nw.same, ⟨[], nw.at', rds_nil⟩, none, rfl⟩
  · rintro i σ H2 hi ⟨s2, ⟨ys, d2, r2⟩, v, rfl⟩
    have hib : i < ds.length := by rw [← hl]; exact hi
    have ex := List.getElem?_eq_getElem hi
    have eb := List.getElem?_eq_getElem hib
    obtain ⟨g1, g2⟩ := go i _ H2 ex s2
    refine ⟨g1, fun y H3 hy => ?_⟩
    obtain ⟨rfl, rfl⟩ := g2 y H3 hy
    refine yesN ?_
    refine hs i _ _ _ _ ex eb s2 fun z H4 s4 r4 => ?_
    have d4 := s4 _ _ d2
    have len := r2.length
    rw [List.length_take] at len
    refine ⟨ys, d4, ?_, xs.length - (i + 1), by omega, rfl, by omega, fun b o e => ?_, ⟨ys ++ [z], upd_same, ?_⟩, _, rfl⟩
    · have : (1000 : Nat) < sizeLine := by decide
      omega
    · rw [upd_ne (ne_of_none e hD)]; exact s4 b o (s2 b o e)
    · have t : SameT H4 (upd H4 D (.lst (ys ++ [z]))) := .updL d4
      rw [List.take_succ, eb]
      have n1 : noLs (ds.take i) = true := noLs_mem.mpr fun d hd => noLs_mem.mp hn d (List.mem_of_mem_take hd)
      exact (RDs.t t _ n1 (RDs.mono s4 _ r2)).append (rds_cons (RD.t t _ (noLs_mem.mp hn _ (List.getElem_mem hib)) r4) rds_nil)
  · rintro σ H2 ⟨s2, ⟨ys, d2, r2⟩, v, rfl⟩
    refine ⟨stop H2 s2, hq H2 ys s2 d2 ?_⟩
    rw [hl, List.take_length] at r2
    exact r2
theorem comp_rdT {a : Addr} {xs : List V} {ds : List PyData} {te : TE} {Q : VK} {D : Addr} {H0 : Hp} (rest : St) (hx : SqT K H a xs) (nw : Nw H H0 D (.lst [])) (hl : xs.length = ds.length) (hz : xs.length ≤ 1000) (hn : noLs ds = true)
    (hs : ∀ (i : Nat) (x : V) (d : PyData) (H2 : Hp) (Q' : VK), xs[i]? = some x → ds[i]? = some d → Same H H2 → (∀ y H3, Same H2 H3 → RD K H3 y d → Q' y H3) → te (some x :: rest) H2 Q')
    (hq : ∀ H' ys, Same H H' → H' D = some (.lst ys) → RDs K H' ys ds → Q (.ref D) H') : CompW (Itt K a) (gName 0) tYes te Q D (none :: rest) H0 :=
  comp_rd rest nw hl hz hn (fun i x H2 e s => ⟨⟨xs, x, hx.go s, e⟩, fun y H3 ⟨e3, y3⟩ => ⟨e3, by have := y3 _ (hx.go s); rw [e] at this; exact (Option.some.inj this).symm⟩⟩) (fun H2 s => ⟨xs, hx.go s, Nat.le_refl _⟩) hs hq
end
/-! ### max of a list of ints, any of ints -/
section
variable {X : Cx}
theorem ints_at' {ns : List Int} {us : List Value} (r : Vals (ns.map V.int) us) {i : Nat} {v : Value} (h : us[i]? = some v) : ∃ n t, ns[i]? = some n ∧ v = Value.int n t := by
  have hl := r.length
  rw [List.length_map] at hl
  have hi : i < ns.length := by rw [hl]; exact (List.getElem?_eq_some_iff.mp h).1
  obtain ⟨u, e, ru⟩ := r.get (i := i) (x := .int ns[i]) (by rw [List.getElem?_map, List.getElem?_eq_getElem hi]; rfl)
  rw [h] at e
  cases e
  obtain ⟨t, rfl⟩ := (show ∃ t, v = Value.int ns[i] t from ru)
  exact ⟨_, t, List.getElem?_eq_getElem hi, rfl⟩
theorem range_anyI (ns : List Int) : ((List.range ns.length).any fun i => ((ns.map (· != 0))[i]?).getD false) = ns.any (· != 0) := by
  have := LSm.range_any (ns.map (· != 0))
  rw [List.length_map] at this
  rw [this, List.any_map]; rfl
theorem anyIK (K : PySem.W.Frag) (hK : X.K = K) (hc : X.calm = true) : CallR X (.builtin "any") (fun xs H Q => ∃ (l : Addr) (ns : List Int), xs = [.ref l] ∧ (SqL K H l (ns.map V.int) ∨ SqT K H l (ns.map V.int)) ∧ Q (.bl (ns.any (· != 0))) H) := by
  subst hK
  intro pins s σ H xs us Q I r h
  obtain ⟨l, ns, rfl, hl, q⟩ := h
  obtain ⟨u, rfl, ru⟩ := vals1 r
  cases (show u = Value.ref l from ru)
  have hh := I.ok.hd hc
  have fin : ∀ (its : List Value), Vals (ns.map V.int) its → ((List.range its.toArray.size).any fun i => ((ns.map (· != 0))[i]?).getD false) = ns.any (· != 0) := fun its rv => by
    rw [List.size_toArray, ← rv.length, List.length_map]; exact range_anyI ns
  rcases hl with hl | hl
  · obtain ⟨its, rv, pl, hz⟩ := I.list hl
    have hl' := pl.isList
    have hlt : l < s.heap.objs.size := by obtain ⟨_, e, _⟩ := hl'; exact Heap.lt_size e
    refine call_any_walk (wpAny_pyIter_list hl' ?_)
    refine ⟨s.heap.objs.size, [s.heap.objs.size, l], [s.heap.objs.size], its.toArray.size, _, _, fun i => ((ns.map (· != 0))[i]?).getD false, rfl, Walks.list (A := X.A.in1) hh _ l (Nat.ne_of_lt hlt) its.toArray,
      ⟨⟨_, Heap.get?_push_size _ rfl, rfl, rfl⟩, hl'.push _⟩, fun i v s' Q' E' hP hQ => ?_, fun h' tk hk => ?_⟩
    · obtain ⟨n, t, e, rfl⟩ := ints_at' rv (i := i) (v := v) (by simpa using hP)
      simp only [List.getElem?_map, e] at hQ
      exact truthy_int hQ
    · rw [fin its rv]
      exact ⟨.bl _, H, I.kept (LSm.kept_iter hk), rfl, q⟩
  · obtain ⟨its, rv, pl, hz⟩ := I.tuple hl
    have hl' : s.heap.IsTuple l its.toArray := by
      obtain ⟨⟨cls, dd, data, sl⟩, ho, hc', n, hd⟩ := pl
      exact ⟨_, ho, hc', by simpa using ⟨n, hd⟩⟩
    have hlt : l < s.heap.objs.size := by obtain ⟨_, e, _⟩ := hl'; exact Heap.lt_size e
    refine call_any_walk (wpAny_pyIter_tuple hl' ?_)
    refine ⟨s.heap.objs.size, [s.heap.objs.size, l], [s.heap.objs.size], its.toArray.size, _, _, fun i => ((ns.map (· != 0))[i]?).getD false, rfl, Walks.tuple (A := X.A.in1) hh _ l (Nat.ne_of_lt hlt) its.toArray,
      ⟨⟨_, Heap.get?_push_size _ rfl, rfl, rfl⟩, hl'.push _⟩, fun i v s' Q' E' hP hQ => ?_, fun h' tk hk => ?_⟩
    · obtain ⟨n, t, e, rfl⟩ := ints_at' rv (i := i) (v := v) (by simpa using hP)
      simp only [List.getElem?_map, e] at hQ
      exact truthy_int hQ
    · rw [fin its rv]
      exact ⟨.bl _, H, I.kept (LSm.kept_iter hk), rfl, q⟩
end
end L2


set_option Elab.async false
set_option linter.all false
set_option maxRecDepth 100000
set_option maxHeartbeats 1000000
namespace Lw
open PySem PySem.Spec PyProof.Rows L2
/-! ### the bag -/
def OkCM (c m : Int) : Prop := 0 ≤ c ∧ 0 ≤ m ∧ m < 2147483648
def IsBag (H : Hp) (p : Addr) : Prop := ∃ c m, H p = some (.lst [.int c, .int m]) ∧ OkCM c m
structure BagX (p : Addr) (H H' : Hp) : Prop where
  bag : IsBag H' p
  same : ∀ b o, b ≠ p → H b = some o → H' b = some o
theorem BagX.refl {p : Addr} {H : Hp} (h : IsBag H p) : BagX p H H := ⟨h, fun _ _ _ e => e⟩
theorem BagX.trans {p : Addr} {H H1 H2 : Hp} (a : BagX p H H1) (b : BagX p H1 H2) : BagX p H H2 := ⟨b.bag, fun c o n e => b.same c o n (a.same c o n e)⟩
theorem BagX.upd {p : Addr} {H : Hp} {c m : Int} (h : OkCM c m) : BagX p H (L2.upd H p (.lst [.int c, .int m])) := ⟨⟨c, m, upd_same, h⟩, fun b o n e => by rw [upd_ne n]; exact e⟩
theorem BagX.new {p t : Addr} {H : Hp} {o : HO} (h : IsBag H p) (ht : H t = none) : BagX p H (L2.upd H t o) := by
  obtain ⟨c, m, e, ok⟩ := h
  have ne : p ≠ t := ne_of_none e ht
  exact ⟨⟨c, m, by rw [upd_ne ne]; exact e, ok⟩, fun b o' n e' => by rw [upd_ne (ne_of_none e' ht)]; exact e'⟩
theorem BagX.ofSame {p : Addr} {H H' : Hp} (h : IsBag H p) (s : Same H H') : BagX p H H' := by
  obtain ⟨c, m, e, ok⟩ := h
  exact ⟨⟨c, m, s _ _ e, ok⟩, fun b o _ e => s b o e⟩

theorem wd40 {j : Int} (h0 : 0 ≤ j) (h : j ≤ 10 ^ 40) : Wd j := by
  have : j.natAbs ≤ 10 ^ 40 := by omega
  exact Nat.lt_of_le_of_lt this (by decide +kernel)
theorem IsBag.ne_tup {H : Hp} {p q : Addr} {xs : List V} (h : IsBag H p) (e : H q = some (.tup xs)) : q ≠ p := by
  obtain ⟨c, m, e', _⟩ := h
  exact ne_of e e' (by intro z; cases z)
theorem IsBag.ne {H : Hp} {p : Addr} (h : IsBag H p) : H p ≠ none := by
  obtain ⟨c, m, e, _⟩ := h
  rw [e]; exact fun z => nomatch z
theorem BagX.sd {p : Addr} {H H' : Hp} (b : BagX p H H') : SD p H H' := fun c o e => del_some.mpr ⟨(del_some.mp e).1, b.same _ _ (del_some.mp e).1 (del_some.mp e).2⟩

theorem IsBag.ne_tup' {H : Hp} {p : Addr} {q : Addr} {o : HO} (h : IsBag H p) (e : H q = some o) (n : ∀ xs, o ≠ .lst xs) : q ≠ p := by
  obtain ⟨c, m, e', _⟩ := h
  exact ne_of e e' (n _)
theorem BagX.t {p : Addr} {H H' : Hp} (bg : IsBag H p) (b : BagX p H H') : SameT H H' := fun c o n e => b.same c o (bg.ne_tup' e n) e
theorem BagX.sameOf {p : Addr} {H0 H H' : Hp} (s : Same H0 H) (hp : H0 p = none) (b : BagX p H H') : Same H0 H' := fun c o e => b.same c o (ne_of_none e hp) (s c o e)
section
variable {K : PySem.W.Frag}
/-- whole numbers drawn, one a turn -/
theorem comp_bag {J : It} {te : TE} {Q : VK} {D p : Addr} {H H0 : Hp} (n : Nat) (rest : L2.St) (nw : Nw H H0 D (.lst [])) (bg : IsBag H p) (hn : n ≤ 1000) (xv : Nat → V)
    (go : ∀ i H2, i < n → BagX p H H2 → J.go i H2 ∧ ∀ y H3, J.yld i H2 y H3 → H3 = H2 ∧ y = xv i) (stop : ∀ H2, BagX p H H2 → J.stop n H2) (Pz : Int → Prop)
    (hs : ∀ i H2 (Q' : VK), i < n → BagX p H H2 → (∀ z H3, Pz z → BagX p H2 H3 → Q' (.int z) H3) → te (some (xv i) :: rest) H2 Q')
    (hq : ∀ H' (is : List Int), BagX p H H' → H' D = some (.lst (is.map V.int)) → is.length = n → (∀ z ∈ is, Pz z) → Q (.ref D) H') : CompW J (gName 0) tYes te Q D (none :: rest) H0 := by
  have hDp : D ≠ p := fun e => bg.ne (e ▸ nw.no)
  refine comp_by n (fun i σ H3 => BagX p H H3 ∧ (∃ is : List Int, H3 D = some (.lst (is.map V.int)) ∧ is.length = i ∧ ∀ z ∈ is, Pz z) ∧ ∃ v, σ = v :: rest) ?_ ?_ ?_
  · exact ⟨.ofSame bg nw.same, ⟨[], nw.at', rfl, fun _ h => (List.not_mem_nil h).elim⟩, none, rfl⟩
  · rintro i σ H3 hi ⟨b3, ⟨is, d3, li, pi⟩, v, rfl⟩
    obtain ⟨g1, g2⟩ := go i H3 hi b3
    refine ⟨g1, fun y H4 hy => ?_⟩
    obtain ⟨rfl, rfl⟩ := g2 y H4 hy
    refine yesN ?_
    refine hs i _ _ hi b3 fun z H5 pz b5 => ?_
    refine ⟨_, b5.same _ _ hDp d3, ?_, n - (i + 1), by omega, rfl, by omega, ?_, ⟨is ++ [z], ?_, ?_, ?_⟩, _, rfl⟩
    · rw [List.length_map, li]
      have : (1000 : Nat) < sizeLine := by decide
      omega
    · have b35 := b3.trans b5
      refine ⟨?_, fun b o n e => ?_⟩
      · obtain ⟨c, m, e, ok⟩ := b35.bag
        exact ⟨c, m, by rw [upd_ne hDp.symm]; exact e, ok⟩
      · rw [upd_ne (ne_of_none e nw.no)]; exact b35.same b o n e
    · rw [upd_same, List.map_append]; rfl
    · rw [List.length_append, li]; rfl
    · intro y hy
      rcases List.mem_append.mp hy with h | h
      · exact pi y h
      · rw [List.mem_singleton.mp h]; exact pz
  · rintro σ H3 ⟨b3, ⟨is, d3, li, pi⟩, v, rfl⟩
    exact ⟨stop H3 b3, hq H3 is b3 d3 li pi⟩
/-- things drawn, one a turn -/
theorem comp_rdB {J : It} {te : TE} {Q : VK} {D p : Addr} {H H0 : Hp} (n : Nat) (rest : L2.St) (nw : Nw H H0 D (.lst [])) (bg : IsBag H p) (hn : n ≤ 1000) (xv : Nat → V)
    (go : ∀ i H2, i < n → BagX p H H2 → J.go i H2 ∧ ∀ y H3, J.yld i H2 y H3 → H3 = H2 ∧ y = xv i) (stop : ∀ H2, BagX p H H2 → J.stop n H2) (Pd : Nat → PyData → Prop)
    (hs : ∀ i H2 (Q' : VK), i < n → BagX p H H2 → (∀ y d H3, Pd i d → noL d = true → RD K H3 y d → BagX p H2 H3 → Q' y H3) → te (some (xv i) :: rest) H2 Q')
    (hq : ∀ H' ys ds, BagX p H H' → H' D = some (.lst ys) → RDs K H' ys ds → ds.length = n → noLs ds = true → (∀ i d, ds[i]? = some d → Pd i d) → Q (.ref D) H') : CompW J (gName 0) tYes te Q D (none :: rest) H0 := by
  have hDp : D ≠ p := fun e => bg.ne (e ▸ nw.no)
  refine comp_by n (fun i σ H3 => BagX p H H3 ∧ (∃ ys ds, H3 D = some (.lst ys) ∧ RDs K H3 ys ds ∧ ds.length = i ∧ noLs ds = true ∧ ∀ j d, ds[j]? = some d → Pd j d) ∧ ∃ v, σ = v :: rest) ?_ ?_ ?_
  · exact ⟨.ofSame bg nw.same, ⟨[], [], nw.at', rds_nil, rfl, rfl, fun j d e => by simp at e⟩, none, rfl⟩
  · rintro i σ H3 hi ⟨b3, ⟨ys, ds, d3, r3, li, ni, pi⟩, v, rfl⟩
    obtain ⟨g1, g2⟩ := go i H3 hi b3
    refine ⟨g1, fun y H4 hy => ?_⟩
    obtain ⟨rfl, rfl⟩ := g2 y H4 hy
    refine yesN ?_
    refine hs i _ _ hi b3 fun z d H5 pz nz rz b5 => ?_
    have d5 := b5.same _ _ hDp d3
    have t : SameT H5 (L2.upd H5 D (.lst (ys ++ [z]))) := .updL d5
    refine ⟨ys, d5, ?_, n - (i + 1), by omega, rfl, by omega, ?_, ⟨ys ++ [z], ds ++ [d], upd_same, ?_, ?_, ?_, ?_⟩, _, rfl⟩
    · rw [r3.length, li]
      have : (1000 : Nat) < sizeLine := by decide
      omega
    · have b35 := b3.trans b5
      refine ⟨?_, fun b o n e => ?_⟩
      · obtain ⟨c, m, e, ok⟩ := b35.bag
        exact ⟨c, m, by rw [upd_ne hDp.symm]; exact e, ok⟩
      · rw [upd_ne (ne_of_none e nw.no)]; exact b35.same b o n e
    · exact (RDs.t ((BagX.t b3.bag b5).trans t) _ ni r3).append (rds_cons (RD.t t _ nz rz) rds_nil)
    · rw [List.length_append, li]; rfl
    · exact noLs_mem.mpr fun x hx => by
        rcases List.mem_append.mp hx with h | h
        · exact noLs_mem.mp ni x h
        · rw [List.mem_singleton.mp h]; exact nz
    · intro j e he
      by_cases hj : j < ds.length
      · rw [List.getElem?_append_left hj] at he
        exact pi j e he
      · have hj2 : j = ds.length := by
          have := (List.getElem?_eq_some_iff.mp he).1
          rw [List.length_append] at this
          have : j < ds.length + 1 := this
          omega
        subst hj2
        rw [List.getElem?_append_right (Nat.le_refl _), Nat.sub_self] at he
        cases he
        rw [li]; exact pz
  · rintro σ H3 ⟨b3, ⟨ys, ds, d3, r3, li, ni, pi⟩, v, rfl⟩
    exact ⟨stop H3 b3, hq H3 ys ds b3 d3 r3 li ni pi⟩
end
end Lw


set_option Elab.async false
set_option linter.all false
set_option maxRecDepth 100000
namespace Ln
open PySem L2
/-! ### the nearest -/
end Ln


set_option Elab.async false
set_option linter.all false
set_option maxRecDepth 100000
namespace L2
open PySem PySem.Spec PyProof.Rows
/-! ### a tuple times an int -/
end L2


set_option Elab.async false
set_option linter.all false
set_option maxRecDepth 100000
namespace L2
open PySem PySem.Spec PyProof.Rows
/-! ### enumerate of a list or a tuple -/
section
variable {prog : Program} {w : World} {A : Around} {E : Value → Shared → Prop} {s : Shared}
end
/-! ### loops over these -/
end L2


set_option Elab.async false
set_option linter.all false
set_option maxRecDepth 100000
namespace L2
open PySem PySem.Spec PyProof.Rows
section
variable {X : Cx}
end
end L2


set_option Elab.async false
set_option linter.all false
set_option maxRecDepth 100000
namespace L2
open PySem PySem.Spec PyProof.Rows
/-! ### name = [..], stored ahead of the block's end -/
set_option maxHeartbeats 1000000 in
theorem ps_setC {X : Cx} {N : List Str} {js : List (Option Nat)} {elt tg iter : Expr} {ifs : List Expr} {scope : Scope} {pos : Pos} {wi : TI} {g : TG} {tt : TT} {te : TE} {i0 : Nat} {x0 : Str} {px0 spos : Pos} (hNd : X.N.Nodup) (hix : X.N[i0]? = some x0) (hx0 : Loc X.env.scope x0) (hc : X.calm = true) (hN : chkC X N js scope = true) (hS : chkS X scope = true)
    (hi : PI X tg iter wi) (hg : ∀ cl s H fp pins, PG (compCx X N scope cl s H fp pins) tg g) (ht : ∀ cl s H fp pins, PTs (compCx X N scope cl s H fp pins) ifs tt) (he : ∀ cl s H fp pins, PE (compCx X N scope cl s H fp pins) elt te)
    (hsw : swapsWith (.ListComp elt [⟨tg, iter, ifs, 0⟩] scope pos) (some (.Name x0 px0)) spos.line X.env = pure true := by rfl) (hf0 : X.fn x0 = true ∨ X.env.scope.names.lookup x0 = some .local := by first | exact .inl rfl | exact .inr rfl)
    (hs : ∀ x, foldedSetIterable iter X.env x = pure x := by intro _; rfl) : PS X (.Assign [.Name x0 px0] (.ListComp elt [⟨tg, iter, ifs, 0⟩] scope pos) spos) (tAsg (tComp js wi g tt te) (gName i0)) := by
  intro pins s σ H D0 I h
  have hS' := hS
  unfold chkS at hS'
  rw [Bool.and_eq_true, Bool.and_eq_true] at hS'
  obtain ⟨⟨k1, k2⟩, k3⟩ := hS'
  have hkind : scope.kind = .function := beq_iff_eq.mp k1
  have hfree : ∀ x ∈ scope.names, x.2 = .free → ∃ c, X.env.cells.lookup x.1 = some c := fun x hx e => by
    have := List.all_eq_true.mp k3 x hx
    rw [e] at this
    exact I.ok.has x.1 (.inl (beq_iff_eq.mp this))
  have hcell : ∀ x ∈ scope.names, x.2 ≠ .cell := fun x hx e => by
    have := List.all_eq_true.mp k3 x hx
    rw [e] at this
    exact Bool.false_ne_true this
  have hnames : ∀ x ∈ scope.names, x.2 = .local → scope.names.lookup x.1 = some .local := fun x hx e => by
    have := List.all_eq_true.mp k3 x hx
    rw [e] at this
    exact beq_iff_eq.mp this
  obtain ⟨cl, hclos, c1, c2⟩ := closureFor_ok hfree
  rw [exec_Assign_Name_used _ _ _ _ hsw]
  refine wpAny_bind (wpAny_standAt (wpAny_bind ?_))
  show wpAny _ X.A (do let _ ← comprehension (.ListComp elt [⟨tg, iter, ifs, 0⟩] scope pos) scope X.env _ (newList []) false (eval iter X.env) (some (assign (.Name x0 px0) X.env))) _ _ s
  refine wpAny_bind (wpAny_mono (wpAny_comprehension_free (use := some (assign (.Name x0 px0) X.env)) (Q := fun _ s' => SP X pins D0 .next s') rfl hs hclos hkind hnames (thn (hi pins s σ H _ I h) fun v s1 h1 => thn h1 fun itv s2 h2 => ?_)) (fun _ s' hq => wpAny_pure (wpAny_pure hq)) fun _ _ e => e)
  obtain ⟨it, fp, tn, J, H2, e, I2, T, st2, f2, h2⟩ := h2
  subst e
  have hD : H2 s2.heap.objs.size = none := I2.hok.fresh (Nat.le_refl _)
  obtain ⟨W, ⟨m0, w0⟩, turn⟩ := h2 _ _ (Nw.of hD)
  refine wpAny_newObj_type (wpAny_newFunctionEnv hcell (by intro y hy; simp at hy) (fun h₁ hns₁ hsb₁ => ?_) hkind)
  have fpl : ∀ b ∈ fp, b < s2.heap.objs.size := fun b hb => by
    obtain ⟨o, e, _⟩ := T.obj _ _ st2 b hb
    exact Heap.lt_size e
  have I3 : Inv X pins σ (upd H2 s2.heap.objs.size (.lst [])) { s2 with heap := s2.heap.push { cls := .type "list", dict := none, data := .seq ([] : List Value).toArray } } := I2.lnew (its := []) (t' := s2.toks) .nil (Nat.zero_le _)
  generalize hH3 : s2.heap.push { cls := .type "list", dict := none, data := .seq ([] : List Value).toArray } = h3 at I3 hns₁ hsb₁
  have sz3 : h3.objs.size = s2.heap.objs.size + 1 := by rw [← hH3, Heap.size_push]
  have keep23 : ∀ b o, s2.heap.get? b = some o → h3.get? b = some o := fun b o e => by rw [← hH3]; exact Heap.get?_push_of_some _ e
  have f3 : ∀ b ∈ fp, FpOk X pins (upd H2 s2.heap.objs.size (.lst [])) b := fun b hb => ⟨by rw [upd_ne (Nat.ne_of_lt (fpl b hb))]; exact (f2 b hb).1, (f2 b hb).2⟩
  have keep31 : ∀ b o, h3.get? b = some o → h₁.get? b = some o := fun b o e => (hsb₁.2 b (Nat.ne_of_lt (Heap.lt_size e))).trans (Heap.get?_push_of_some _ e)
  have I4 : Inv (compCx X N scope cl { s2 with heap := h3 } (upd H2 s2.heap.objs.size (.lst [])) fp pins) [] (stC js σ) (upd H2 s2.heap.objs.size (.lst [])) { s2 with heap := h₁, toks := s2.toks + ([] : List (Str × Value)).length } :=
    I3.comp (s := { s2 with heap := h3 }) hN hS c1 c2 f3 (fun b hb => by show b < h3.objs.size; rw [sz3]; exact Nat.lt_succ_of_lt (fpl b hb)) (by simpa using hns₁) keep31
  have st4 : tn 0 h₁ := T.keep _ _ _ st2 fun b _ o e => keep31 b o (keep23 b o e)
  -- the loop
  have loop : codeAny (model X.prog X.w) X.A (.compLoop (.ListComp elt [⟨tg, iter, ifs, 0⟩] scope pos) 0 (.ref it) (.ref s2.heap.objs.size) (compEnvC scope cl h3.objs.size X.env))
      (compPost (model X.prog X.w) X.A X.xe (some (assign (.Name x0 px0) X.env)) (fun _ s' => SP X pins D0 .next s') (.ref s2.heap.objs.size) h3.objs.size) { s2 with heap := h₁, toks := s2.toks + ([] : List (Str × Value)).length } := by
    refine compLoop_gen (fun n s' => ∃ i σ' H', Inv (compCx X N scope cl { s2 with heap := h3 } (upd H2 s2.heap.objs.size (.lst [])) fp pins) [] σ' H' s' ∧ tn i s'.heap ∧ (∀ b ∈ fp, H' b = none) ∧ W i n σ' H') ?_ m0
      ⟨0, _, _, I4, st4, fun b hb => (f3 b hb).1, w0⟩
    rintro n s5 ⟨i, σ5, H5, I5, st5, fr5, w5⟩
    have stat : ∀ {H' : Hp}, (∀ b ∈ fp, H' b = none) → ∀ b ∈ fp, FpOk (compCx X N scope cl { s2 with heap := h3 } (upd H2 s2.heap.objs.size (.lst [])) fp pins) [] H' b := fun {H'} hn b hb => by
      obtain ⟨_, q1, q2, q3, q4, q5⟩ := f3 b hb
      refine ⟨hn b hb, fun z => ?_, I4.ok.exfs b hb, .inl hb, fun x c e => q4 x c (c1 x c e), fun p hp => q5 p (by simpa [compCx] using hp)⟩
      have hlt : b < h3.objs.size := by rw [sz3]; exact Nat.lt_succ_of_lt (fpl b hb)
      exact Nat.ne_of_lt hlt z
    rcases turn i n σ5 H5 w5 with ⟨stop, qn⟩ | ⟨go, step⟩
    · refine thn (T.done (compCx X N scope cl { s2 with heap := h3 } (upd H2 s2.heap.objs.size (.lst [])) fp pins) rfl rfl rfl hc i [] s5 σ5 H5 _ I5 (stat fr5) st5 stop) fun r s6 ⟨hr, I6⟩ => ?_
      subst hr
      obtain ⟨m, hm, _⟩ := I6.loc
      have u0 : Un (frs X.stack) fp (upd H2 s2.heap.objs.size (.lst [])) H5 h3 s6.heap := I6.base
      have I7 : Inv X pins σ H5 s6 := I3.call' (s' := s6) (ch := fp) I6.os u0 I6.hok I6.bare fun b hb => ⟨(f3 b hb).2.2.2.1, (f3 b hb).2.1, (f3 b hb).2.2.2.2.1, (f3 b hb).2.2.2.2.2⟩
      have hC : FpOk X pins H5 h3.objs.size := I3.fpOk (Nat.le_refl _) I6.free
      show wpAny _ X.A (assign (.Name x0 px0) X.env (.ref s2.heap.objs.size)) _ _ s6
      refine wpAny_assign_Name (store_ok2 I7 hNd hix hx0 (show RelV (.ref s2.heap.objs.size) (.ref s2.heap.objs.size) from rfl) (fun s8 I8 hsb => ?_) hf0)
      obtain ⟨a, sb, ha⟩ := hsb
      have hCa : h3.objs.size ≠ a := by
        rcases ha with rfl | ha
        · exact hC.2.1
        · exact fun z => hC.2.2.2.2.1 x0 a ha z.symm
      refine ⟨m, hm.sameBut sb hCa, fun h9 hs9 => ⟨_, H5, ?_, qn⟩⟩
      exact I8.turnedL (t' := s8.toks) (fp := [h3.objs.size]) (fun b o hb e => hs9.extBut b o (fun z => hb (by simp [z])) e) fun b hb => by rw [List.mem_singleton.mp hb]; exact hC
    · refine thn (T.item (compCx X N scope cl { s2 with heap := h3 } (upd H2 s2.heap.objs.size (.lst [])) fp pins) rfl rfl rfl hc i [] s5 σ5 H5 _ I5 (stat fr5) st5 go) fun r s6 ⟨u, hr, h6⟩ => ?_
      subst hr
      refine thn h6 fun _ s7 ⟨x, H7, I7, r7, y7, st7, fr7⟩ => ?_
      have I7' := I7.pinned (stat fr7) (T.obj _ _ st7)
      refine thn (hg _ _ _ _ _ _ s7 σ5 H7 x u _ I7' r7 (step x H7 y7)) fun _ s8 ⟨σ8, H8, I8, q8⟩ => ?_
      refine thn (ht _ _ _ _ _ _ s8 σ8 H8 _ I8 q8) fun ok s9 ⟨H9, I9, q9⟩ => ?_
      have again : ∀ {s' : Shared} {σ7 : St} {H7 : Hp}, Inv (compCx X N scope cl { s2 with heap := h3 } (upd H2 s2.heap.objs.size (.lst [])) fp pins) ([] ++ pinsAt fp s7.heap) σ7 H7 s' → (∃ m', m' < n ∧ W (i + 1) m' σ7 H7) →
          ∃ m, m < n ∧ ∃ i σ' H', Inv (compCx X N scope cl { s2 with heap := h3 } (upd H2 s2.heap.objs.size (.lst [])) fp pins) [] σ' H' s' ∧ tn i s'.heap ∧ (∀ b ∈ fp, H' b = none) ∧ W i m σ' H' := fun {s' σ7 H7} J7 n7 => by
        obtain ⟨m', hm, w7⟩ := n7
        refine ⟨m', hm, i + 1, σ7, H7, J7.unpinned, T.keep _ _ _ st7 fun b hb o e => (J7.pin (b, o) (List.mem_append_right _ (List.mem_append_right _ (mem_pinsAt hb e)))).1, fun b hb => ?_, w7⟩
        obtain ⟨o, e, d⟩ := T.obj _ _ st7 b hb
        exact (J7.pin (b, o) (List.mem_append_right _ (List.mem_append_right _ (mem_pinsAt hb e)))).2.1
      cases ok with
      | false =>
        rw [if_neg Bool.false_ne_true] at q9 ⊢
        exact again I9 q9
      | true =>
        rw [if_pos rfl] at q9 ⊢
        refine thn (he _ _ _ _ _ _ s9 σ8 H9 _ I9 q9) fun yv s10 ⟨y, H10, I10, r10, ys, hys, hz, w10⟩ => ?_
        refine thn (mt_append _ s10 σ8 H10 (.ref s2.heap.objs.size) [y] (.ref s2.heap.objs.size) [yv] (fun _ H11 => ∃ m', m' < n ∧ W (i + 1) m' σ8 H11) I10 rfl (.cons r10 .nil) ⟨_, ys, y, rfl, rfl, hys, hz, w10⟩) fun _ s11 ⟨v11, H11, I11, r11, q11⟩ => ?_
        exact again I11 q11
  exact codeAny_compStart_list loop (T.self _ 0 _ _ _ st4 loop)
end L2


set_option Elab.async false
set_option linter.all false
set_option maxRecDepth 100000
namespace L2
open PySem PySem.Spec PyProof.Rows
end L2


set_option Elab.async false
set_option linter.all false
set_option maxRecDepth 100000
namespace L2
open PySem PySem.Spec PyProof.Rows
/-! ### ''.join of a list of texts -/
theorem carried_strs : ∀ {zs : List Str} {us : List Value}, Vals (zs.map V.str) us → CarriedAll us (zs.map PyData.str)
  | [], _, .nil => .nil
  | z :: zs, _, .cons q r => by
    obtain ⟨t, rfl⟩ := (show ∃ t, _ = Value.str z t from q)
    exact .cons (.str z t) (carried_strs r)
section
variable {X : Cx}
end
end L2


set_option Elab.async false
set_option linter.all false
namespace Wk
open PySem L2
def addZ (pl ns : List Int) : List Int := List.zipWith (fun a b => a + b) pl ns
def behind (pl : List Int) : Option (List Int) → List Int
  | none => pl
  | some ns => addZ pl ns
end Wk


set_option Elab.async false
set_option linter.all false
set_option maxRecDepth 100000
namespace L2
open PySem PySem.Spec PyProof.Rows
/-! ### a block one of whose names an inner block uses -/
section
variable {X : Cx} {pins : List (Addr × Obj)} {σ : St} {H : Hp} {s : Shared}
end
end L2


set_option Elab.async false
set_option linter.all false
set_option maxRecDepth 100000
namespace L2
open PySem PySem.Spec PyProof.Rows
/-! ### range(n) as a thing, list(range(n)) -/
section
variable {X : Cx}
end
end L2


set_option Elab.async false
set_option linter.all false
set_option maxRecDepth 100000
namespace L2
open PySem PySem.Spec PyProof.Rows
/-! ### reversed(range(n)), walked -/
section
variable {prog : Program} {w : World} {A : Around} {E : Value → Shared → Prop} {s : Shared}
end
end L2
namespace L2
open PySem PySem.Spec PyProof.Rows
end L2


set_option Elab.async false
set_option linter.all false
set_option maxRecDepth 100000
namespace L2
open PySem PySem.Spec PyProof.Rows
/-! ### t + u, t[a:b] of tuples of any values -/
section
variable {X : Cx}
end
end L2
namespace L2
open PySem PySem.Spec PyProof.Rows
end L2


set_option Elab.async false
set_option linter.all false
namespace L2
open PySem PySem.Spec PyProof.Rows
section
variable {X : Cx}
end
end L2
namespace L2
open PySem PySem.Spec PyProof PyProof.Rows
section
variable {X : Cx}
end
end L2
namespace L2
open PySem PySem.Spec PyProof.Rows
end L2
namespace L2
open PySem PySem.Spec PyProof.Rows
section
variable {K : PySem.W.Frag} {H H' H2 : Hp}
end
end L2


set_option Elab.async false
set_option linter.all false
set_option maxRecDepth 100000
namespace L2
open PySem PySem.Spec PyProof.Rows
/-! ### range(a, b, -1), walked -/
section
variable {X : Cx} {tg : Expr}
end
end L2


set_option Elab.async false
set_option linter.all false
set_option maxRecDepth 100000
namespace L2
open PySem PySem.Spec PyProof.Rows
/-! ### a method of an own class, and its promise, in one word -/
structure MA (K : PySem.W.Frag) (C : Addr) (m qual : Str) (st : Stmt) : Prop where
  ex : ∃ f fd, Meth K C m f ∧ Fun K m qual st f fd
def MtHas (P : Program) (w : World) (K : PySem.W.Frag) (mg : Str → Option Value) (base : Heap) (C : Addr) (m : Str) (k : Nat) (sp : Sp) : Prop :=
  ∃ f fd ps, FnOk P w K mg base CX0 k f fd ps sp ∧ Meth K C m f ∧ Binds K fd ps []
/-- the class is made by its __init__ -/
structure CA (K : PySem.W.Frag) (mg : Str → Option Value) (C : Addr) (x qual : Str) (st : Stmt) : Prop where
  mgC : mg x = some (.ref C)
  ex : ∃ f fd, Mk K C f ∧ Fun K "__init__" qual st f fd
def MkHas (P : Program) (w : World) (K : PySem.W.Frag) (mg : Str → Option Value) (base : Heap) (C : Addr) (x : Str) (k : Nat) (sp : Sp) : Prop :=
  ∃ f fd ps, FnOk P w K mg base CX0 k f fd ps sp ∧ Mk K C f ∧ Binds K fd ps [] ∧ mg x = some (.ref C)
section
variable {P : Program} {w : World} {K : PySem.W.Frag} {mg : Str → Option Value} {base : Heap}
theorem MA.has {C : Addr} {m qual : Str} {st : Stmt} {N ps : List Str} {k : Nat} {sp : Sp} (F : MA K C m qual st) (S : FnScope N ps (defScope st)) (len : ∀ vs H Q E, sp vs H Q E → vs.length = ps.length)
    (hb : ∀ (kV doc pm : Value) (an : Option Addr) (cdv ct : Value) (us : List Value), us.length = ps.length → bindArgs (PySem.W.fnOf m qual (defArgs st) (defBody st) (defScope st) .none kV doc pm an cdv ct) ⟨us, []⟩ = pure (ps.zip us))
    (hbody : ∀ (f : Addr) (cdv : Value) (A : Around) (outer : List Env) (s : Shared) (H : Hp) (vs : List V) (Q : VK) (E : XK), Room k (A.deeper (envOfC qual (defScope st) s.heap.objs.size f cdv)) → sp vs H Q E →
      ∃ t, PSs (cxOf CX0 P w K mg base N qual (defScope st) f cdv A outer s H E).nox (defBody st) t ∧ t { nx := fun _ H' => Q .non H', rt := Q } (start N vs) H) : MtHas P w K mg base C m (k + 1) sp := by
  obtain ⟨f, fd, hm, F⟩ := F.ex
  exact ⟨f, fd, ps, F.ok S len fun cdv A outer s H vs Q E => hbody f cdv A outer s H vs Q E, hm, F.binds hb⟩
theorem CA.has {C : Addr} {x qual : Str} {st : Stmt} {N ps : List Str} {k : Nat} {sp : Sp} (F : CA K mg C x qual st) (S : FnScope N ps (defScope st)) (len : ∀ vs H Q E, sp vs H Q E → vs.length = ps.length)
    (hb : ∀ (kV doc pm : Value) (an : Option Addr) (cdv ct : Value) (us : List Value), us.length = ps.length → bindArgs (PySem.W.fnOf "__init__" qual (defArgs st) (defBody st) (defScope st) .none kV doc pm an cdv ct) ⟨us, []⟩ = pure (ps.zip us))
    (hbody : ∀ (f : Addr) (cdv : Value) (A : Around) (outer : List Env) (s : Shared) (H : Hp) (vs : List V) (Q : VK) (E : XK), Room k (A.deeper (envOfC qual (defScope st) s.heap.objs.size f cdv)) → sp vs H Q E →
      ∃ t, PSs (cxOf CX0 P w K mg base N qual (defScope st) f cdv A outer s H E).nox (defBody st) t ∧ t { nx := fun _ H' => Q .non H', rt := Q } (start N vs) H) : MkHas P w K mg base C x (k + 1) sp := by
  obtain ⟨f, fd, hm, F'⟩ := F.ex
  exact ⟨f, fd, ps, F'.ok S len fun cdv A outer s H vs Q E => hbody f cdv A outer s H vs Q E, hm, F'.binds hb, F.mgC⟩
end
section
variable {X : Cx} {k : Nat} {x m : Str} {C : Addr} {p pos apos : Pos} {o e : Expr} {es : List Expr} {t : TA} {ta : TE} {sp : Sp}
end
/-! ### what stays: all but some places -/
def But (S : List Addr) (H H' : Hp) : Prop := ∀ b o, H b = some o → b ∉ S → H' b = some o
theorem But.refl (S : List Addr) (H : Hp) : But S H H := fun _ _ e _ => e
theorem But.of {S : List Addr} {H H' : Hp} (s : Same H H') : But S H H' := fun b o e _ => s b o e
theorem But.trans {S : List Addr} {H H1 H2 : Hp} (a : But S H H1) (b : But S H1 H2) : But S H H2 := fun c o e n => b c o (a c o e n) n
theorem But.mono {S S' : List Addr} {H H1 : Hp} (h : ∀ x, x ∈ S → x ∈ S') (a : But S H H1) : But S' H H1 := fun c o e n => a c o e fun z => n (h c z)
/-- what is new may change, too -/
theorem But.fresh {S S' : List Addr} {H0 H H1 : Hp} (s : But S H0 H) (hf : ∀ x ∈ S', x ∈ S ∨ H0 x = none) (a : But S' H H1) : But S H0 H1 := fun c o e n => a c o (s c o e n) fun z => (hf c z).elim n (fun h => by rw [h] at e; cases e)
/-! ### whatever is no list, no instance, no dict stays -/
def Chg : HO → Prop
  | .lst _ => True
  | .ins _ _ _ => True
  | .dK _ => True
  | _ => False
def SameV (H H' : Hp) : Prop := ∀ b o, ¬ Chg o → H b = some o → H' b = some o
section
variable {K : PySem.W.Frag} {H H' H2 : Hp}
theorem SameV.refl : SameV H H := fun _ _ _ e => e
theorem SameV.trans (a : SameV H H') (b : SameV H' H2) : SameV H H2 := fun c o n e => b c o n (a c o n e)
theorem SameT.v (s : SameT H H') : SameV H H' := fun b o n e => s b o (fun xs z => n (by rw [z]; trivial)) e
theorem Same.v (s : Same H H') : SameV H H' := fun b o _ e => s b o e
theorem But.v {S : List Addr} (s : But S H H') (h : ∀ x ∈ S, ∀ o, H x = some o → Chg o) : SameV H H' := fun b o n e => s b o e fun z => n (h b z o e)
theorem SameV.upd {a : Addr} {o o' : HO} (h : H a = some o) (m : Chg o) : SameV H (upd H a o') := fun b p n e => by
  have hb : b ≠ a := fun z => by rw [z, h] at e; cases e; exact n m
  rw [upd_ne hb]; exact e
theorem SqT.v {a : Addr} {xs : List V} (s : SameV H H') (h : SqT K H a xs) : SqT K H' a xs :=
  h.imp (fun r => r.imp (s _ _ (fun z => z)) fun ⟨o, e⟩ => ⟨o, s _ _ (fun z => z) e⟩) id
mutual
theorem RD.v (s : SameV H H') : ∀ {x : V} (d : PyData), noL d = true → RD K H x d → RD K H' x d
  | x, .none, _, h => by simpa [RD] using h
  | x, .bool b, _, h => by simpa [RD] using h
  | x, .int i, _, h => by simpa [RD] using h
  | x, .str y, _, h => by simpa [RD] using h
  | x, .list ds, n, h => by simp [noL] at n
  | x, .tuple ds, n, h => by
    rw [RD] at h ⊢
    obtain ⟨a, xs, e, h1, h2⟩ := h
    exact ⟨a, xs, e, h1.v s, RDs.v s ds (by simpa [noL] using n) h2⟩
  | x, .dict _, _, h => by simp [RD] at h
theorem RDs.v (s : SameV H H') : ∀ {xs : List V} (ds : List PyData), noLs ds = true → RDs K H xs ds → RDs K H' xs ds
  | xs, [], _, h => by simpa [RDs] using h
  | xs, d :: ds, n, h => by
    rw [RDs] at h ⊢
    rw [noLs, Bool.and_eq_true] at n
    obtain ⟨y, ys, e, h1, h2⟩ := h
    exact ⟨y, ys, e, RD.v s d n.1 h1, RDs.v s ds n.2 h2⟩
end
end
end L2


set_option Elab.async false
set_option linter.all false
set_option maxRecDepth 100000
namespace L2
open PySem PySem.Spec PyProof.Rows
/-! ### range(a, b) as a thing, list(range(a, b)) -/
section
variable {X : Cx}
end
end L2


set_option Elab.async false
set_option linter.all false
set_option maxRecDepth 100000
set_option exponentiation.threshold 6000
namespace L2
open PySem PySem.Spec PyProof.Rows
/-! ### texts: fields of an f-string, join, str -/
section
variable {X : Cx}
theorem call_str1 : CallR X (.type "str") (fun xs H Q => (∃ i, xs = [.int i] ∧ i.natAbs.log2 < 1920 ∧ Q (.str (toString i)) H) ∨ ∃ z, xs = [.str z] ∧ Q (.str z) H) := by
  intro pins s σ H xs us Q I r h
  rcases h with ⟨i, rfl, hz, q⟩ | ⟨z, rfl, q⟩
  · obtain ⟨u, rfl, t, rfl⟩ := vals1 r
    exact PySem.P.str_of_int hz ⟨.str _, H, I.tok _, ⟨_, rfl⟩, q⟩
  · obtain ⟨u, rfl, t, rfl⟩ := vals1 r
    exact PySem.P.str_of_str ⟨.str _, H, I, ⟨_, rfl⟩, q⟩
/-- a field of an f-string -/
def rFv (x : V) (H : Hp) (Q : VK) : Prop := (∃ i, x = .int i ∧ i.natAbs.log2 < 1920 ∧ Q (.str (toString i)) H) ∨ ∃ z, x = .str z ∧ z.length ≤ sizeLine ∧ Q (.str z) H
theorem pe_fv {e : Expr} {te : TE} {pos : Pos} (h : PE X e te) : PE X (.FormattedValue e (-1) none pos) (fun σ H Q => te σ H fun x H' => rFv x H' Q) := by
  intro pins s σ H Q I ht
  refine wpAny_FormattedValue_plain (thn (h pins s σ H _ I ht) fun v s1 ⟨x, H1, I1, r1, q1⟩ => ?_)
  rcases q1 with ⟨i, rfl, hz, q⟩ | ⟨z, rfl, hz, q⟩
  · obtain ⟨t, rfl⟩ := r1
    exact wpAny_formatField_int hz ⟨.str _, H1, I1.tok _, ⟨_, rfl⟩, q⟩
  · obtain ⟨t, rfl⟩ := r1
    exact wpAny_formatField_str ⟨.str _, H1, I1, ⟨_, rfl⟩, q⟩ ⟨.str _, H1, I1.tok _, ⟨_, rfl⟩, q⟩ hz
abbrev TJ := Str → St → Hp → VK → Prop
def PJ (X : Cx) (es : List Expr) (t : TJ) : Prop :=
  ∀ (pins : List (Addr × Obj)) (s : Shared) (σ : St) (H : Hp) (Q : VK) (acc : Str), Inv X pins σ H s → t acc σ H Q →
    Joins (model X.prog X.w) X.A X.xe (evalEach es X.env) acc (fun out s₁ => out.length ≤ sizeLine ∧ EP X pins σ Q (.str out s₁.toks) { s₁ with toks := s₁.toks + 1 }) s
theorem pj_nil : PJ X [] (fun acc σ H Q => acc.length ≤ sizeLine ∧ Q (.str acc) H) := by
  intro pins s σ H Q acc I h
  exact ⟨h.1, .str _, H, I.tok _, ⟨_, rfl⟩, h.2⟩
theorem pj_cons {e : Expr} {es : List Expr} {te : TE} {tj : TJ} (h : PE X e te) (hj : PJ X es tj) (he : evalEach (e :: es) X.env = eval e X.env :: evalEach es X.env := by rfl) :
    PJ X (e :: es) (fun acc σ H Q => te σ H fun x H' => ∃ y, x = .str y ∧ (acc ++ y).length ≤ sizeLine ∧ tj (acc ++ y) σ H' Q) := by
  intro pins s σ H Q acc I ht
  rw [he]
  refine thn (h pins s σ H _ I ht) fun v s1 ⟨x, H1, I1, r1, q1⟩ => ?_
  obtain ⟨y, rfl, hl, q⟩ := q1
  obtain ⟨t, rfl⟩ := r1
  exact ⟨y, t, rfl, hl, hj pins s1 σ H1 Q _ I1 q⟩
theorem pe_js {e1 e2 : Expr} {es : List Expr} {t : TJ} {pos : Pos} (h : PJ X (e1 :: e2 :: es) t) : PE X (.JoinedStr (e1 :: e2 :: es) pos) (fun σ H Q => t Str.empty σ H Q) :=
  fun pins s σ H Q I ht => wpAny_JoinedStr (h pins s σ H Q _ I ht)
/-! ### join -/
theorem join_len (sep : Str) {B : Nat} : ∀ (zs : List Str), (∀ z ∈ zs, z.length ≤ B) → (Txt.join sep zs).length ≤ zs.length * (B + sep.length)
  | [], _ => Nat.zero_le _
  | a :: r, h => by
    show (Builtin.Str.glued sep (a :: r)).length ≤ _
    rw [StrLaws.glued_eq_join, len_join_cons]
    have := sumLen_le_of_bound id B (a :: r) h
    rw [List.map_id] at this
    rw [List.length_cons] at this ⊢
    have e1 : (r.length + 1) * (B + sep.length) = B * (r.length + 1) + (r.length * sep.length + sep.length) := by
      rw [Nat.mul_add, Nat.mul_comm (r.length + 1) B, Nat.add_mul r.length 1 sep.length, Nat.one_mul]
    omega
def rJoinT (K : PySem.W.Frag) : V → List V → Hp → VK → Prop := fun x vs H Q => ∃ (sep : Str) (l : Addr) (zs : List Str), x = .str sep ∧ vs = [.ref l] ∧ SqL K H l (zs.map V.str) ∧ (∀ z ∈ zs, z.length ≤ 4000) ∧ sep.length ≤ 8 ∧ zs.length ≤ 1000 ∧ Q (.str (Txt.join sep zs)) H
theorem mtJoinT (K : PySem.W.Frag) (hK : X.K = K) : MtR X "str.join" (rJoinT K) := by
  subst hK
  intro pins s σ H x vs v us Q I rx rv h
  obtain ⟨sep, l, zs, rfl, rfl, hl, hz, hs, hn, q⟩ := h
  obtain ⟨t, rfl⟩ := rx
  obtain ⟨u, rfl, ru⟩ := vals1 rv
  cases (show u = Value.ref l from ru)
  obtain ⟨its, r, pl, _⟩ := I.list hl
  have hsum := sumLen_le_of_bound id 4000 zs hz
  rw [List.map_id] at hsum
  have h1 : zs.length * sep.length ≤ 1000 * 8 := Nat.mul_le_mul hn hs
  refine join_list (ys := zs) pl.isList (StrsAre.of_carried (carried_strs r)) (by omega) fun t' k => ?_
  exact ⟨.str _, H, I.tok _, ⟨_, rfl⟩, q⟩
theorem peJoinT (K : PySem.W.Frag) (h : X.K = K) {o e : Expr} {to : TE} {t : TA} {apos cpos : Pos} (ho : PE X o to) (ha : PA X [e] t)
    (hbase : attributeBase o "join" X.env (eval o X.env) = eval o X.env := by rfl)
    (hfew : ((backTo cpos (starEach [e] X.env)).all (fun x => !x.1) && (backToKw cpos (keywordEach [] X.env)).all (fun x => x.1.isSome)
      && decide ([e].length + ([] : List Keyword).length + (if ([] : List Keyword).isEmpty then 0 else 1) < 30)) = true := by rfl)
    (hline : (apos.endLine == cpos.line) = true := by rfl) (hs : starEach [e] X.env = (false, eval e X.env) :: starEach [] X.env := by rfl) (hplain : (backTo cpos (starEach [] X.env)).any (·.1) = false := by rfl) :
    PE X (.Call (.Attribute o "join" apos) [e] [] cpos) (tBM K "str" (rJoinT K) to t) := by
  subst h; exact pe_bm PySem.F.plainAttrs_str PySem.F.slot_str_join PySem.F.type_str_join (mtJoinT X.K rfl) ho ha hbase hfew hline hs hplain
/-! ### how long a number's text is -/
theorem txt_len {i : Int} (h : i.natAbs < 10 ^ 40) : (Str.ofString (toString i)).length ≤ 41 := by
  rw [PySem.ofString_length]
  exact int_text_length_le10 (k := 40) (by decide) h
theorem log_of {i : Int} (h : i.natAbs < 10 ^ 40) : i.natAbs.log2 < 1920 := by
  by_cases h0 : i.natAbs = 0
  · rw [h0]; decide
  · exact (Nat.log2_lt h0).mpr (Nat.lt_trans h (by decide))
end
end L2


set_option Elab.async false
set_option linter.all false
set_option maxRecDepth 100000
set_option maxHeartbeats 1000000
namespace Lw
open PySem PySem.Spec PyProof.Rows L2
def top (i : Nat) : Stmt := PySem.Challenge.pw_glidequeue_k52_items_written.main.body.getD i (.Pass ⟨0, 0, 0, 0⟩)

section
variable {P : Program} {w : World} {K : PySem.W.Frag} {mg : Str → Option Value} {base : Heap}

/-! ### _law_take -/
def spTake : Sp := fun vs H Q _ => ∃ p many, vs = [.ref p, .int many] ∧ IsBag H p ∧ 1 ≤ many ∧ many ≤ 10 ^ 40 ∧ ∀ d H', 0 ≤ d → d < many → BagX p H H' → Q (.int d) H'
abbrev sTake : Stmt := top 10
theorem scTake : FnScope ["_law_bag_here", "_law_many", "_law_digit", "_law_number_here", "_law_room"] ["_law_bag_here", "_law_many"] (defScope sTake) := ⟨rfl, rfl, rfl, by decide +kernel, rfl, by decide +kernel, by decide +kernel⟩
theorem ok_take (F : FA K mg "_law_take" sTake) (B : Blt mg) : FnHas P w K mg base "_law_take" 1 spTake := by
  refine F.has scTake (fun vs H Q E h => ?_) (fun _ _ _ _ _ _ us hl => match us, hl with | [_, _], _ => rfl) (fun f cdv A outer s H vs Q E hr h => ?_)
  · obtain ⟨p, many, rfl, _⟩ := h
    rfl
  · obtain ⟨p, many, rfl, ⟨c, m, hp, ok⟩, h1, h2, k⟩ := h
    obtain ⟨c0, m0, m1⟩ := id ok
    have nd := scTake.nd
    refine ⟨_, (pss_cons (ps_if (pt_cmpR op_gt (pe_ix (ixK K rfl) (pv 0) pe_int (fun _ _ => rfl)) pe_int (nomark _))
    (pss_cons (ps_set (i := 2) nd rfl (Or.inl rfl) (pe_op op_mod (pe_ix (ixK K rfl) (pv 0) pe_int (fun _ _ => rfl)) (pv 1)))
    (pss_cons (ps_asg (pe_op op_fdivW (pe_ix (ixK K rfl) (pv 0) pe_int (fun _ _ => rfl)) (pv 1)) (pg_sub (pv 0) pe_int set_list))
    (pss_one (ps_ret (pv 2)))))
    pss_nil)
    (pss_cons (ps_set (i := 3) nd rfl (Or.inl rfl) pe_int)
    (pss_cons (ps_set (i := 4) nd rfl (Or.inl rfl) pe_int)
    (pss_cons (ps_while PassesOwn.never (pt_cmpR op_lt (pv 4) (pv 1) (nomark _))
    (pss_cons (ps_asg (pe_op op_mod (pe_op op_pow (pe_op op_add (pe_op op_mulG (pe_ix (ixK K rfl) (pv 0) pe_int (fun _ _ => rfl)) pe_int) pe_int) pe_int) pe_int) (pg_sub (pv 0) pe_int set_list))
    (pss_cons (ps_set (i := 3) nd rfl (Or.inl rfl) (pe_op op_add (pe_op op_mulG (pv 3) pe_int) (pe_op op_mod (pe_op op_mulG (pe_op op_fdivW (pe_ix (ixK K rfl) (pv 0) pe_int (fun _ _ => rfl)) pe_int) pe_int) pe_int)))
    (pss_one (ps_set (i := 4) nd rfl (Or.inl rfl) (pe_op op_mulG (pv 4) pe_int))))))
    (pss_one (ps_ret (pe_op op_mod (pv 3) (pv 1)))))))), ?_⟩
    -- if bag[0] > 0
    refine ⟨_, rfl, .inl ⟨p, _, 0, .int c, rfl, rfl, SqL.of hp, rfl, _, _, rfl, rfl, _, rfl, ?_⟩⟩
    refine ite2 (fun hc => ?_) (fun _ => ?_)
    · refine ⟨_, rfl, .inl ⟨p, _, 0, .int c, rfl, rfl, SqL.of hp, rfl, _, rfl, _, _, rfl, rfl, h1, ?_⟩⟩
      refine ⟨_, rfl, .inl ⟨p, _, 0, .int c, rfl, rfl, SqL.of hp, rfl, _, rfl, _, _, rfl, rfl, ⟨h1, wd40 (by omega) h2⟩, ?_⟩⟩
      refine ⟨_, rfl, p, _, 0, 0, rfl, rfl, hp, rfl, ?_⟩
      refine ⟨_, rfl, ?_⟩
      exact k _ _ (Int.emod_nonneg _ (by omega)) (Int.emod_lt_of_pos _ (by omega)) (BagX.upd ⟨Int.ediv_nonneg c0 (by omega), m0, m1⟩)
    · refine while_by (fun σ H2 => ∃ (v : Option V) (n r : Int), σ = [some (.ref p), some (.int many), v, some (.int n), some (.int r)] ∧ BagX p H H2 ∧ 1 ≤ r) (fun σ _ => match σ with | [_, _, _, _, some (.int r)] => (many - r).toNat | _ => 0) ?_ ?_ ?_
      · exact ⟨none, 0, 1, rfl, .refl ⟨c, m, hp, ok⟩, Int.le_refl _⟩
      · rintro σ H2 ⟨v, n, r, rfl, bx, hr1⟩
        obtain ⟨c', m', hp', c0', m0', m1'⟩ := id bx.bag
        refine ⟨_, rfl, _, rfl, _, _, rfl, rfl, _, rfl, ?_⟩
        refine ite2 (fun hc => ?_) (fun hc => ?_)
        · have hlt : r < many := of_decide_eq_true hc
          refine ⟨_, rfl, .inl ⟨p, _, 1, .int m', rfl, rfl, SqL.of hp', rfl, _, _, rfl, rfl, .of_right (intBits_le_64 (by decide) (by decide)), _, _, rfl, rfl, _, _, rfl, rfl, ⟨by decide, by decide, ?_⟩, _, _, rfl, rfl, (by show (0 : Int) < 2147483629; decide), ?_⟩⟩
          · have h64 : (2 : Nat) ^ 64 = 18446744073709551616 := by decide
            rw [h64]; omega
          refine ⟨_, rfl, p, _, 1, 1, rfl, rfl, hp', rfl, ?_⟩
          have g0 : 0 ≤ ((m' * 48271 + 7919) ^ (3 : Int).toNat) % 2147483629 := Int.emod_nonneg _ (by decide)
          have g1 : ((m' * 48271 + 7919) ^ (3 : Int).toNat) % 2147483629 < 2147483629 := Int.emod_lt_of_pos _ (by decide)
          have bx2 : BagX p H (L2.upd H2 p (.lst [.int c', .int (((m' * 48271 + 7919) ^ (3 : Int).toNat) % 2147483629)])) := bx.trans (.upd ⟨c0', g0, Int.lt_trans g1 (by decide)⟩)
          refine ⟨_, rfl, _, _, rfl, rfl, .of_right (intBits_le_64 (by decide) (by decide)), _, rfl, .inl ⟨p, _, 1, .int _, rfl, rfl, SqL.of upd_same, rfl, _, _, rfl, rfl, ⟨by decide, wd40 (by decide) (by decide)⟩, _, _, rfl, rfl, .of_right (intBits_le_64 (by decide) (by decide)), _, _, rfl, rfl, (by show (0 : Int) < 1073741789; decide), _, _, rfl, rfl, ?_⟩⟩
          refine ⟨_, rfl, _, _, rfl, rfl, .of_right (intBits_le_64 (by decide) (by decide)), ?_⟩
          refine ⟨⟨v, _, _, rfl, bx2, ?_⟩, ?_⟩
          · omega
          · show (many - r * 1073741789).toNat < (many - r).toNat
            omega
        · refine ⟨_, rfl, _, rfl, _, _, rfl, rfl, h1, ?_⟩
          exact k _ _ (Int.emod_nonneg _ (by omega)) (Int.emod_lt_of_pos _ (by omega)) bx
      · rintro σ H2 Q1 Q2 hq ⟨v1, e1, v2, e2, i, j, e3, e4, kk, e5, q⟩
        exact ⟨v1, e1, v2, e2, i, j, e3, e4, kk, e5, hq _ _ q⟩
end
end Lw



set_option Elab.async false
set_option linter.all false
set_option maxRecDepth 100000
set_option maxHeartbeats 1000000
namespace Lw
open PySem PySem.Spec PyProof.Rows L2
section
variable {P : Program} {w : World} {K : PySem.W.Frag} {mg : Str → Option Value} {base : Heap}

/-! ### _law_bag -/
def spBag (K : PySem.W.Frag) : Sp := fun vs H Q _ => ∃ (a : Addr) (ns : List Int) (at' : Int), vs = [.ref a, .int at'] ∧ SqL K H a (ns.map V.int) ∧ ns.length ≤ 63 ∧ 0 ≤ at' ∧ at' ≤ 100 ∧
  ∀ p H', H p = none → IsBag H' p → Same H H' → Q (.ref p) H'
abbrev sBag : Stmt := top 9
theorem scBag : FnScope ["_law_script", "_law_at", "_law_cell", "_law_mix", "_law_k"] ["_law_script", "_law_at"] (defScope sBag) := ⟨rfl, rfl, rfl, by decide +kernel, rfl, by decide +kernel, by decide +kernel⟩
theorem ints_at {ns : List Int} {j : Nat} (h : j < ns.length) : ∃ z, atI (ns.map V.int) (j : Int) = some (.int z) :=
  ⟨ns[j], atI_nat (by simp [h])⟩
theorem ok_bag (F : FA K mg "_law_bag" sBag) (B : Blt mg) : FnHas P w K mg base "_law_bag" 1 (spBag K) := by
  refine F.has scBag (fun vs H Q E h => ?_) (fun _ _ _ _ _ _ us hl => match us, hl with | [_, _], _ => rfl) (fun f cdv A outer s H vs Q E hr h => ?_)
  · obtain ⟨a, ns, at', rfl, _⟩ := h
    rfl
  · obtain ⟨a, ns, at', rfl, hS, hlen, h0, h1, k⟩ := h
    obtain ⟨j, rfl⟩ : ∃ j : Nat, at' = (j : Int) := ⟨at'.toNat, by omega⟩
    have nd := scBag.nd
    refine ⟨_, (pss_cons (ps_set (i := 2) nd rfl (Or.inl rfl) pe_int)
    (pss_cons (ps_mid (ps_if (pt_cmpR op_lt (pv 1) (pe_callB (x := "len") (lenK K rfl) rfl (B.at "len") PySem.boot_len (pa_cons (pv 0) pa_nil)) (nomark _))
    (pss_one (ps_set (i := 2) nd rfl (Or.inl rfl) (pe_callB (x := "abs") call_abs rfl (B.at "abs") PyProof.Rows.boot_abs (pa_cons (pe_ix (ixK K rfl) (pv 0) (pv 1) (fun _ _ => rfl)) pa_nil))))
    pss_nil))
    (pss_cons (ps_set (i := 3) nd rfl (Or.inl rfl) (pe_op op_add (pe_op op_add (pe_op op_mulG (pe_op op_mulG pe_int (pv 1)) (pv 1)) (pe_op op_mulG pe_int (pv 1))) pe_int))
    (pss_cons (ps_for PassesOwn.never rfl (pi_range1 rfl (B.at "range") (pa_cons (pe_callB (x := "min") (call_min2 rfl) rfl (B.at "min") PyProof.Rows.boot_min (pa_cons (pe_callB (x := "len") (lenK K rfl) rfl (B.at "len") PySem.boot_len (pa_cons (pv 0) pa_nil)) (pa_cons pe_int pa_nil))) pa_nil)) (pg_name (i := 4) nd rfl (Or.inl rfl))
    (pss_one (ps_set (i := 3) nd rfl (Or.inl rfl) (pe_op op_mod (pe_op op_pow (pe_op op_add (pe_op op_add (pe_op op_mulG (pv 3) pe_int) (pe_op op_mod (pe_ix (ixK K rfl) (pv 0) (pv 4) (fun _ _ => rfl)) pe_int)) (pe_op op_mulG (pv 4) (pv 4))) pe_int) pe_int))))
    (pss_cons (ps_mid (ps_if (pt_cmpR op_lt (pv 2) (pe_op op_pow pe_int pe_int) (nomark _))
    (pss_one (ps_set (i := 2) nd rfl (Or.inl rfl) pe_int))
    pss_nil))
    (pss_one (ps_ret (pe_lstA (pa_cons (pv 2) (pa_cons (pv 3) pa_nil)))))))))), ?_⟩
    -- if at < len(script)
    refine ⟨fun σ H' => H' = H ∧ ∃ c : Int, σ = [some (.ref a), some (.int (j : Int)), some (.int c), none, none] ∧ 0 ≤ c, ?_, ?_⟩
    · refine ⟨_, rfl, _, rfl, a, _, rfl, .inl hS, _, _, rfl, rfl, _, rfl, ?_⟩
      refine ite2 (fun hc => ?_) (fun _ => ?_)
      · have hj : (j : Int) < ((ns.map V.int).length : Int) := of_decide_eq_true hc
        rw [List.length_map] at hj
        obtain ⟨z, hz⟩ := ints_at (ns := ns) (j := j) (by omega)
        refine ⟨_, rfl, _, rfl, .inl ⟨a, _, _, _, rfl, rfl, hS, hz, z, rfl, ?_⟩⟩
        exact ⟨rfl, _, rfl, by split <;> omega⟩
      · exact ⟨rfl, 0, rfl, Int.le_refl _⟩
    rintro σ H' ⟨rfl, c, rfl, c0⟩
    -- mix
    refine ⟨_, rfl, _, _, rfl, rfl, .of_left (intBits_le_64 (by decide) (by decide)), _, rfl, _, _, rfl, rfl, .of_right (intBits_le_64 (by omega) (by omega)), _, rfl, _, _, rfl, rfl, .of_left (intBits_le_64 (by decide) (by decide)), _, _, rfl, rfl, _, _, rfl, rfl, ?_⟩
    -- for
    refine ⟨_, rfl, a, _, rfl, .inl hS, _, _, rfl, _, rfl, ?_, ?_, ?_⟩
    · split <;> omega
    · split <;> (try rw [List.length_map]) <;> omega
    refine for_range (Pv := fun i σ H2 => H2 = H' ∧ ∃ (m : Int) (v : Option V), σ = [some (.ref a), some (.int (j : Int)), some (.int c), some (.int m), v] ∧ 0 ≤ m ∧ m < 2147483648) ?_ ?_ ?_
    · refine ⟨rfl, _, none, rfl, ?_, ?_⟩
      · have : (0 : Int) ≤ (j : Int) * (j : Int) := Int.mul_nonneg (by omega) (by omega)
        rw [Int.mul_assoc]; omega
      · have : (j : Int) * (j : Int) ≤ 100 * 100 := Int.mul_le_mul (by omega) (by omega) (by omega) (by omega)
        rw [Int.mul_assoc]; omega
    · rintro i σ H2 hi ⟨rfl, m, v, rfl, m0, m1⟩
      have hi' : i < ns.length := by
        rw [List.length_map] at hi
        split at hi <;> omega
      obtain ⟨z, hz⟩ := ints_at (ns := ns) (j := i) hi'
      rw [← Int.zero_add (i : Int)] at hz
      have hz0 : 0 ≤ z % 2147483647 := Int.emod_nonneg _ (by decide)
      have hz1 : z % 2147483647 < 2147483647 := Int.emod_lt_of_pos _ (by decide)
      have hii0 : (0 : Int) ≤ (0 + (i : Int)) * (0 + (i : Int)) := Int.mul_nonneg (by omega) (by omega)
      have hii : (0 + (i : Int)) * (0 + (i : Int)) ≤ 100 * 100 := Int.mul_le_mul (by omega) (by omega) (by omega) (by omega)
      refine ⟨_, rfl, _, _, rfl, rfl, .of_right (intBits_le_64 (by decide) (by decide)), _, rfl, _, rfl, .inl ⟨a, _, _, _, rfl, rfl, hS, hz, _, _, rfl, rfl, (by show (0 : Int) < 2147483647; decide), _, _, rfl, rfl, _, rfl, _, rfl, _, _, rfl, rfl, .of_right (intBits_le_64 (by omega) (by omega)), _, _, rfl, rfl, _, _, rfl, rfl, ⟨by decide, by decide, ?_⟩, _, _, rfl, rfl, (by show (0 : Int) < 2147483629; decide), ?_⟩⟩
      · have h64 : (2 : Nat) ^ 64 = 18446744073709551616 := by decide
        rw [h64]
        generalize (0 + (i : Int)) * (0 + (i : Int)) = ii at hii0 hii ⊢
        generalize z % 2147483647 = zz at hz0 hz1 ⊢
        omega
      · exact ⟨rfl, _, _, rfl, Int.emod_nonneg _ (by decide), Int.lt_trans (Int.emod_lt_of_pos _ (by decide)) (by decide)⟩
    · rintro σ H2 ⟨rfl, m, v, rfl, m0, m1⟩
      refine ⟨fun σ H3 => H3 = H2 ∧ ∃ c : Int, σ = [some (.ref a), some (.int (j : Int)), some (.int c), some (.int m), v] ∧ 0 ≤ c, ?_, ?_⟩
      · refine ⟨_, rfl, _, _, rfl, rfl, ⟨by decide, by decide, by decide⟩, _, _, rfl, rfl, _, rfl, ?_⟩
        refine ite2 (fun hc => ?_) (fun _ => ?_)
        · exact ⟨rfl, 0, rfl, Int.le_refl _⟩
        · exact ⟨rfl, c, rfl, c0⟩
      rintro σ H3 ⟨rfl, c, rfl, c0⟩
      refine ⟨_, rfl, _, rfl, (by show 2 ≤ sizeLine; decide), fun p H4 nw => ?_⟩
      exact k p H4 nw.no ⟨c, m, nw.at', c0, m0, m1⟩ nw.same

/-! ### _law_divisor -/
def spDiv : Sp := fun vs H Q _ => ∃ (a b : Int), vs = [.int a, .int b] ∧ Q (.int (Int.gcd a b)) H
abbrev sDiv : Stmt := top 11
theorem scDiv : FnScope ["_law_one", "_law_other"] ["_law_one", "_law_other"] (defScope sDiv) := ⟨rfl, rfl, rfl, by decide +kernel, rfl, by decide +kernel, by decide +kernel⟩
theorem ok_div (F : FA K mg "_law_divisor" sDiv) (B : Blt mg) : FnHas P w K mg base "_law_divisor" 1 spDiv := by
  refine F.has scDiv (fun vs H Q E h => ?_) (fun _ _ _ _ _ _ us hl => match us, hl with | [_, _], _ => rfl) (fun f cdv A outer s H vs Q E hr h => ?_)
  · obtain ⟨a, b, rfl, _⟩ := h
    rfl
  · obtain ⟨a, b, rfl, k⟩ := h
    have nd := scDiv.nd
    refine ⟨_, (pss_cons (ps_while PassesOwn.never (pt_cmpR (neK K rfl hr.units) (pv 1) pe_int (nomark _))
    (pss_one (ps_par (i := 0) (j := 1) rfl nd rfl rfl (by decide) rfl rfl (pa_cons (pv 1) (pa_cons (pe_op op_modN (pv 0) (pv 1)) pa_nil)) rfl)))
    (pss_one (ps_ret (pe_callB (x := "abs") call_abs rfl (B.at "abs") PyProof.Rows.boot_abs (pa_cons (pv 0) pa_nil))))), ?_⟩
    refine while_by (fun σ H2 => H2 = H ∧ ∃ (x y : Int), σ = [some (.int x), some (.int y)] ∧ Int.gcd x y = Int.gcd a b) (fun σ _ => match σ with | [_, some (.int y)] => y.natAbs | _ => 0) ?_ ?_ ?_
    · exact ⟨rfl, a, b, rfl, rfl⟩
    · rintro σ H2 ⟨rfl, x, y, rfl, e⟩
      refine ⟨_, rfl, .inl ⟨_, _, rfl, rfl, _, rfl, ?_⟩⟩
      refine ite2 (fun hc => ?_) (fun hc => ?_)
      · have hy : y ≠ 0 := by simpa using hc
        refine ⟨_, rfl, _, rfl, _, rfl, _, _, rfl, rfl, hy, _, _, rfl, ?_⟩
        exact ⟨⟨rfl, _, _, rfl, (Ar.gcd_fm x y).trans e⟩, Ar.fm_lt hy⟩
      · have hy : y = 0 := by simpa using hc
        subst hy
        refine ⟨_, rfl, _, rfl, ?_⟩
        rw [Int.gcd_zero_right] at e
        have e2 : (if x < 0 then -x else x) = ((Int.gcd a b : Nat) : Int) := by rw [← e]; split <;> omega
        rw [e2]
        exact k
    · rintro σ H2 Q1 Q2 hq ⟨v1, e1, h⟩
      refine ⟨v1, e1, ?_⟩
      rcases h with ⟨i, j, e3, e4, kk, e5, q⟩ | ⟨d, e, r1, r2, s1, s2, kk, e5, q⟩
      · exact .inl ⟨i, j, e3, e4, kk, e5, hq _ _ q⟩
      · exact .inr ⟨d, e, r1, r2, s1, s2, kk, e5, hq _ _ q⟩
end
end Lw



set_option Elab.async false
set_option linter.all false
set_option maxRecDepth 100000
set_option maxHeartbeats 1000000
namespace Lw
open PySem PySem.Spec PyProof.Rows L2
section
variable {P : Program} {w : World} {K : PySem.W.Frag} {mg : Str → Option Value} {base : Heap}

/-! ### _law_number -/
def spNum : Sp := fun vs H Q _ => ∃ p, vs = [.ref p] ∧ IsBag H p ∧ ∀ d H', 0 ≤ d → d < 10 ^ 30 → BagX p H H' → Q (.int d) H'
abbrev sNum : Stmt := top 12
theorem scNum : FnScope ["_law_bag_here", "_law_how"] ["_law_bag_here"] (defScope sNum) := ⟨rfl, rfl, rfl, by decide +kernel, rfl, by decide +kernel, by decide +kernel⟩
theorem ok_num (F : FA K mg "_law_number" sNum) (B : Blt mg) (hL_take : FnHas P w K mg base "_law_take" 1 spTake) : FnHas P w K mg base "_law_number" 2 spNum := by
  refine F.has scNum (fun vs H Q E h => ?_) (fun _ _ _ _ _ _ us hl => match us, hl with | [_], _ => rfl) (fun f cdv A outer s H vs Q E hr h => ?_)
  · obtain ⟨p, rfl, _⟩ := h
    rfl
  · obtain ⟨p, rfl, bg, k⟩ := h
    have nd := scNum.nd
    refine ⟨_, (pss_cons (ps_set (i := 1) nd rfl (Or.inl rfl) (pe_fn hL_take (hr.mono (by decide)) rfl (pa_cons (pv 0) (pa_cons pe_int pa_nil))))
    (pss_cons (ps_if (pt_cmpR op_lt (pv 1) pe_int (nomark _))
    (pss_one (ps_ret (pe_fn hL_take (hr.mono (by decide)) rfl (pa_cons (pv 0) (pa_cons (pe_ix (ixK K rfl) (pe_lstA (pa_cons pe_int (pa_cons pe_int pa_nil))) (pv 1) (fun _ _ => rfl)) pa_nil)))))
    pss_nil)
    (pss_cons (ps_if (pt_cmpR (eqK K rfl hr.units) (pv 1) pe_int (nomark _))
    (pss_one (ps_ret (pe_fn hL_take (hr.mono (by decide)) rfl (pa_cons (pv 0) (pa_cons (pe_op op_pow pe_int pe_int) pa_nil)))))
    pss_nil)
    (pss_one (ps_ret (pe_op op_add (pe_op op_sub (pe_op op_shl pe_int (pe_fn hL_take (hr.mono (by decide)) rfl (pa_cons (pv 0) (pa_cons pe_int pa_nil)))) pe_int) (pe_fn hL_take (hr.mono (by decide)) rfl (pa_cons (pv 0) (pa_cons pe_int pa_nil))))))))), ?_⟩
    refine ⟨_, rfl, p, 4, rfl, bg, by decide, by decide, fun d H1 d0 d1 b1 => ?_⟩
    refine ⟨_, rfl, _, _, rfl, rfl, _, rfl, ?_⟩
    refine ite2 (fun hc => ?_) (fun hc => ?_)
    · have hd : d < 2 := of_decide_eq_true hc
      refine ⟨_, rfl, (by show 2 ≤ sizeLine; decide), fun l H1' nw => ?_⟩
      have bl : BagX p H1 H1' := .ofSame b1.bag nw.same
      rcases (show d = 0 ∨ d = 1 by omega) with rfl | rfl
      · refine ⟨_, rfl, .inl ⟨l, _, _, .int 7, rfl, rfl, SqL.of nw.at', rfl, p, 7, rfl, bl.bag, by decide, by decide, fun e H2 e0 e1 b2 => ?_⟩⟩
        exact k e H2 e0 (by omega) (b1.trans (bl.trans b2))
      · refine ⟨_, rfl, .inl ⟨l, _, _, .int 100, rfl, rfl, SqL.of nw.at', rfl, p, 100, rfl, bl.bag, by decide, by decide, fun e H2 e0 e1 b2 => ?_⟩⟩
        exact k e H2 e0 (by omega) (b1.trans (bl.trans b2))
    · refine ⟨_, rfl, .inl ⟨_, _, rfl, rfl, _, rfl, ?_⟩⟩
      refine ite2 (fun hc => ?_) (fun hc => ?_)
      · refine ⟨_, rfl, _, _, rfl, rfl, ⟨by decide, by decide, by decide⟩, p, 10 ^ 30, rfl, b1.bag, by decide, by decide, fun e H2 e0 e1 b2 => ?_⟩
        exact k e H2 e0 e1 (b1.trans b2)
      · refine ⟨_, rfl, p, 99, rfl, b1.bag, by decide, by decide, fun e H2 e0 e1 b2 => ?_⟩
        refine ⟨_, _, rfl, rfl, ⟨e0, by omega, by decide⟩, _, _, rfl, rfl, _, rfl, p, 3, rfl, b2.bag, by decide, by decide, fun g H3 g0 g1 b3 => ?_⟩
        refine ⟨_, _, rfl, rfl, ?_⟩
        have hp0 : (1 : Int) ≤ 1 * 2 ^ e.toNat := by
          rw [Int.one_mul, two_pow_cast]
          have : 0 < 2 ^ e.toNat := Nat.two_pow_pos _
          omega
        have hp1 : (1 : Int) * 2 ^ e.toNat ≤ 2 ^ 98 := by
          rw [Int.one_mul, two_pow_cast, two_pow_cast]
          have : 2 ^ e.toNat ≤ 2 ^ 98 := Nat.pow_le_pow_right (by decide) (by omega)
          omega
        have h98 : (2 : Int) ^ 98 = 316912650057057350374175801344 := by decide
        rw [h98] at hp1
        exact k _ H3 (by omega) (by omega) (b1.trans (b2.trans b3))

/-! ### _law_lowest -/
def spLow : Sp := fun vs H Q _ => ∃ (a b : Int), vs = [.int a, .int b] ∧ b ≠ 0 ∧ Wd b ∧ ∀ t H', Nw H H' t (.tup [.int (Ar.lowP a b), .int (Ar.lowQ a b)]) → Q (.ref t) H'
abbrev sLow : Stmt := top 13
theorem scLow : FnScope ["_law_p", "_law_q", "_law_common"] ["_law_p", "_law_q"] (defScope sLow) := ⟨rfl, rfl, rfl, by decide +kernel, rfl, by decide +kernel, by decide +kernel⟩
theorem ok_low (F : FA K mg "_law_lowest" sLow) (B : Blt mg) (hL_divisor : FnHas P w K mg base "_law_divisor" 1 spDiv) : FnHas P w K mg base "_law_lowest" 2 spLow := by
  refine F.has scLow (fun vs H Q E h => ?_) (fun _ _ _ _ _ _ us hl => match us, hl with | [_, _], _ => rfl) (fun f cdv A outer s H vs Q E hr h => ?_)
  · obtain ⟨a, b, rfl, _⟩ := h
    rfl
  · obtain ⟨a, b, rfl, hb, wb, k⟩ := h
    have nd := scLow.nd
    have sw : Wd (Ar.sg a b) := Nat.lt_of_le_of_lt (Ar.sg_le hb) wb
    refine ⟨_, (pss_cons (ps_set (i := 2) nd rfl (Or.inl rfl) (pe_fn hL_divisor (hr.mono (by decide)) rfl (pa_cons (pv 0) (pa_cons (pv 1) pa_nil))))
    (pss_cons (ps_mid (ps_if (pt_cmpR op_lt (pv 1) pe_int (nomark _))
    (pss_one (ps_set (i := 2) nd rfl (Or.inl rfl) (pe_un un_neg (pv 2))))
    pss_nil))
    (pss_one (ps_ret (pe_tupA (pa_cons (pe_op op_fdivNW (pv 0) (pv 2)) (pa_cons (pe_op op_fdivNW (pv 1) (pv 2)) pa_nil))))))), ?_⟩
    refine ⟨_, rfl, _, rfl, a, b, rfl, ?_⟩
    refine ⟨fun σ H' => H' = H ∧ σ = [some (.int a), some (.int b), some (.int (Ar.sg a b))], ?_, ?_⟩
    · refine ⟨_, rfl, _, _, rfl, rfl, _, rfl, ?_⟩
      refine ite2 (fun hc => ?_) (fun hc => ?_)
      · have hd : b < 0 := of_decide_eq_true hc
        refine ⟨_, rfl, _, rfl, ?_⟩
        refine ⟨rfl, ?_⟩
        unfold Ar.sg; rw [if_pos hd]; rfl
      · have hd : ¬ b < 0 := fun z => hc (decide_eq_true z)
        refine ⟨rfl, ?_⟩
        unfold Ar.sg; rw [if_neg hd]; rfl
    rintro σ H' ⟨rfl, rfl⟩
    refine ⟨_, rfl, _, rfl, _, _, rfl, rfl, ⟨Ar.sg_ne hb, sw⟩, _, rfl, _, rfl, _, _, rfl, rfl, ⟨Ar.sg_ne hb, sw⟩, (by show 2 ≤ sizeLine; decide), fun t H4 nw => ?_⟩
    exact k t H4 nw

/-! ### _law_fraction -/
/-- a fraction of up to thirty figures -/
structure Fr30 (a b : Int) : Prop where
  pos : 0 < b
  cop : Int.gcd a b = 1
  na : a.natAbs < 10 ^ 30
  nb : b < 10 ^ 30
def FrAt (H : Hp) (v : V) (a b : Int) : Prop := ∃ p, v = .ref p ∧ H p = some (.tup [.int a, .int b])
def spFrac : Sp := fun vs H Q _ => ∃ p, vs = [.ref p] ∧ IsBag H p ∧ ∀ v a b H', Fr30 a b → FrAt H' v a b → BagX p H H' → Q v H'
abbrev sFrac : Stmt := top 14
theorem scFrac : FnScope ["_law_bag_here", "_law_sign"] ["_law_bag_here"] (defScope sFrac) := ⟨rfl, rfl, rfl, by decide +kernel, rfl, by decide +kernel, by decide +kernel⟩
theorem ok_frac (F : FA K mg "_law_fraction" sFrac) (B : Blt mg) (hL_take : FnHas P w K mg base "_law_take" 1 spTake) (hL_number : FnHas P w K mg base "_law_number" 2 spNum) (hL_lowest : FnHas P w K mg base "_law_lowest" 2 spLow) : FnHas P w K mg base "_law_fraction" 3 spFrac := by
  refine F.has scFrac (fun vs H Q E h => ?_) (fun _ _ _ _ _ _ us hl => match us, hl with | [_], _ => rfl) (fun f cdv A outer s H vs Q E hr h => ?_)
  · obtain ⟨p, rfl, _⟩ := h
    rfl
  · obtain ⟨p, rfl, bg, k⟩ := h
    have nd := scFrac.nd
    refine ⟨_, (pss_cons (ps_set (i := 1) nd rfl (Or.inl rfl) (pe_op op_sub pe_int (pe_op op_mulG pe_int (pe_fn hL_take (hr.mono (by decide)) rfl (pa_cons (pv 0) (pa_cons pe_int pa_nil))))))
    (pss_one (ps_ret (pe_fn hL_lowest (hr.mono (by decide)) rfl (pa_cons (pe_op op_mulG (pv 1) (pe_fn hL_number (hr.mono (by decide)) rfl (pa_cons (pv 0) pa_nil))) (pa_cons (pe_op op_add pe_int (pe_op op_mod (pe_fn hL_number (hr.mono (by decide)) rfl (pa_cons (pv 0) pa_nil)) (pe_op op_sub (pe_op op_pow pe_int pe_int) pe_int))) pa_nil)))))), ?_⟩
    refine ⟨_, rfl, p, 2, rfl, bg, by decide, by decide, fun d H1 d0 d1 b1 => ?_⟩
    refine ⟨_, _, rfl, rfl, .of_left (intBits_le_64 (by decide) (by decide)), _, _, rfl, rfl, ?_⟩
    refine ⟨_, rfl, _, rfl, p, rfl, b1.bag, fun n H2 n0 n1 b2 => ?_⟩
    refine ⟨_, _, rfl, rfl, .of_left (intBits_le_64 (by omega) (by omega)), _, rfl, p, rfl, b2.bag, fun m H3 m0 m1 b3 => ?_⟩
    refine ⟨_, _, rfl, rfl, ⟨by decide, by decide, by decide⟩, _, _, rfl, rfl, _, _, rfl, rfl, (by show (0 : Int) < 10 ^ 30 - 1; decide), _, _, rfl, rfl, ?_⟩
    have q0 : 0 ≤ m % (10 ^ 30 - 1) := Int.emod_nonneg _ (by decide)
    have q1 : m % (10 ^ 30 - 1) < 10 ^ 30 - 1 := Int.emod_lt_of_pos _ (by decide)
    generalize hq : m % (10 ^ 30 - 1) = q at q0 q1
    have wq : Wd (1 + q) := wd40 (by omega) (by omega)
    have hne : 1 + q ≠ 0 := by omega
    have hA : ((1 - 2 * d) * n).natAbs < 10 ^ 30 := by
      rw [Int.natAbs_mul]
      have e1 : (1 - 2 * d).natAbs = 1 := by omega
      rw [e1, Nat.one_mul]; omega
    refine ⟨_, _, rfl, (by show 1 + m % (10 ^ 30 - 1) ≠ 0; rw [hq]; exact hne), (by show Wd (1 + m % (10 ^ 30 - 1)); rw [hq]; exact wq), fun t H4 nw => ?_⟩
    have at4 : H4 t = some (.tup [.int (Ar.lowP ((1 - 2 * d) * n) (1 + q)), .int (Ar.lowQ ((1 - 2 * d) * n) (1 + q))]) := by rw [← hq]; exact nw.at'
    refine k _ _ _ _ ⟨Ar.lowQ_pos hne, Ar.low_cop hne, Nat.lt_of_le_of_lt (Ar.lowP_le hne) hA, ?_⟩ ⟨t, rfl, at4⟩ (b1.trans (b2.trans (b3.trans (.ofSame b3.bag nw.same))))
    have := Ar.lowQ_le (p := (1 - 2 * d) * n) hne
    have := Ar.lowQ_pos (p := (1 - 2 * d) * n) hne
    omega
end
end Lw



set_option Elab.async false
set_option linter.all false
set_option maxRecDepth 100000
set_option maxHeartbeats 1000000
namespace Lw
open PySem PySem.Spec PyProof.Rows L2
section
variable {P : Program} {w : World} {K : PySem.W.Frag} {mg : Str → Option Value} {base : Heap}
theorem wd30 {a : Int} (h : a.natAbs < 10 ^ 30) : Wd a := Nat.lt_trans h (by decide +kernel)
theorem Fr30.wb {a b : Int} (h : Fr30 a b) : Wd b := wd30 (by have := h.pos; have := h.nb; omega)
/-- a fraction at its address -/
abbrev FA3 := Addr × Int × Int
def FIn (H : Hp) (f : FA3) : Prop := H f.1 = some (.tup [.int f.2.1, .int f.2.2]) ∧ Fr30 f.2.1 f.2.2
theorem FIn.mono {p : Addr} {H H' : Hp} {f : FA3} (h : FIn H f) (bg : IsBag H p) (b : BagX p H H') : FIn H' f := ⟨b.same _ _ (bg.ne_tup h.1) h.1, h.2⟩
theorem FIn.same {H H' : Hp} {f : FA3} (h : FIn H f) (s : Same H H') : FIn H' f := ⟨s _ _ h.1, h.2⟩
/-- products of parts of fractions are wide enough -/
theorem Fr30.bd {a b c d : Int} (h : Fr30 a b) (g : Fr30 c d) : b * d ≠ 0 ∧ Wd (b * d) := by
  have h1 := h.pos
  have h2 := g.pos
  refine ⟨Int.ne_of_gt (Int.mul_pos h1 h2), ?_⟩
  have e1 : b.natAbs < 10 ^ 30 := by have := h.nb; omega
  have e2 : d.natAbs < 10 ^ 30 := by have := g.nb; omega
  show (b * d).natAbs < 2 ^ 5000
  rw [Int.natAbs_mul]
  exact Nat.lt_trans (Nat.mul_lt_mul'' e1 e2) (by decide +kernel)

/-! ### _law_is_whole -/
def isW (T : String) : Bool := tyIs T "int" && !tyIs T "bool"
/-! ### common_divisor, lowest_terms -/
end
end Lw



set_option Elab.async false
set_option linter.all false
set_option maxRecDepth 100000
set_option maxHeartbeats 1000000
namespace Lw
open PySem PySem.Spec PyProof.Rows L2
section
variable {P : Program} {w : World} {K : PySem.W.Frag} {mg : Str → Option Value} {base : Heap}
end
end Lw



set_option Elab.async false
set_option linter.all false
set_option maxRecDepth 100000
set_option maxHeartbeats 1000000
namespace Lw
open PySem PySem.Spec PyProof.Rows L2
section
variable {P : Program} {w : World} {K : PySem.W.Frag} {mg : Str → Option Value} {base : Heap}
/-! ### _law_odd_thing -/
end
end Lw



set_option Elab.async false
set_option linter.all false
set_option maxRecDepth 100000
set_option maxHeartbeats 1000000
namespace Lw
open PySem PySem.Spec PyProof.Rows L2
section
variable {P : Program} {w : World} {K : PySem.W.Frag} {mg : Str → Option Value} {base : Heap}
end
end Lw



set_option Elab.async false
set_option linter.all false
set_option maxRecDepth 100000
set_option maxHeartbeats 1000000
namespace Lw
open PySem PySem.Spec PyProof.Rows L2 Ln
section
variable {P : Program} {w : World} {K : PySem.W.Frag} {mg : Str → Option Value} {base : Heap}
/-! ### lines -/
def lineD (ns : List Int) (sp : Int) : PyData := .tuple [.str "line", .tuple (ns.map PyData.int), .int sp]
theorem lineD_no (ns : List Int) (sp : Int) : noL (lineD ns sp) = true := by simp [lineD, noL, noLs, noLs_ints]
structure OkL (ax : Nat) (m : Int) (ns : List Int) : Prop where
  len : ns.length = ax
  bd : ∀ z ∈ ns, (z.natAbs : Int) ≤ m
  nz : ∃ z ∈ ns, z ≠ 0
theorem OkL.ne {ax : Nat} {m : Int} {ns : List Int} (h : OkL ax m ns) : ns ≠ [] := by
  obtain ⟨z, hz, _⟩ := h.nz
  intro e; subst e; cases hz
/-! ### _law_line -/
end
end Lw



set_option Elab.async false
set_option linter.all false
set_option maxRecDepth 100000
set_option maxHeartbeats 1000000
namespace Lw
open PySem PySem.Spec PyProof.Rows L2 Ln Wk
section
variable {P : Program} {w : World} {K : PySem.W.Frag} {mg : Str → Option Value} {base : Heap}
theorem wh : isW "int" = true := by decide
/-! ### machines, places -/
/-! ### items -/
def itD (d : PyData) (o : Option (List Int)) : Prop := (∃ ns sp, d = lineD ns sp ∧ o = some ns) ∨ ∃ w x, d = .tuple [.str w, x] ∧ (w = "wait" ∨ w = "tool" ∨ w = "mark") ∧ noL x = true ∧ o = none
theorem itD.no {d : PyData} {o : Option (List Int)} (h : itD d o) : noL d = true := by
  rcases h with ⟨ns, sp, rfl, _⟩ | ⟨w, x, rfl, _, h, _⟩
  · exact lineD_no _ _
  · simp [noL, noLs, h]
abbrev sIsLn : Stmt := top 1
end
end Lw



set_option Elab.async false
set_option linter.all false
set_option maxRecDepth 100000
set_option maxHeartbeats 2000000
set_option exponentiation.threshold 6000
namespace Lw
open PySem PySem.Spec PyProof.Rows L2 Ln Wk
section
variable {P : Program} {w : World} {K : PySem.W.Frag} {mg : Str → Option Value} {base : Heap}
/-! ### texts -/
def numS (i : Int) : Str := Str.ofString (toString i)
def valS : PyData → Str
  | .int i => numS i
  | .str z => z
  | _ => Str.empty
def numsS (ns : List Int) : Str := Txt.join " " (ns.map numS)
def fracS (a b : Int) : Str := if b = 1 then numS a else numS a ++ "/" ++ numS b
def itmS : PyData → Str
  | .tuple [.str _, .tuple xs, .int sp] => "line " ++ Txt.join " " (xs.map valS) ++ " " ++ numS sp
  | .tuple [.str w, u] => w ++ " " ++ valS u
  | _ => Str.empty
def entS : PyData → Str
  | .tuple [.str _, .tuple xs, .int t, .tuple [.int a, .int b]] => "step " ++ Txt.join " " (xs.map valS) ++ " " ++ numS t ++ " " ++ fracS a b
  | d => itmS d
def Nm (i : Int) : Prop := i.natAbs < 10 ^ 40
def WOk (w : Str) : Prop := w = "wait" ∨ w = "tool" ∨ w = "mark"
def TI (d : PyData) : Prop := (∃ ns sp, d = lineD ns sp ∧ ns.length ≤ 3 ∧ (∀ n ∈ ns, Nm n) ∧ Nm sp) ∨ (∃ w i, d = .tuple [.str w, .int i] ∧ WOk w ∧ Nm i) ∨ ∃ w z, d = .tuple [.str w, .str z] ∧ WOk w ∧ z.length ≤ 100
def TEn (d : PyData) : Prop := TI d ∧ (∀ ns sp, d ≠ lineD ns sp) ∨ ∃ (ns : List Int) (t a b : Int), d = .tuple [.str "step", .tuple (ns.map PyData.int), .int t, .tuple [.int a, .int b]] ∧ ns.length ≤ 3 ∧ (∀ n ∈ ns, Nm n) ∧ Nm t ∧ Nm a ∧ Nm b
theorem map_val (ns : List Int) : (ns.map PyData.int).map valS = ns.map numS := by rw [List.map_map]; rfl
theorem itm_line (ns : List Int) (sp : Int) : itmS (lineD ns sp) = "line " ++ numsS ns ++ " " ++ numS sp := by
  show Str.ofString "line " ++ Txt.join " " ((ns.map PyData.int).map valS) ++ " " ++ numS sp = _
  rw [map_val]; rfl
theorem num_len {i : Int} (h : Nm i) : (numS i).length ≤ 41 := txt_len h
theorem nums_len {ns : List Int} (h : ∀ n ∈ ns, Nm n) (hl : ns.length ≤ 3) : (numsS ns).length ≤ 126 := by
  have := join_len " " (B := 41) (ns.map numS) (fun z hz => by
    obtain ⟨n, hn, rfl⟩ := List.mem_map.mp hz
    exact num_len (h n hn))
  rw [List.length_map] at this
  have e : Str.length " " = 1 := by decide +kernel
  rw [e] at this
  unfold numsS
  omega
theorem word_len {w : Str} (h : WOk w) : w.length = 4 := by rcases h with rfl | rfl | rfl <;> decide +kernel
theorem itm_len {d : PyData} (h : TI d) : (itmS d).length ≤ 400 := by
  have e1 : Str.length " " = 1 := by decide +kernel
  have e2 : Str.length "line " = 5 := by decide +kernel
  rcases h with ⟨ns, sp, rfl, hl, hb, hs⟩ | ⟨w, i, rfl, hw, hi⟩ | ⟨w, z, rfl, hw, hz⟩
  · rw [itm_line]
    have h1 := nums_len hb hl
    have h2 := num_len hs
    simp only [strLen_append]
    omega
  · show (w ++ " " ++ numS i).length ≤ 400
    have h2 := num_len hi
    have h3 := word_len hw
    simp only [strLen_append]
    omega
  · show (w ++ " " ++ z).length ≤ 400
    have h3 := word_len hw
    simp only [strLen_append]
    omega
theorem lineA : SeqAt.shaped (.str "line") = true := by decide +kernel
theorem stepA : SeqAt.shaped (.str "step") = true := by decide +kernel
theorem eqvS (x y : Str) : PyData.eqv (.str x) (.str y) = decide (x = y) := by
  show (x == y) = decide (x = y)
  rw [Bool.eq_iff_iff]; simp
/-- the word of an item -/
theorem ti_word {H : Hp} {v : V} {d : PyData} (h : RD K H v d) (i : TI d) : (∃ ns sp a b, d = lineD ns sp ∧ v = .ref a ∧ SqT K H a [.str "line", .ref b, .int sp] ∧ RD K H (.ref b) (.tuple (ns.map PyData.int)) ∧ ns.length ≤ 3 ∧ (∀ n ∈ ns, Nm n) ∧ Nm sp) ∨ ∃ w u a y, d = .tuple [.str w, u] ∧ WOk w ∧ v = .ref a ∧ SqT K H a [.str w, y] ∧ RD K H y u ∧ ((∃ i, u = .int i ∧ y = .int i ∧ Nm i) ∨ ∃ z, u = .str z ∧ y = .str z ∧ z.length ≤ 100) := by
  rcases i with ⟨ns, sp, rfl, hl, hb, hs⟩ | ⟨w, i, rfl, hw, hi⟩ | ⟨w, z, rfl, hw, hz⟩
  · obtain ⟨a, xs, rfl, h1, h2⟩ := h.tup_inv
    obtain ⟨x1, r, rfl, e1, h2⟩ := h2.cons_inv
    obtain ⟨x2, r, rfl, e2, h2⟩ := h2.cons_inv
    obtain ⟨x3, r, rfl, e3, h2⟩ := h2.cons_inv
    cases h2.nil_inv
    cases e1.str_inv
    cases e3.int_inv
    obtain ⟨b, ys, rfl, _, _⟩ := id e2.tup_inv
    exact .inl ⟨ns, sp, a, b, rfl, rfl, h1, e2, hl, hb, hs⟩
  · obtain ⟨a, xs, rfl, h1, h2⟩ := h.tup_inv
    obtain ⟨x1, r, rfl, e1, h2⟩ := h2.cons_inv
    obtain ⟨x2, r, rfl, e2, h2⟩ := h2.cons_inv
    cases h2.nil_inv
    cases e1.str_inv
    cases e2.int_inv
    exact .inr ⟨w, _, a, _, rfl, hw, rfl, h1, e2, .inl ⟨i, rfl, rfl, hi⟩⟩
  · obtain ⟨a, xs, rfl, h1, h2⟩ := h.tup_inv
    obtain ⟨x1, r, rfl, e1, h2⟩ := h2.cons_inv
    obtain ⟨x2, r, rfl, e2, h2⟩ := h2.cons_inv
    cases h2.nil_inv
    cases e1.str_inv
    cases e2.str_inv
    exact .inr ⟨w, _, a, _, rfl, hw, rfl, h1, e2, .inr ⟨z, rfl, rfl, hz⟩⟩
theorem word_sh {w : Str} (h : WOk w) : SeqAt.shaped (.str w) = true := by rcases h with rfl | rfl | rfl <;> decide +kernel
theorem word_ne {w : Str} (h : WOk w) : decide (w = "line") = false ∧ decide (w = "step") = false := by rcases h with rfl | rfl | rfl <;> decide +kernel
/-! ### numbers in a row -/
def spNums (K : PySem.W.Frag) : Sp := fun vs H Q _ => ∃ v ns, vs = [v] ∧ RD K H v (.tuple (ns.map PyData.int)) ∧ ns.length ≤ 3 ∧ (∀ n ∈ ns, Nm n) ∧ ∀ H', Same H H' → Q (.str (numsS ns)) H'
theorem strs_inv {H : Hp} : ∀ {xs : List V} {zs : List Str}, RDs K H xs (zs.map PyData.str) → xs = zs.map V.str
  | xs, [], h => h.nil_inv
  | xs, n :: ns, h => by
    obtain ⟨y, ys, rfl, h1, h2⟩ := h.cons_inv
    rw [h1.str_inv, strs_inv h2]; rfl
theorem noLs_strs (zs : List Str) : noLs (zs.map PyData.str) = true := noLs_mem.mpr fun d hd => by
  obtain ⟨z, _, rfl⟩ := List.mem_map.mp hd
  rfl
abbrev sSNs : Stmt := top 4
theorem scSNs : FnScope ["numbers"] ["numbers"] (defScope sSNs) := ⟨rfl, rfl, rfl, by decide +kernel, rfl, by decide +kernel, by decide +kernel⟩
theorem ok_sns (F : FA K mg "show_numbers" sSNs) (B : Blt mg) : FnHas P w K mg base "show_numbers" 1 (spNums K) := by
  refine F.has scSNs (fun vs H Q E h => ?_) (fun _ _ _ _ _ _ us hl => match us, hl with | [_], _ => rfl) (fun f cdv A outer s H vs Q E hr h => ?_)
  · obtain ⟨v, ns, rfl, _⟩ := h
    rfl
  · obtain ⟨v, ns, rfl, rv, hl, hb, k⟩ := h
    have nd := scSNs.nd
    refine ⟨_, (pss_one (ps_ret (peJoinT K rfl pe_str (pa_cons (pe_comp (N := ["number"]) (js := [none]) rfl rfl rfl (piT K rfl (pv 0)) (fun _ _ _ _ _ => (pg_name (i := 0) (show List.Nodup (["number"] : List Str) by decide +kernel) rfl (Or.inl rfl))) (fun _ _ _ _ _ => pts_nil) (fun _ _ _ _ _ => (pe_callTy (x := "str") call_str1 rfl (B.at "str") PyProof.Rows.boot_str (pa_cons (pv 0) pa_nil)))) pa_nil)))), ?_⟩
    obtain ⟨a, xs, rfl, h1, h2⟩ := rv.tup_inv
    rw [h2.ints_inv] at h1
    refine ⟨rfl, ?_⟩
    refine ⟨_, rfl, a, rfl, ⟨_, h1⟩, fun D H1 n1 => ?_⟩
    refine comp_rdT (K := K) (ds := (ns.map numS).map PyData.str) _ h1 n1 (by simp) (by simp; omega) (noLs_strs _) ?_ ?_
    · intro i x d H2 Q' ex ed s2 hq
      rw [List.getElem?_map] at ex
      obtain ⟨n, en, rfl⟩ := Option.map_eq_some_iff.mp ex
      rw [List.getElem?_map, List.getElem?_map, en] at ed
      cases ed
      have hn := hb n (List.mem_of_getElem? en)
      exact ⟨_, rfl, .inl ⟨n, rfl, log_of hn, hq _ _ (Same.refl _) (rd_str _)⟩⟩
    · intro H2 zs s2 d2 r2
      rw [strs_inv r2] at d2
      refine ⟨" ", D, ns.map numS, rfl, rfl, SqL.of d2, fun z hz => ?_, by decide +kernel, by rw [List.length_map]; omega, k _ s2⟩
      obtain ⟨n, hn, rfl⟩ := List.mem_map.mp hz
      have := num_len (hb n hn)
      omega
/-! ### an item -/
def spIsl (K : PySem.W.Frag) : Sp := fun vs H Q _ => ∃ v d, vs = [v] ∧ RD K H v d ∧ TI d ∧ (∀ b : Bool, (b = true ↔ ∃ ns sp, d = lineD ns sp) → Q (.bl b) H)
theorem ti_not {w : Str} {u : PyData} (h : WOk w) : ¬ ∃ ns sp, PyData.tuple [.str w, u] = lineD ns sp := by
  rintro ⟨ns, sp, e⟩
  unfold lineD at e
  injection e with e
  injection e with e1 e2
  injection e2 with e2 e3
  cases e3
abbrev sIsL : Stmt := top 1
theorem scIsL : FnScope ["item"] ["item"] (defScope sIsL) := ⟨rfl, rfl, rfl, by decide +kernel, rfl, by decide +kernel, by decide +kernel⟩
theorem ok_isl (F : FA K mg "is_line" sIsL) (B : Blt mg) : FnHas P w K mg base "is_line" 1 (spIsl K) := by
  refine F.has scIsL (fun vs H Q E h => ?_) (fun _ _ _ _ _ _ us hl => match us, hl with | [_], _ => rfl) (fun f cdv A outer s H vs Q E hr h => ?_)
  · obtain ⟨v, d, rfl, _⟩ := h
    rfl
  · obtain ⟨v, d, rfl, rv, ti, k⟩ := h
    have nd := scIsL.nd
    refine ⟨_, (pss_one (ps_ret (pe_cmpR (eqK K rfl hr.units) (pe_ix (ixK K rfl) (pv 0) pe_int (fun _ _ => rfl)) pe_str (nomark _)))), ?_⟩
    rcases ti_word rv ti with ⟨ns, sp, a, b, rfl, rfl, h1, _⟩ | ⟨w, u, a, y, rfl, hw, rfl, h1, _⟩
    · refine ⟨_, rfl, .inr ⟨a, _, 0, .str "line", rfl, rfl, h1, atI_of (Int.le_refl 0) rfl, .inr ⟨_, _, rd_str _, rd_str _, lineA, lineA, ?_⟩⟩⟩
      rw [eqvS, decide_eq_true rfl]
      exact k true ⟨fun _ => ⟨_, _, rfl⟩, fun _ => rfl⟩
    · refine ⟨_, rfl, .inr ⟨a, _, 0, .str w, rfl, rfl, h1, atI_of (Int.le_refl 0) rfl, .inr ⟨_, _, rd_str _, rd_str _, word_sh hw, lineA, ?_⟩⟩⟩
      rw [eqvS, (word_ne hw).1]
      exact k false ⟨fun z => (by cases z), fun z => (ti_not hw z).elim⟩
def spItx (K : PySem.W.Frag) : Sp := fun vs H Q _ => ∃ v d, vs = [v] ∧ RD K H v d ∧ TI d ∧ ∀ H', Same H H' → Q (.str (itmS d)) H'
abbrev sSIt : Stmt := top 5
theorem scSIt : FnScope ["item", "word", "steps", "speed", "value"] ["item"] (defScope sSIt) := ⟨rfl, rfl, rfl, by decide +kernel, rfl, by decide +kernel, by decide +kernel⟩
theorem ok_sit (F : FA K mg "show_item" sSIt) (B : Blt mg) (his_line : FnHas P w K mg base "is_line" 1 (spIsl K)) (hshow_numbers : FnHas P w K mg base "show_numbers" 1 (spNums K)) : FnHas P w K mg base "show_item" 2 (spItx K) := by
  refine F.has scSIt (fun vs H Q E h => ?_) (fun _ _ _ _ _ _ us hl => match us, hl with | [_], _ => rfl) (fun f cdv A outer s H vs Q E hr h => ?_)
  · obtain ⟨v, d, rfl, _⟩ := h
    rfl
  · obtain ⟨v, d, rfl, rv, ti, k⟩ := h
    have nd := scSIt.nd
    have h24 : sizeLine = 16777216 := by decide
    have e1 : Str.length " " = 1 := by decide +kernel
    have e2 : Str.length "line" = 4 := by decide +kernel
    have e0 : Str.empty.length = 0 := by decide +kernel
    refine ⟨_, (pss_cons (ps_if (pt_val (pe_fn his_line (hr.mono (by decide)) rfl (pa_cons (pv 0) pa_nil)))
    (pss_cons (ps_asg (pv 0) (pgT K rfl (n := 3) rfl (pgs_cons (pg_name (i := 1) nd rfl (Or.inl rfl)) (pgs_cons (pg_name (i := 2) nd rfl (Or.inl rfl)) (pgs_cons (pg_name (i := 3) nd rfl (Or.inl rfl)) pgs_nil)))))
    (pss_one (ps_ret (pe_js (pj_cons (pe_fv (pv 1)) (pj_cons pe_str (pj_cons (pe_fv (pe_fn hshow_numbers (hr.mono (by decide)) rfl (pa_cons (pv 2) pa_nil))) (pj_cons pe_str (pj_cons (pe_fv (pv 3)) pj_nil)))))))))
    pss_nil)
    (pss_cons (ps_asg (pv 0) (pgT K rfl (n := 2) rfl (pgs_cons (pg_name (i := 1) nd rfl (Or.inl rfl)) (pgs_cons (pg_name (i := 4) nd rfl (Or.inl rfl)) pgs_nil))))
    (pss_one (ps_ret (pe_js (pj_cons (pe_fv (pv 1)) (pj_cons pe_str (pj_cons (pe_fv (pv 4)) pj_nil)))))))), ?_⟩
    refine ⟨_, rfl, v, d, rfl, rv, ti, fun b hb => ⟨_, rfl, ?_⟩⟩
    rcases ti_word rv ti with ⟨ns, sp, a, b', rfl, rfl, h1, r2, hl, hn, hs⟩ | ⟨w, u, a, y, rfl, hw, rfl, h1, ry, hv⟩
    · cases (hb.mpr ⟨_, _, rfl⟩)
      refine iteT ?_
      have h126 := nums_len hn hl
      have h41 := num_len hs
      refine ⟨_, rfl, a, _, rfl, h1, rfl, _, _, rfl, _, _, rfl, _, _, rfl, rfl, ?_⟩
      refine ⟨_, rfl, .inr ⟨"line", rfl, by omega, _, rfl, by simp only [strLen_append]; omega, ?_⟩⟩
      refine ⟨_, rfl, by simp only [strLen_append]; omega, ?_⟩
      refine ⟨_, rfl, .ref b', ns, rfl, r2, hl, hn, fun H1 s1 => .inr ⟨_, rfl, by omega, _, rfl, by simp only [strLen_append]; omega, ?_⟩⟩
      refine ⟨_, rfl, by simp only [strLen_append]; omega, ?_⟩
      refine ⟨_, rfl, .inl ⟨sp, rfl, log_of hs, _, rfl, by simp only [strLen_append]; change _ + (numS sp).length ≤ _; omega, ?_⟩⟩
      refine ⟨by simp only [strLen_append]; change _ + (numS sp).length ≤ _; omega, ?_⟩
      have e : Str.empty ++ "line" ++ " " ++ numsS ns ++ " " ++ numS sp = itmS (lineD ns sp) := by
        rw [itm_line, Str.empty_append]
        have : (Str.ofString "line" ++ Str.ofString " ") = Str.ofString "line " := by decide +kernel
        rw [this]
      have := k H1 s1
      rw [← e] at this
      exact this
    · have hb' : b = false := by
        cases b with
        | false => rfl
        | true => exact (ti_not hw (hb.mp rfl)).elim
      subst hb'
      refine iteF ?_
      have w4 := word_len hw
      refine ⟨_, rfl, a, _, rfl, h1, rfl, _, _, rfl, _, _, rfl, rfl, ?_⟩
      refine ⟨_, rfl, .inr ⟨w, rfl, by omega, _, rfl, by simp only [strLen_append]; omega, ?_⟩⟩
      refine ⟨_, rfl, by simp only [strLen_append]; omega, ?_⟩
      have fin := k H (Same.refl _)
      have e : Str.empty ++ w ++ " " ++ valS u = itmS (.tuple [.str w, u]) := by
        rw [Str.empty_append]
        rcases hv with ⟨i, rfl, _⟩ | ⟨z, rfl, _⟩ <;> rfl
      rw [← e] at fin
      rcases hv with ⟨i, rfl, rfl, hi⟩ | ⟨z, rfl, rfl, hz⟩
      · have h41 := num_len hi
        refine ⟨_, rfl, .inl ⟨i, rfl, log_of hi, _, rfl, by simp only [strLen_append]; change _ + (numS i).length ≤ _; omega, ?_⟩⟩
        exact ⟨by simp only [strLen_append]; change _ + (numS i).length ≤ _; omega, fin⟩
      · refine ⟨_, rfl, .inr ⟨z, rfl, by omega, _, rfl, by simp only [strLen_append]; omega, ?_⟩⟩
        exact ⟨by simp only [strLen_append]; omega, fin⟩
end
end Lw



set_option Elab.async false
set_option linter.all false
set_option maxRecDepth 100000
set_option maxHeartbeats 2000000
set_option exponentiation.threshold 6000
namespace Lw
open PySem PySem.Spec PyProof.Rows L2 Ln Wk
section
variable {P : Program} {w : World} {K : PySem.W.Frag} {mg : Str → Option Value} {base : Heap}
theorem sz : sizeLine = 16777216 := by decide
theorem sp1 : Str.length " " = 1 := by decide +kernel
theorem sp0 : Str.empty.length = 0 := by decide +kernel
/-! ### items -/
def spItxs (K : PySem.W.Frag) : Sp := fun vs H Q _ => ∃ v ds, vs = [v] ∧ RD K H v (.tuple ds) ∧ (∀ d ∈ ds, TI d) ∧ noLs ds = true ∧ ds.length ≤ 30 ∧ ∀ H', Same H H' → Q (.str (Txt.join "\n" (ds.map itmS))) H'
abbrev sSIs : Stmt := top 6
theorem scSIs : FnScope ["items"] ["items"] (defScope sSIs) := ⟨rfl, rfl, rfl, by decide +kernel, rfl, by decide +kernel, by decide +kernel⟩
theorem ok_sis (F : FA K mg "show_items" sSIs) (B : Blt mg) (hshow_item : FnHas P w K mg base "show_item" 2 (spItx K)) : FnHas P w K mg base "show_items" 3 (spItxs K) := by
  refine F.has scSIs (fun vs H Q E h => ?_) (fun _ _ _ _ _ _ us hl => match us, hl with | [_], _ => rfl) (fun f cdv A outer s H vs Q E hr h => ?_)
  · obtain ⟨v, ds, rfl, _⟩ := h
    rfl
  · obtain ⟨v, ds, rfl, rv, ti, no, hl, k⟩ := h
    have nd := scSIs.nd
    refine ⟨_, (pss_one (ps_ret (peJoinT K rfl pe_str (pa_cons (pe_comp (N := ["item"]) (js := [none]) rfl rfl rfl (piT K rfl (pv 0)) (fun _ _ _ _ _ => (pg_name (i := 0) (show List.Nodup (["item"] : List Str) by decide +kernel) rfl (Or.inl rfl))) (fun _ _ _ _ _ => pts_nil) (fun _ _ _ _ _ => (pe_fn hshow_item (hr.mono (by decide)) rfl (pa_cons (pv 0) pa_nil)))) pa_nil)))), ?_⟩
    obtain ⟨a, xs, rfl, h1, h2⟩ := rv.tup_inv
    have lx := h2.length
    refine ⟨rfl, ?_⟩
    refine ⟨_, rfl, a, rfl, ⟨_, h1⟩, fun D H1 n1 => ?_⟩
    refine comp_rdT (K := K) (ds := (ds.map itmS).map PyData.str) _ h1 n1 (by simp; exact lx) (by omega) (noLs_strs _) ?_ ?_
    · intro i x d H2 Q' ex ed s2 hq
      obtain ⟨d', ed', rx⟩ := h2.get' i ex
      rw [List.getElem?_map, List.getElem?_map, ed'] at ed
      cases ed
      exact ⟨_, rfl, x, d', rfl, RD.mono s2 _ rx, ti d' (List.mem_of_getElem? ed'), fun H3 s3 => hq _ _ s3 (rd_str _)⟩
    · intro H2 zs s2 d2 r2
      rw [strs_inv r2] at d2
      refine ⟨"\n", D, ds.map itmS, rfl, rfl, SqL.of d2, fun z hz => ?_, by decide +kernel, by rw [List.length_map]; omega, k _ s2⟩
      obtain ⟨d, hd, rfl⟩ := List.mem_map.mp hz
      have := itm_len (ti d hd)
      omega
/-! ### a fraction -/
def spFtx (K : PySem.W.Frag) : Sp := fun vs H Q _ => ∃ v a b, vs = [v] ∧ RD K H v (.tuple [.int a, .int b]) ∧ Nm a ∧ Nm b ∧ Q (.str (fracS a b)) H
theorem two_inv {H : Hp} {v : V} {a b : Int} (h : RD K H v (.tuple [.int a, .int b])) : ∃ p, v = .ref p ∧ SqT K H p [.int a, .int b] := by
  obtain ⟨p, xs, rfl, h1, h2⟩ := h.tup_inv
  obtain ⟨x1, r, rfl, e1, h2⟩ := h2.cons_inv
  obtain ⟨x2, r, rfl, e2, h2⟩ := h2.cons_inv
  cases h2.nil_inv
  cases e1.int_inv
  cases e2.int_inv
  exact ⟨p, rfl, h1⟩
theorem slash1 : Str.length "/" = 1 := by decide +kernel
theorem frac_len {a b : Int} (ha : Nm a) (hb : Nm b) : (fracS a b).length ≤ 100 := by
  have h1 := num_len ha
  have h2 := num_len hb
  have h3 := slash1
  unfold fracS
  split
  · omega
  · simp only [strLen_append]; omega
abbrev sSFr : Stmt := top 3
theorem scSFr : FnScope ["one", "p", "q"] ["one"] (defScope sSFr) := ⟨rfl, rfl, rfl, by decide +kernel, rfl, by decide +kernel, by decide +kernel⟩
theorem ok_sfr (F : FA K mg "show_fraction" sSFr) (B : Blt mg) : FnHas P w K mg base "show_fraction" 1 (spFtx K) := by
  refine F.has scSFr (fun vs H Q E h => ?_) (fun _ _ _ _ _ _ us hl => match us, hl with | [_], _ => rfl) (fun f cdv A outer s H vs Q E hr h => ?_)
  · obtain ⟨v, a, b, rfl, _⟩ := h
    rfl
  · obtain ⟨v, a, b, rfl, rv, na, nb, k⟩ := h
    have nd := scSFr.nd
    refine ⟨_, (pss_cons (ps_asg (pv 0) (pgT K rfl (n := 2) rfl (pgs_cons (pg_name (i := 1) nd rfl (Or.inl rfl)) (pgs_cons (pg_name (i := 2) nd rfl (Or.inl rfl)) pgs_nil))))
    (pss_one (ps_ret (pe_ifExp (pt_cmpR (eqK K rfl hr.units) (pv 2) pe_int (nomark _)) (pe_callTy (x := "str") call_str1 rfl (B.at "str") PyProof.Rows.boot_str (pa_cons (pv 1) pa_nil)) (pe_js (pj_cons (pe_fv (pv 1)) (pj_cons pe_str (pj_cons (pe_fv (pv 2)) pj_nil)))))))), ?_⟩
    obtain ⟨p, rfl, h1⟩ := two_inv rv
    have l1 := num_len na
    have l2 := num_len nb
    have hs := sz
    have h0 := sp0
    have hsl := slash1
    refine ⟨_, rfl, p, _, rfl, h1, rfl, _, _, rfl, _, _, rfl, rfl, ?_⟩
    refine ⟨_, rfl, .inl ⟨_, _, rfl, rfl, _, rfl, ?_⟩⟩
    by_cases hb : b = 1
    · rw [decide_eq_true hb]
      refine iteT ⟨_, rfl, .inl ⟨a, rfl, log_of na, ?_⟩⟩
      unfold fracS at k
      rw [if_pos hb] at k
      exact k
    · rw [decide_eq_false hb]
      refine iteF ⟨_, rfl, .inl ⟨a, rfl, log_of na, _, rfl, by simp only [strLen_append]; change _ + (numS a).length ≤ _; omega, ?_⟩⟩
      refine ⟨_, rfl, by simp only [strLen_append]; change _ + (numS a).length + _ ≤ _; omega, ?_⟩
      refine ⟨_, rfl, .inl ⟨b, rfl, log_of nb, _, rfl, by simp only [strLen_append]; change _ + (numS a).length + _ + (numS b).length ≤ _; omega, ?_⟩⟩
      refine ⟨by simp only [strLen_append]; change _ + (numS a).length + _ + (numS b).length ≤ _; omega, ?_⟩
      unfold fracS at k
      rw [if_neg hb] at k
      have e : Str.empty ++ numS a ++ "/" ++ numS b = numS a ++ "/" ++ numS b := by rw [Str.empty_append]
      rw [← e] at k
      exact k
abbrev sLFr : Stmt := top 18
theorem scLFr : FnScope ["_law_one"] ["_law_one"] (defScope sLFr) := ⟨rfl, rfl, rfl, by decide +kernel, rfl, by decide +kernel, by decide +kernel⟩
theorem ok_lfr (F : FA K mg "_law_fraction_text" sLFr) (B : Blt mg) : FnHas P w K mg base "_law_fraction_text" 1 (spFtx K) := by
  refine F.has scLFr (fun vs H Q E h => ?_) (fun _ _ _ _ _ _ us hl => match us, hl with | [_], _ => rfl) (fun f cdv A outer s H vs Q E hr h => ?_)
  · obtain ⟨v, a, b, rfl, _⟩ := h
    rfl
  · obtain ⟨v, a, b, rfl, rv, na, nb, k⟩ := h
    have nd := scLFr.nd
    refine ⟨_, (pss_one (ps_ret (pe_ifExp (pt_cmpR (eqK K rfl hr.units) (pe_ix (ixK K rfl) (pv 0) pe_int (fun _ _ => rfl)) pe_int (nomark _)) (pe_callTy (x := "str") call_str1 rfl (B.at "str") PyProof.Rows.boot_str (pa_cons (pe_ix (ixK K rfl) (pv 0) pe_int (fun _ _ => rfl)) pa_nil)) (pe_op op_add_str (pe_op op_add_str (pe_callTy (x := "str") call_str1 rfl (B.at "str") PyProof.Rows.boot_str (pa_cons (pe_ix (ixK K rfl) (pv 0) pe_int (fun _ _ => rfl)) pa_nil)) pe_str) (pe_callTy (x := "str") call_str1 rfl (B.at "str") PyProof.Rows.boot_str (pa_cons (pe_ix (ixK K rfl) (pv 0) pe_int (fun _ _ => rfl)) pa_nil)))))), ?_⟩
    obtain ⟨p, rfl, h1⟩ := two_inv rv
    have l1 := num_len na
    have l2 := num_len nb
    have hs := sz
    have hsl := slash1
    refine ⟨_, rfl, .inr ⟨p, _, 1, .int b, rfl, rfl, h1, rfl, .inl ⟨_, _, rfl, rfl, _, rfl, ?_⟩⟩⟩
    by_cases hb : b = 1
    · rw [decide_eq_true hb]
      refine iteT ⟨_, rfl, .inr ⟨p, _, 0, .int a, rfl, rfl, h1, rfl, .inl ⟨a, rfl, log_of na, ?_⟩⟩⟩
      unfold fracS at k
      rw [if_pos hb] at k
      exact k
    · rw [decide_eq_false hb]
      refine iteF ⟨_, rfl, .inr ⟨p, _, 0, .int a, rfl, rfl, h1, rfl, .inl ⟨a, rfl, log_of na, ?_⟩⟩⟩
      refine ⟨_, _, rfl, rfl, by change (numS a).length + _ ≤ _; omega, ?_⟩
      refine ⟨_, rfl, .inr ⟨p, _, 1, .int b, rfl, rfl, h1, rfl, .inl ⟨b, rfl, log_of nb, ?_⟩⟩⟩
      refine ⟨_, _, rfl, rfl, by simp only [strLen_append]; change (numS a).length + _ + (numS b).length ≤ _; omega, ?_⟩
      unfold fracS at k
      rw [if_neg hb] at k
      exact k
/-! ### an item, as the law writes it -/
abbrev sLIt : Stmt := top 17
theorem scLIt : FnScope ["_law_item_here"] ["_law_item_here"] (defScope sLIt) := ⟨rfl, rfl, rfl, by decide +kernel, rfl, by decide +kernel, by decide +kernel⟩
theorem ok_lit (F : FA K mg "_law_item_text" sLIt) (B : Blt mg) : FnHas P w K mg base "_law_item_text" 1 (spItx K) := by
  refine F.has scLIt (fun vs H Q E h => ?_) (fun _ _ _ _ _ _ us hl => match us, hl with | [_], _ => rfl) (fun f cdv A outer s H vs Q E hr h => ?_)
  · obtain ⟨v, d, rfl, _⟩ := h
    rfl
  · obtain ⟨v, d, rfl, rv, ti, k⟩ := h
    have nd := scLIt.nd
    refine ⟨_, (pss_cons (ps_if (pt_cmpR (eqK K rfl hr.units) (pe_ix (ixK K rfl) (pv 0) pe_int (fun _ _ => rfl)) pe_str (nomark _))
    (pss_one (ps_ret (pe_op op_add_str (pe_op op_add_str (pe_op op_add_str pe_str (peJoinT K rfl pe_str (pa_cons (pe_comp (N := ["_law_step"]) (js := [none]) rfl rfl rfl (piT K rfl (pe_ix (ixK K rfl) (pv 0) pe_int (fun _ _ => rfl))) (fun _ _ _ _ _ => (pg_name (i := 0) (show List.Nodup (["_law_step"] : List Str) by decide +kernel) rfl (Or.inl rfl))) (fun _ _ _ _ _ => pts_nil) (fun _ _ _ _ _ => (pe_callTy (x := "str") call_str1 rfl (B.at "str") PyProof.Rows.boot_str (pa_cons (pv 0) pa_nil)))) pa_nil))) pe_str) (pe_callTy (x := "str") call_str1 rfl (B.at "str") PyProof.Rows.boot_str (pa_cons (pe_ix (ixK K rfl) (pv 0) pe_int (fun _ _ => rfl)) pa_nil)))))
    pss_nil)
    (pss_one (ps_ret (pe_op op_add_str (pe_op op_add_str (pe_ix (ixK K rfl) (pv 0) pe_int (fun _ _ => rfl)) pe_str) (pe_callTy (x := "str") call_str1 rfl (B.at "str") PyProof.Rows.boot_str (pa_cons (pe_ix (ixK K rfl) (pv 0) pe_int (fun _ _ => rfl)) pa_nil)))))), ?_⟩
    have hs := sz
    have h1' := sp1
    have h5 : Str.length "line " = 5 := by decide +kernel
    rcases ti_word rv ti with ⟨ns, sp, a, b, rfl, rfl, h1, r2, hl, hn, hsp⟩ | ⟨w, u, a, y, rfl, hw, rfl, h1, ry, hv⟩
    · refine ⟨_, rfl, .inr ⟨a, _, 0, .str "line", rfl, rfl, h1, atI_of (Int.le_refl 0) rfl, .inr ⟨_, _, rd_str _, rd_str _, lineA, lineA, _, rfl, ?_⟩⟩⟩
      rw [eqvS, decide_eq_true rfl]
      refine iteT ?_
      have h126 := nums_len hn hl
      have h41 := num_len hsp
      obtain ⟨b', xs, e', g1, g2⟩ := r2.tup_inv
      cases e'
      rw [g2.ints_inv] at g1
      refine ⟨rfl, ?_⟩
      refine ⟨_, rfl, .inr ⟨a, _, 1, .ref b, rfl, rfl, h1, atI_of (by decide) rfl, b, rfl, ⟨_, g1⟩, fun D H1 n1 => ?_⟩⟩
      refine comp_rdT (K := K) (ds := (ns.map numS).map PyData.str) _ g1 n1 (by simp) (by simp; omega) (noLs_strs _) ?_ ?_
      · intro i x d H2 Q' ex ed s2 hq
        rw [List.getElem?_map] at ex
        obtain ⟨n, en, rfl⟩ := Option.map_eq_some_iff.mp ex
        rw [List.getElem?_map, List.getElem?_map, en] at ed
        cases ed
        have hn := hn n (List.mem_of_getElem? en)
        exact ⟨_, rfl, .inl ⟨n, rfl, log_of hn, hq _ _ (Same.refl _) (rd_str _)⟩⟩
      · intro H2 zs s2 d2 r2
        rw [strs_inv r2] at d2
        refine ⟨" ", D, ns.map numS, rfl, rfl, SqL.of d2, fun z hz => ?_, by decide +kernel, by rw [List.length_map]; omega, ?_⟩
        · obtain ⟨n, hn', rfl⟩ := List.mem_map.mp hz
          have := num_len (hn n hn')
          omega
        refine ⟨_, _, rfl, rfl, by change _ + (numsS ns).length ≤ _; omega, ?_⟩
        refine ⟨_, _, rfl, rfl, by simp only [strLen_append]; change _ + (numsS ns).length + _ ≤ _; omega, ?_⟩
        refine ⟨_, rfl, .inr ⟨a, _, 2, .int sp, rfl, rfl, h1.go s2, atI_of (by decide) rfl, .inl ⟨sp, rfl, log_of hsp, ?_⟩⟩⟩
        refine ⟨_, _, rfl, rfl, by simp only [strLen_append]; change _ + (numsS ns).length + _ + (numS sp).length ≤ _; omega, ?_⟩
        have := k H2 s2
        rw [itm_line] at this
        exact this
    · refine ⟨_, rfl, .inr ⟨a, _, 0, .str w, rfl, rfl, h1, atI_of (Int.le_refl 0) rfl, .inr ⟨_, _, rd_str _, rd_str _, word_sh hw, lineA, _, rfl, ?_⟩⟩⟩
      rw [eqvS, (word_ne hw).1]
      refine iteF ?_
      have w4 := word_len hw
      have fin := k H (Same.refl _)
      refine ⟨_, rfl, .inr ⟨a, _, 0, .str w, rfl, rfl, h1, atI_of (Int.le_refl 0) rfl, ?_⟩⟩
      refine ⟨_, _, rfl, rfl, by omega, ?_⟩
      refine ⟨_, rfl, .inr ⟨a, _, 1, y, rfl, rfl, h1, atI_of (by decide) rfl, ?_⟩⟩
      rcases hv with ⟨i, rfl, rfl, hi⟩ | ⟨z, rfl, rfl, hz⟩
      · have h41 := num_len hi
        exact .inl ⟨i, rfl, log_of hi, _, _, rfl, rfl, by simp only [strLen_append]; change _ + (numS i).length ≤ _; omega, fin⟩
      · exact .inr ⟨z, rfl, _, _, rfl, rfl, by simp only [strLen_append]; omega, fin⟩
/-! ### an entry -/
def spEtx (K : PySem.W.Frag) : Sp := fun vs H Q _ => ∃ v d, vs = [v] ∧ RD K H v d ∧ TEn d ∧ ∀ H', Same H H' → Q (.str (entS d)) H'
theorem ent_itm {d : PyData} (h : TI d) (hn : ∀ ns sp, d ≠ lineD ns sp) : entS d = itmS d := by
  rcases h with ⟨ns, sp, rfl, _⟩ | ⟨w, i, rfl, _⟩ | ⟨w, z, rfl, _⟩
  · exact (hn _ _ rfl).elim
  · rfl
  · rfl
theorem ent_step (ns : List Int) (t a b : Int) : entS (.tuple [.str "step", .tuple (ns.map PyData.int), .int t, .tuple [.int a, .int b]]) = "step " ++ numsS ns ++ " " ++ numS t ++ " " ++ fracS a b := by
  show Str.ofString "step " ++ Txt.join " " ((ns.map PyData.int).map valS) ++ " " ++ numS t ++ " " ++ fracS a b = _
  rw [map_val]; rfl
theorem step_inv {H : Hp} {v : V} {ns : List Int} {t a b : Int} (h : RD K H v (.tuple [.str "step", .tuple (ns.map PyData.int), .int t, .tuple [.int a, .int b]])) : ∃ p r q, v = .ref p ∧ SqT K H p [.str "step", .ref r, .int t, .ref q] ∧ RD K H (.ref r) (.tuple (ns.map PyData.int)) ∧ SqT K H r (ns.map V.int) ∧ RD K H (.ref q) (.tuple [.int a, .int b]) := by
  obtain ⟨p, xs, rfl, h1, h2⟩ := h.tup_inv
  obtain ⟨x1, r, rfl, e1, h2⟩ := h2.cons_inv
  obtain ⟨x2, r, rfl, e2, h2⟩ := h2.cons_inv
  obtain ⟨x3, r, rfl, e3, h2⟩ := h2.cons_inv
  obtain ⟨x4, r, rfl, e4, h2⟩ := h2.cons_inv
  cases h2.nil_inv
  cases e1.str_inv
  cases e3.int_inv
  obtain ⟨r', ys, rfl, g1, g2⟩ := id e2.tup_inv
  rw [g2.ints_inv] at g1
  obtain ⟨q, rfl, _⟩ := two_inv e4
  exact ⟨p, r', q, rfl, h1, e2, g1, e4⟩
abbrev sSEn : Stmt := top 7
theorem scSEn : FnScope ["entry", "word", "row", "t", "square"] ["entry"] (defScope sSEn) := ⟨rfl, rfl, rfl, by decide +kernel, rfl, by decide +kernel, by decide +kernel⟩
theorem ok_sen (F : FA K mg "show_entry" sSEn) (B : Blt mg) (hshow_item : FnHas P w K mg base "show_item" 2 (spItx K)) (hshow_numbers : FnHas P w K mg base "show_numbers" 1 (spNums K)) (hshow_fraction : FnHas P w K mg base "show_fraction" 1 (spFtx K)) : FnHas P w K mg base "show_entry" 3 (spEtx K) := by
  refine F.has scSEn (fun vs H Q E h => ?_) (fun _ _ _ _ _ _ us hl => match us, hl with | [_], _ => rfl) (fun f cdv A outer s H vs Q E hr h => ?_)
  · obtain ⟨v, d, rfl, _⟩ := h
    rfl
  · obtain ⟨v, d, rfl, rv, te, k⟩ := h
    have nd := scSEn.nd
    refine ⟨_, (pss_cons (ps_if (pt_cmpR (neK K rfl hr.units) (pe_ix (ixK K rfl) (pv 0) pe_int (fun _ _ => rfl)) pe_str (nomark _))
    (pss_one (ps_ret (pe_fn hshow_item (hr.mono (by decide)) rfl (pa_cons (pv 0) pa_nil))))
    pss_nil)
    (pss_cons (ps_asg (pv 0) (pgT K rfl (n := 4) rfl (pgs_cons (pg_name (i := 1) nd rfl (Or.inl rfl)) (pgs_cons (pg_name (i := 2) nd rfl (Or.inl rfl)) (pgs_cons (pg_name (i := 3) nd rfl (Or.inl rfl)) (pgs_cons (pg_name (i := 4) nd rfl (Or.inl rfl)) pgs_nil))))))
    (pss_one (ps_ret (pe_js (pj_cons (pe_fv (pv 1)) (pj_cons pe_str (pj_cons (pe_fv (pe_fn hshow_numbers (hr.mono (by decide)) rfl (pa_cons (pv 2) pa_nil))) (pj_cons pe_str (pj_cons (pe_fv (pv 3)) (pj_cons pe_str (pj_cons (pe_fv (pe_fn hshow_fraction (hr.mono (by decide)) rfl (pa_cons (pv 4) pa_nil))) pj_nil)))))))))))), ?_⟩
    have hs := sz
    have h1' := sp1
    have h0 := sp0
    have h4 : Str.length "step" = 4 := by decide +kernel
    rcases te with ⟨ti, hn⟩ | ⟨ns, t, a, b, rfl, hl, hn, ht, ha, hb⟩
    · rw [ent_itm ti hn] at k
      rcases ti_word rv ti with ⟨ns, sp, a, b, rfl, _⟩ | ⟨w, u, a, y, rfl, hw, rfl, h1, ry, hv⟩
      · exact (hn _ _ rfl).elim
      · refine ⟨_, rfl, .inr ⟨a, _, 0, .str w, rfl, rfl, h1, atI_of (Int.le_refl 0) rfl, .inr ⟨_, _, rd_str _, rd_str _, word_sh hw, stepA, _, rfl, ?_⟩⟩⟩
        rw [eqvS, (word_ne hw).2]
        exact iteT ⟨_, rfl, _, _, rfl, rv, ti, k⟩
    · obtain ⟨p, r, q, rfl, h1, g2, g3, g4⟩ := step_inv rv
      refine ⟨_, rfl, .inr ⟨p, _, 0, .str "step", rfl, rfl, h1, atI_of (Int.le_refl 0) rfl, .inr ⟨_, _, rd_str _, rd_str _, stepA, stepA, _, rfl, ?_⟩⟩⟩
      rw [eqvS, decide_eq_true rfl]
      refine iteF ?_
      have h126 := nums_len hn hl
      have h41 := num_len ht
      have h100 := frac_len ha hb
      refine ⟨_, rfl, p, _, rfl, h1, rfl, _, _, rfl, _, _, rfl, _, _, rfl, _, _, rfl, rfl, ?_⟩
      refine ⟨_, rfl, .inr ⟨"step", rfl, by omega, _, rfl, by simp only [strLen_append]; omega, ?_⟩⟩
      refine ⟨_, rfl, by simp only [strLen_append]; omega, ?_⟩
      refine ⟨_, rfl, .ref r, ns, rfl, g2, hl, hn, fun H1 s1 => .inr ⟨_, rfl, by omega, _, rfl, by simp only [strLen_append]; omega, ?_⟩⟩
      refine ⟨_, rfl, by simp only [strLen_append]; omega, ?_⟩
      refine ⟨_, rfl, .inl ⟨t, rfl, log_of ht, _, rfl, by simp only [strLen_append]; change _ + (numS t).length ≤ _; omega, ?_⟩⟩
      refine ⟨_, rfl, by simp only [strLen_append]; change _ + (numS t).length + _ ≤ _; omega, ?_⟩
      refine ⟨_, rfl, .ref q, a, b, rfl, RD.mono s1 _ g4, ha, hb, .inr ⟨_, rfl, by omega, _, rfl, by simp only [strLen_append]; change _ + (numS t).length + _ + _ ≤ _; omega, ?_⟩⟩
      refine ⟨by simp only [strLen_append]; change _ + (numS t).length + _ + _ ≤ _; omega, ?_⟩
      have e : Str.empty ++ "step" ++ " " ++ numsS ns ++ " " ++ numS t ++ " " ++ fracS a b = "step " ++ numsS ns ++ " " ++ numS t ++ " " ++ fracS a b := by
        rw [Str.empty_append]
        have : (Str.ofString "step" ++ Str.ofString " ") = Str.ofString "step " := by decide +kernel
        rw [this]
      have := k H1 s1
      rw [ent_step, ← e] at this
      exact this
abbrev sLEn : Stmt := top 19
theorem scLEn : FnScope ["_law_entry_here", "_law_told"] ["_law_entry_here"] (defScope sLEn) := ⟨rfl, rfl, rfl, by decide +kernel, rfl, by decide +kernel, by decide +kernel⟩
theorem ok_len (F : FA K mg "_law_entry_text" sLEn) (B : Blt mg) (hL_item_text : FnHas P w K mg base "_law_item_text" 1 (spItx K)) (hL_fraction_text : FnHas P w K mg base "_law_fraction_text" 1 (spFtx K)) : FnHas P w K mg base "_law_entry_text" 2 (spEtx K) := by
  refine F.has scLEn (fun vs H Q E h => ?_) (fun _ _ _ _ _ _ us hl => match us, hl with | [_], _ => rfl) (fun f cdv A outer s H vs Q E hr h => ?_)
  · obtain ⟨v, d, rfl, _⟩ := h
    rfl
  · obtain ⟨v, d, rfl, rv, te, k⟩ := h
    have nd := scLEn.nd
    refine ⟨_, (pss_cons (ps_if (pt_cmpR (neK K rfl hr.units) (pe_ix (ixK K rfl) (pv 0) pe_int (fun _ _ => rfl)) pe_str (nomark _))
    (pss_one (ps_ret (pe_fn hL_item_text (hr.mono (by decide)) rfl (pa_cons (pv 0) pa_nil))))
    pss_nil)
    (pss_cons (ps_set (i := 1) nd rfl (Or.inl rfl) (peJoinT K rfl pe_str (pa_cons (pe_comp (N := ["_law_step"]) (js := [none]) rfl rfl rfl (piT K rfl (pe_ix (ixK K rfl) (pv 0) pe_int (fun _ _ => rfl))) (fun _ _ _ _ _ => (pg_name (i := 0) (show List.Nodup (["_law_step"] : List Str) by decide +kernel) rfl (Or.inl rfl))) (fun _ _ _ _ _ => pts_nil) (fun _ _ _ _ _ => (pe_callTy (x := "str") call_str1 rfl (B.at "str") PyProof.Rows.boot_str (pa_cons (pv 0) pa_nil)))) pa_nil)))
    (pss_one (ps_ret (pe_op op_add_str (pe_op op_add_str (pe_op op_add_str (pe_op op_add_str (pe_op op_add_str pe_str (pv 1)) pe_str) (pe_callTy (x := "str") call_str1 rfl (B.at "str") PyProof.Rows.boot_str (pa_cons (pe_ix (ixK K rfl) (pv 0) pe_int (fun _ _ => rfl)) pa_nil))) pe_str) (pe_fn hL_fraction_text (hr.mono (by decide)) rfl (pa_cons (pe_ix (ixK K rfl) (pv 0) pe_int (fun _ _ => rfl)) pa_nil))))))), ?_⟩
    have hs := sz
    have h1' := sp1
    have h5 : Str.length "step " = 5 := by decide +kernel
    rcases te with ⟨ti, hn⟩ | ⟨ns, t, a, b, rfl, hl, hn, ht, ha, hb⟩
    · rw [ent_itm ti hn] at k
      rcases ti_word rv ti with ⟨ns, sp, a, b, rfl, _⟩ | ⟨w, u, a, y, rfl, hw, rfl, h1, ry, hv⟩
      · exact (hn _ _ rfl).elim
      · refine ⟨_, rfl, .inr ⟨a, _, 0, .str w, rfl, rfl, h1, atI_of (Int.le_refl 0) rfl, .inr ⟨_, _, rd_str _, rd_str _, word_sh hw, stepA, _, rfl, ?_⟩⟩⟩
        rw [eqvS, (word_ne hw).2]
        exact iteT ⟨_, rfl, _, _, rfl, rv, ti, k⟩
    · obtain ⟨p, r, q, rfl, h1, g2, g3, g4⟩ := step_inv rv
      refine ⟨_, rfl, .inr ⟨p, _, 0, .str "step", rfl, rfl, h1, atI_of (Int.le_refl 0) rfl, .inr ⟨_, _, rd_str _, rd_str _, stepA, stepA, _, rfl, ?_⟩⟩⟩
      rw [eqvS, decide_eq_true rfl]
      refine iteF ?_
      have h126 := nums_len hn hl
      have h41 := num_len ht
      have h100 := frac_len ha hb
      refine ⟨rfl, ?_⟩
      refine ⟨_, rfl, .inr ⟨p, _, 1, .ref r, rfl, rfl, h1, atI_of (by decide) rfl, r, rfl, ⟨_, g3⟩, fun D H1 n1 => ?_⟩⟩
      refine comp_rdT (K := K) (ds := (ns.map numS).map PyData.str) _ g3 n1 (by simp) (by simp; omega) (noLs_strs _) ?_ ?_
      · intro i x d H2 Q' ex ed s2 hq
        rw [List.getElem?_map] at ex
        obtain ⟨n, en, rfl⟩ := Option.map_eq_some_iff.mp ex
        rw [List.getElem?_map, List.getElem?_map, en] at ed
        cases ed
        have hn := hn n (List.mem_of_getElem? en)
        exact ⟨_, rfl, .inl ⟨n, rfl, log_of hn, hq _ _ (Same.refl _) (rd_str _)⟩⟩
      · intro H2 zs s2 d2 r2
        rw [strs_inv r2] at d2
        refine ⟨" ", D, ns.map numS, rfl, rfl, SqL.of d2, fun z hz => ?_, by decide +kernel, by rw [List.length_map]; omega, ?_⟩
        · obtain ⟨n, hn', rfl⟩ := List.mem_map.mp hz
          have := num_len (hn n hn')
          omega
        have h12 := h1.go s2
        refine ⟨_, rfl, ?_⟩
        refine ⟨_, _, rfl, rfl, by change _ + (numsS ns).length ≤ _; omega, ?_⟩
        refine ⟨_, _, rfl, rfl, by simp only [strLen_append]; change _ + (numsS ns).length + _ ≤ _; omega, ?_⟩
        refine ⟨_, rfl, .inr ⟨p, _, 2, .int t, rfl, rfl, h12, atI_of (by decide) rfl, .inl ⟨t, rfl, log_of ht, ?_⟩⟩⟩
        refine ⟨_, _, rfl, rfl, by simp only [strLen_append]; change _ + (numsS ns).length + _ + (numS t).length ≤ _; omega, ?_⟩
        refine ⟨_, _, rfl, rfl, by simp only [strLen_append]; change _ + (numsS ns).length + _ + (numS t).length + _ ≤ _; omega, ?_⟩
        refine ⟨_, rfl, .inr ⟨p, _, 3, .ref q, rfl, rfl, h12, atI_of (by decide) rfl, .ref q, a, b, rfl, RD.mono s2 _ g4, ha, hb, ?_⟩⟩
        refine ⟨_, _, rfl, rfl, by simp only [strLen_append]; change _ + (numsS ns).length + _ + (numS t).length + _ + _ ≤ _; omega, ?_⟩
        have := k H2 s2
        rw [ent_step] at this
        exact this
end
end Lw



set_option Elab.async false
set_option linter.all false
set_option maxRecDepth 100000
set_option maxHeartbeats 4000000
set_option exponentiation.threshold 6000
namespace Lw
open PySem PySem.Spec PyProof.Rows L2 Ln Wk
section
variable {P : Program} {w : World} {K : PySem.W.Frag} {mg : Str → Option Value} {base : Heap}
theorem str_list : ∀ (ds : List PyData), (∀ d ∈ ds, ∃ z : Str, d = .str z ∧ z.length = 1) → ∃ zs : List Str, ds = zs.map PyData.str ∧ ∀ z ∈ zs, z.length = 1
  | [], _ => ⟨[], rfl, fun _ h => nomatch h⟩
  | d :: ds, h => by
    obtain ⟨z, rfl, e⟩ := h d (.head _)
    obtain ⟨zs, rfl, q⟩ := str_list ds fun x hx => h x (.tail _ hx)
    exact ⟨z :: zs, rfl, fun y hy => by
      rcases List.mem_cons.mp hy with rfl | hy
      · exact e
      · exact q y hy⟩
def abc : Str := "abcdefghijklmnopqrstuvwxyz"
theorem abc_len : abc.cps.toList.length = 26 := by decide +kernel
def spName (K : PySem.W.Frag) : Sp := fun vs H Q _ => ∃ p, vs = [.ref p] ∧ IsBag H p ∧ ∀ z H', z.length ≤ 8 → BagX p H H' → Q (.str z) H'
abbrev sName : Stmt := top 15
theorem scName : FnScope ["_law_bag_here"] ["_law_bag_here"] (defScope sName) := ⟨rfl, rfl, rfl, by decide +kernel, rfl, by decide +kernel, by decide +kernel⟩
theorem ok_name (F : FA K mg "_law_name" sName) (B : Blt mg) (hL_take : FnHas P w K mg base "_law_take" 1 spTake) : FnHas P w K mg base "_law_name" 2 (spName K) := by
  refine F.has scName (fun vs H Q E h => ?_) (fun _ _ _ _ _ _ us hl => match us, hl with | [_], _ => rfl) (fun f cdv A outer s H vs Q E hr h => ?_)
  · obtain ⟨p, rfl, _⟩ := h
    rfl
  · obtain ⟨p, rfl, bg, k⟩ := h
    have nd := scName.nd
    refine ⟨_, (pss_one (ps_ret (peJoinT K rfl pe_str (pa_cons (pe_comp (N := ["_law_k", "_law_bag_here"]) (js := [none, some 0]) rfl rfl rfl (pi_range1 rfl (B.at "range") (pa_cons (pe_op op_add pe_int (pe_fn hL_take (hr.mono (by decide)) rfl (pa_cons (pv 0) (pa_cons pe_int pa_nil)))) pa_nil)) (fun _ _ _ _ _ => (pg_name (i := 0) (show List.Nodup (["_law_k", "_law_bag_here"] : List Str) by decide +kernel) rfl (Or.inl rfl))) (fun _ _ _ _ _ => pts_nil) (fun _ _ _ _ _ => (pe_ix ix_str pe_str (pe_fn hL_take (hr.mono (by decide)) rfl (pa_cons (pv 1) (pa_cons pe_int pa_nil))) (fun _ _ => rfl)))) pa_nil)))), ?_⟩
    refine ⟨rfl, ?_⟩
    refine ⟨_, rfl, p, 8, rfl, bg, by decide, by decide, fun n H1 n0 n1 b1 => ?_⟩
    refine ⟨_, _, rfl, rfl, _, rfl, by omega, by omega, fun D H2 nD => ?_⟩
    refine comp_rdB (K := K) (J := Itr 0 (1 + n).toNat) (p := p) (H := H1) (1 + n).toNat _ nD b1.bag (by omega) (fun i => .int (0 + (i : Int))) (fun i H3 hi _ => ⟨hi, fun y H4 ⟨e, q⟩ => ⟨e, q⟩⟩) (fun H3 _ => Nat.le_refl _) (fun _ d => ∃ z : Str, d = .str z ∧ z.length = 1) ?_ ?_
    · intro i H3 Q' hi b3 hq
      refine ⟨_, rfl, p, 26, rfl, b3.bag, by decide, by decide, fun d H4 d0 d1 b4 => ?_⟩
      have hd : d.toNat < abc.cps.toList.length := by rw [abc_len]; omega
      refine ⟨abc, d, abc.cps.toList[d.toNat], rfl, rfl, by decide +kernel, atI_of d0 (List.getElem?_eq_getElem hd), ?_⟩
      exact hq _ _ _ ⟨_, rfl, rfl⟩ rfl (rd_str _) b4
    · intro H3 ys ds b3 d3 r3 l3 nl pd
      obtain ⟨zs, rfl, hz⟩ := str_list ds fun d hd => by
        obtain ⟨i, hi⟩ := List.mem_iff_getElem?.mp hd
        exact pd i d hi
      rw [strs_inv r3] at d3
      rw [List.length_map] at l3
      refine ⟨"", D, zs, rfl, rfl, SqL.of d3, fun z hz' => by rw [hz z hz']; decide, by decide, by omega, ?_⟩
      refine k _ _ ?_ (b1.trans b3)
      have := join_len "" (B := 1) zs (fun z hz' => by rw [hz z hz']; exact Nat.le_refl _)
      rw [show Str.length "" = 0 by decide +kernel] at this
      omega
/-! ### _law_item -/
def spItem (K : PySem.W.Frag) : Sp := fun vs H Q _ => ∃ (p : Addr) (ax : Nat), vs = [.ref p, .int ax] ∧ IsBag H p ∧ 1 ≤ ax ∧ ax ≤ 3 ∧ ∀ v d H', RD K H' v d → TI d → BagX p H H' → Q v H'
abbrev sItem : Stmt := top 16
theorem scItem : FnScope ["_law_bag_here", "_law_axes", "_law_sort", "_law_speed", "_law_most", "_law_steps"] ["_law_bag_here", "_law_axes"] (defScope sItem) := ⟨rfl, rfl, rfl, by decide +kernel, rfl, by decide +kernel, by decide +kernel⟩
theorem ok_item (F : FA K mg "_law_item" sItem) (B : Blt mg) (hL_take : FnHas P w K mg base "_law_take" 1 spTake) (hL_name : FnHas P w K mg base "_law_name" 2 (spName K)) : FnHas P w K mg base "_law_item" 3 (spItem K) := by
  refine F.has scItem (fun vs H Q E h => ?_) (fun _ _ _ _ _ _ us hl => match us, hl with | [_, _], _ => rfl) (fun f cdv A outer s H vs Q E hr h => ?_)
  · obtain ⟨p, ax, rfl, _⟩ := h
    rfl
  · obtain ⟨p, ax, rfl, bg, ax1, ax2, k⟩ := h
    have nd := scItem.nd
    refine ⟨_, (pss_cons (ps_set (i := 2) nd rfl (Or.inl rfl) (pe_fn hL_take (hr.mono (by decide)) rfl (pa_cons (pv 0) (pa_cons pe_int pa_nil))))
    (pss_cons (ps_if (pt_cmpR (eqK K rfl hr.units) (pv 2) pe_int (nomark _))
    (pss_one (ps_ret (pe_tupA (pa_cons pe_str (pa_cons (pe_op op_add pe_int (pe_fn hL_take (hr.mono (by decide)) rfl (pa_cons (pv 0) (pa_cons pe_int pa_nil)))) pa_nil)))))
    pss_nil)
    (pss_cons (ps_if (pt_cmpR (eqK K rfl hr.units) (pv 2) pe_int (nomark _))
    (pss_one (ps_ret (pe_tupA (pa_cons pe_str (pa_cons (pe_ix (ixK K rfl) (pe_lstA (pa_cons pe_str (pa_cons pe_str pa_nil))) (pe_fn hL_take (hr.mono (by decide)) rfl (pa_cons (pv 0) (pa_cons pe_int pa_nil))) (fun _ _ => rfl)) pa_nil)))))
    pss_nil)
    (pss_cons (ps_if (pt_cmpR (eqK K rfl hr.units) (pv 2) pe_int (nomark _))
    (pss_one (ps_ret (pe_tupA (pa_cons pe_str (pa_cons (pe_fn hL_name (hr.mono (by decide)) rfl (pa_cons (pv 0) pa_nil)) pa_nil)))))
    pss_nil)
    (pss_cons (ps_set (i := 3) nd rfl (Or.inl rfl) (pe_op op_add pe_int (pe_fn hL_take (hr.mono (by decide)) rfl (pa_cons (pv 0) (pa_cons pe_int pa_nil)))))
    (pss_cons (ps_set (i := 4) nd rfl (Or.inr rfl) (pe_ix (ixK K rfl) (pe_lstA (pa_cons pe_int (pa_cons pe_int (pa_cons pe_int pa_nil)))) (pe_fn hL_take (hr.mono (by decide)) rfl (pa_cons (pv 0) (pa_cons pe_int pa_nil))) (fun _ _ => rfl)))
    (pss_cons (ps_setC (i0 := 5) nd rfl (Or.inl rfl) (N := ["_law_axis", "_law_most", "_law_bag_here"]) (js := [none, some 4, some 0]) rfl rfl rfl (pi_range1 rfl (B.at "range") (pa_cons (pv 1) pa_nil)) (fun _ _ _ _ _ => (pg_name (i := 0) (show List.Nodup (["_law_axis", "_law_most", "_law_bag_here"] : List Str) by decide +kernel) rfl (Or.inl rfl))) (fun _ _ _ _ _ => pts_nil) (fun _ _ _ _ _ => (pe_op op_sub (pe_fn hL_take (hr.mono (by decide)) rfl (pa_cons (pv 2) (pa_cons (pe_op op_add (pe_op op_mulG pe_int (pv 1)) pe_int) pa_nil))) (pv 1))))
    (pss_cons (ps_mid (ps_if (pt_not (pt_val (pe_callB (x := "any") (anyIK K rfl rfl) rfl (B.at "any") PyProof.Rows.boot_any (pa_cons (pv 5) pa_nil))))
    (pss_one (ps_asg pe_int (pg_sub (pv 5) (pe_fn hL_take (hr.mono (by decide)) rfl (pa_cons (pv 0) (pa_cons (pv 1) pa_nil))) set_list)))
    pss_nil))
    (pss_one (ps_ret (pe_tupA (pa_cons pe_str (pa_cons (pe_callTy (x := "tuple") (tupleK K rfl) rfl (B.at "tuple") PyProof.Rows.boot_tuple (pa_cons (pv 5) pa_nil)) (pa_cons (pv 3) pa_nil)))))))))))))), ?_⟩
    refine ⟨_, rfl, p, 6, rfl, bg, by decide, by decide, fun so H1 s0 s1 b1 => ?_⟩
    refine ⟨_, rfl, .inl ⟨_, _, rfl, rfl, _, rfl, ?_⟩⟩
    refine ite2 (fun hc => ?_) (fun hc => ?_)
    · refine ⟨_, rfl, p, 1000, rfl, b1.bag, by decide, by decide, fun n H2 n0 n1 b2 => ?_⟩
      refine ⟨_, _, rfl, rfl, smallN _ (Nat.le_of_ble_eq_true rfl), fun t H3 n3 => ?_⟩
      exact k (.ref t) _ H3 (rd_tup (SqT.of n3.at') (rds_cons (rd_str _) (rds_cons (rd_int _) rds_nil))) (.inr (.inl ⟨_, _, rfl, .inl rfl, by unfold Nm; omega⟩)) (b1.trans (b2.trans (.ofSame b2.bag n3.same)))
    refine ⟨_, rfl, .inl ⟨_, _, rfl, rfl, _, rfl, ?_⟩⟩
    refine ite2 (fun hc => ?_) (fun hc => ?_)
    · refine ⟨smallN _ (Nat.le_of_ble_eq_true rfl), fun c H2 n2 => ?_⟩
      have b2 : BagX p H1 H2 := .ofSame b1.bag n2.same
      have cp : c ≠ p := fun z => b1.bag.ne (z ▸ n2.no)
      refine ⟨_, rfl, p, 2, rfl, b2.bag, by decide, by decide, fun i H3 i0 i1 b3 => ?_⟩
      have hi : ∃ z : Str, atI ([.str "up", .str "down"] : List V) i = some (.str z) ∧ z.length ≤ 100 := by
        rcases (show i = 0 ∨ i = 1 by omega) with rfl | rfl
        · exact ⟨"up", rfl, by decide +kernel⟩
        · exact ⟨"down", rfl, by decide +kernel⟩
      obtain ⟨z, ez, lz⟩ := hi
      refine .inl ⟨c, _, _, _, rfl, rfl, SqL.of (b3.same _ _ cp n2.at'), ez, smallN _ (Nat.le_of_ble_eq_true rfl), fun t H4 n4 => ?_⟩
      exact k (.ref t) _ H4 (rd_tup (SqT.of n4.at') (rds_cons (rd_str _) (rds_cons (rd_str _) rds_nil))) (.inr (.inr ⟨_, _, rfl, .inr (.inl rfl), lz⟩)) (b1.trans (b2.trans (b3.trans (.ofSame b3.bag n4.same))))
    refine ⟨_, rfl, .inl ⟨_, _, rfl, rfl, _, rfl, ?_⟩⟩
    refine ite2 (fun hc => ?_) (fun hc => ?_)
    · refine ⟨_, rfl, p, rfl, b1.bag, fun z H2 lz b2 => ⟨smallN _ (Nat.le_of_ble_eq_true rfl), fun t H3 n3 => ?_⟩⟩
      exact k (.ref t) _ H3 (rd_tup (SqT.of n3.at') (rds_cons (rd_str _) (rds_cons (rd_str _) rds_nil))) (.inr (.inr ⟨_, _, rfl, .inr (.inr rfl), by omega⟩)) (b1.trans (b2.trans (.ofSame b2.bag n3.same)))
    refine ⟨_, rfl, p, 20, rfl, b1.bag, by decide, by decide, fun sp H2 p0 p1 b2 => ?_⟩
    refine ⟨_, _, rfl, rfl, ?_⟩
    refine ⟨smallN _ (Nat.le_of_ble_eq_true rfl), fun c H3 n3 => ?_⟩
    have b3 : BagX p H2 H3 := .ofSame b2.bag n3.same
    have cp : c ≠ p := fun z => b2.bag.ne (z ▸ n3.no)
    refine ⟨_, rfl, p, 3, rfl, b3.bag, by decide, by decide, fun i H4 i0 i1 b4 => ?_⟩
    have hm : ∃ m : Int, atI ([.int 3, .int 20, .int 100] : List V) i = some (.int m) ∧ 1 ≤ m ∧ m ≤ 100 := by
      rcases (show i = 0 ∨ i = 1 ∨ i = 2 by omega) with rfl | rfl | rfl
      · exact ⟨3, rfl, by decide, by decide⟩
      · exact ⟨20, rfl, by decide, by decide⟩
      · exact ⟨100, rfl, by decide, by decide⟩
    obtain ⟨m, em, m1, m2⟩ := hm
    refine .inl ⟨c, _, _, _, rfl, rfl, SqL.of (b4.same _ _ cp n3.at'), em, ?_⟩
    have b14 := b1.trans (b2.trans (b3.trans b4))
    refine ⟨_, rfl, _, rfl, by omega, by omega, fun D H5 nD => ?_⟩
    refine comp_bag (J := Itr 0 ax) (p := p) (H := H4) ax _ nD b14.bag (by omega) (fun i => .int (0 + (i : Int))) (fun i H3 hi _ => ⟨hi, fun y H4 ⟨e, q⟩ => ⟨e, q⟩⟩) (fun H3 _ => Nat.le_refl _) (fun z => (z.natAbs : Int) ≤ m) ?_ ?_
    · intro i H6 Q' hi b6 hq
      refine ⟨_, rfl, _, rfl, _, _, rfl, rfl, .of_left (intBits_le_64 (by decide) (by decide)), _, _, rfl, rfl, p, 2 * m + 1, rfl, b6.bag, by omega, by omega, fun d H7 d0 d1 b7 => ?_⟩
      exact ⟨_, rfl, _, _, rfl, rfl, hq _ _ (by omega) b7⟩
    intro H6 is b6 d6 l6 bd6
    have b16 := b14.trans b6
    have lp : D ≠ p := fun z => b14.bag.ne (z ▸ nD.no)
    have nl : H D = none := by
      cases e : H D with
      | none => rfl
      | some o => have := b14.same _ _ lp e; rw [nD.no] at this; cases this
    refine ⟨fun σ H7 => BagX p H H7 ∧ ∃ (is : List Int), H7 D = some (.lst (is.map V.int)) ∧ OkL ax 100 is ∧ σ = [some (.ref p), some (.int ax), some (.int so), some (.int (1 + sp)), some (.int m), some (.ref D)], ?_, ?_⟩
    · refine ⟨_, rfl, D, is, rfl, .inl (SqL.of d6), _, rfl, ?_⟩
      cases ha : is.any (· != 0) with
      | false =>
        refine iteT ?_
        refine ⟨_, rfl, _, rfl, _, rfl, p, (ax : Int), rfl, b16.bag, by omega, by omega, fun ix H7 i0 i1 b7 => ?_⟩
        have d7 := b7.same _ _ lp d6
        refine ⟨D, _, ix, ix.toNat, rfl, rfl, d7, ?_, ?_⟩
        · unfold ixN; rw [if_pos i0, if_pos (by rw [List.length_map, l6]; exact i1)]
        refine ⟨?_, is.set ix.toNat 1, ?_, ⟨?_, ?_, ?_⟩, rfl⟩
        · have b17 := b16.trans b7
          refine ⟨?_, fun b o n e => ?_⟩
          · obtain ⟨c', m', e, ok⟩ := b17.bag
            exact ⟨c', m', by rw [upd_ne lp.symm]; exact e, ok⟩
          · rw [upd_ne (ne_of_none e nl)]; exact b17.same b o n e
        · rw [upd_same, List.map_set]
        · rw [List.length_set]; exact l6
        · intro z hz
          rcases List.mem_or_eq_of_mem_set hz with h | h
          · have := bd6 z h; omega
          · rw [h]; decide
        · exact ⟨1, List.mem_iff_getElem.mpr ⟨ix.toNat, by rw [List.length_set]; omega, by rw [List.getElem_set_self]⟩, by decide⟩
      | true =>
        refine iteF ?_
        refine ⟨b16, is, d6, ⟨l6, fun z hz => by have := bd6 z hz; omega, ?_⟩, rfl⟩
        obtain ⟨z, hz, h0⟩ := List.any_eq_true.mp ha
        exact ⟨z, hz, by simpa using h0⟩
    rintro σ H7 ⟨b7, is, d7, ok, rfl⟩
    refine ⟨_, rfl, D, _, rfl, .inl ⟨SqL.of d7, fun q H8 n8 => ?_⟩⟩
    refine ⟨_, rfl, smallN _ (Nat.le_of_ble_eq_true rfl), fun t H9 n9 => ?_⟩
    refine k (.ref t) (lineD is (1 + sp)) H9 (rd_tup (SqT.of n9.at') (rds_cons (rd_str _) (rds_cons (rd_tup (SqT.of (n9.same _ _ n8.at')) (rds_ints is)) (rds_cons (rd_int _) rds_nil)))) (.inl ⟨is, _, rfl, by rw [ok.len]; omega, fun n hn => by unfold Nm; have := ok.bd n hn; omega, by unfold Nm; omega⟩) (b7.trans (.ofSame b7.bag (n8.same.trans n9.same)))
end
end Lw



set_option Elab.async false
set_option linter.all false
set_option maxRecDepth 100000
set_option maxHeartbeats 4000000
set_option exponentiation.threshold 6000
namespace Lw
open PySem PySem.Spec PyProof.Rows L2 Ln Wk
section
variable {P : Program} {w : World} {K : PySem.W.Frag} {mg : Str → Option Value} {base : Heap}
theorem ten_no {d : PyData} (h : TEn d) : noL d = true := by
  rcases h with ⟨ti, _⟩ | ⟨ns, t, a, b, rfl, _⟩
  · rcases ti with ⟨ns, sp, rfl, _⟩ | ⟨w, i, rfl, _⟩ | ⟨w, z, rfl, _⟩
    · exact lineD_no _ _
    · rfl
    · rfl
  · simp [noL, noLs, noLs_ints]
theorem gate {b : Bool} {A B : Prop} (hB : B) (h : b = true → B → A) : if b = true then A else B := by
  cases b
  · exact hB
  · exact h rfl hB
theorem ti_no {d : PyData} (ti : TI d) : noL d = true := by
  rcases ti with ⟨ns, sp, rfl, _⟩ | ⟨w, i, rfl, _⟩ | ⟨w, z, rfl, _⟩
  · exact lineD_no _ _
  · rfl
  · rfl
def spEnr (K : PySem.W.Frag) : Sp := fun vs H Q _ => ∃ (p : Addr) (ax : Nat), vs = [.ref p, .int ax] ∧ IsBag H p ∧ 1 ≤ ax ∧ ax ≤ 3 ∧ ∀ v d H', RD K H' v d → TEn d → BagX p H H' → Q v H'
abbrev sEnr : Stmt := top 20
theorem scEnr : FnScope ["_law_bag_here", "_law_axes", "_law_how", "_law_item_here", "_law_row", "_law_square"] ["_law_bag_here", "_law_axes"] (defScope sEnr) := ⟨rfl, rfl, rfl, by decide +kernel, rfl, by decide +kernel, by decide +kernel⟩
theorem ok_enr (F : FA K mg "_law_entry" sEnr) (B : Blt mg) (hL_take : FnHas P w K mg base "_law_take" 1 spTake) (hL_item : FnHas P w K mg base "_law_item" 3 (spItem K)) (hL_fraction : FnHas P w K mg base "_law_fraction" 3 spFrac) : FnHas P w K mg base "_law_entry" 4 (spEnr K) := by
  refine F.has scEnr (fun vs H Q E h => ?_) (fun _ _ _ _ _ _ us hl => match us, hl with | [_, _], _ => rfl) (fun f cdv A outer s H vs Q E hr h => ?_)
  · obtain ⟨p, ax, rfl, _⟩ := h
    rfl
  · obtain ⟨p, ax, rfl, bg, ax1, ax2, k⟩ := h
    have nd := scEnr.nd
    refine ⟨_, (pss_cons (ps_set (i := 2) nd rfl (Or.inl rfl) (pe_fn hL_take (hr.mono (by decide)) rfl (pa_cons (pv 0) (pa_cons pe_int pa_nil))))
    (pss_cons (ps_set (i := 3) nd rfl (Or.inl rfl) (pe_fn hL_item (hr.mono (by decide)) rfl (pa_cons (pv 0) (pa_cons (pv 1) pa_nil))))
    (pss_cons (ps_if (PW.pt (pw_and (pt_cmpR (eqK K rfl hr.units) (pv 2) pe_int (nomark _)) (pw_and1 (pt_cmpR (neK K rfl hr.units) (pe_ix (ixK K rfl) (pv 3) pe_int (fun _ _ => rfl)) pe_str (nomark _)))))
    (pss_one (ps_ret (pv 3)))
    pss_nil)
    (pss_cons (ps_set (i := 4) nd rfl (Or.inl rfl) (pe_callTy (x := "tuple") (tupleK K rfl) rfl (B.at "tuple") PyProof.Rows.boot_tuple (pa_cons (pe_comp (N := ["_law_axis", "_law_bag_here"]) (js := [none, some 0]) rfl rfl rfl (pi_range1 rfl (B.at "range") (pa_cons (pv 1) pa_nil)) (fun _ _ _ _ _ => (pg_name (i := 0) (show List.Nodup (["_law_axis", "_law_bag_here"] : List Str) by decide +kernel) rfl (Or.inl rfl))) (fun _ _ _ _ _ => pts_nil) (fun _ _ _ _ _ => (pe_op op_sub (pe_fn hL_take (hr.mono (by decide)) rfl (pa_cons (pv 1) (pa_cons pe_int pa_nil))) pe_int))) pa_nil)))
    (pss_cons (ps_set (i := 5) nd rfl (Or.inl rfl) (pe_fn hL_fraction (hr.mono (by decide)) rfl (pa_cons (pv 0) pa_nil)))
    (pss_one (ps_ret (pe_tupA (pa_cons pe_str (pa_cons (pv 4) (pa_cons (pe_op op_add pe_int (pe_fn hL_take (hr.mono (by decide)) rfl (pa_cons (pv 0) (pa_cons pe_int pa_nil)))) (pa_cons (pe_tupA (pa_cons (pe_callB (x := "max") (call_max2 rfl) rfl (B.at "max") PyProof.Rows.boot_max (pa_cons pe_int (pa_cons (pe_callB (x := "abs") call_abs rfl (B.at "abs") PyProof.Rows.boot_abs (pa_cons (pe_ix (ixK K rfl) (pv 5) pe_int (fun _ _ => rfl)) pa_nil)) pa_nil))) (pa_cons (pe_ifExp (pt_cmpR (neK K rfl hr.units) (pe_ix (ixK K rfl) (pv 5) pe_int (fun _ _ => rfl)) pe_int (nomark _)) (pe_ix (ixK K rfl) (pv 5) pe_int (fun _ _ => rfl)) pe_int) pa_nil))) pa_nil)))))))))))), ?_⟩
    refine ⟨_, rfl, p, 4, rfl, bg, by decide, by decide, fun hw H1 h0 h1 b1 => ?_⟩
    refine ⟨_, rfl, _, rfl, p, ax, rfl, b1.bag, ax1, ax2, fun v d H2 rv ti b2 => ?_⟩
    have b12 := b1.trans b2
    refine ⟨_, rfl, .inl ⟨_, _, rfl, rfl, _, rfl, ?_⟩⟩
    refine gate ?rest (fun c hB => ?t)
    case t =>
      rcases ti_word rv ti with ⟨ns, sp, a, b, rfl, rfl, g1, _⟩ | ⟨w, u, a, y, rfl, hw', rfl, g1, ry, hv⟩
      · refine ⟨_, rfl, .inr ⟨a, _, 0, .str "line", rfl, rfl, g1, atI_of (Int.le_refl 0) rfl, .inr ⟨_, _, rd_str _, rd_str _, lineA, lineA, _, rfl, ?_⟩⟩⟩
        rw [eqvS, decide_eq_true rfl]
        exact iteF hB
      · refine ⟨_, rfl, .inr ⟨a, _, 0, .str w, rfl, rfl, g1, atI_of (Int.le_refl 0) rfl, .inr ⟨_, _, rd_str _, rd_str _, word_sh hw', lineA, _, rfl, ?_⟩⟩⟩
        rw [eqvS, (word_ne hw').1]
        exact iteT ⟨_, rfl, k _ _ _ rv (.inl ⟨ti, fun ns sp e => ti_not hw' ⟨ns, sp, e⟩⟩) b12⟩
    refine ⟨_, rfl, _, rfl, by omega, by omega, fun D H3 nD => ?_⟩
    refine comp_bag (J := Itr 0 ax) (p := p) (H := H2) ax _ nD b12.bag (by omega) (fun i => .int (0 + (i : Int))) (fun i H3 hi _ => ⟨hi, fun y H4 ⟨e, q⟩ => ⟨e, q⟩⟩) (fun H3 _ => Nat.le_refl _) (fun z => (z.natAbs : Int) ≤ 1) ?_ ?_
    · intro i H6 Q' hi b6 hq
      refine ⟨_, rfl, p, 3, rfl, b6.bag, by decide, by decide, fun d H7 d0 d1 b7 => ?_⟩
      exact ⟨_, _, rfl, rfl, hq _ _ (by omega) b7⟩
    intro H4 is b4 d4 l4 bd4
    refine ⟨D, _, rfl, .inl ⟨SqL.of d4, fun t H5 n5 => ?_⟩⟩
    have b5 : BagX p H4 H5 := .ofSame b4.bag n5.same
    refine ⟨_, rfl, p, rfl, b5.bag, fun sv a b H6 fr ⟨q, e1, e2⟩ b6 => ?_⟩
    subst e1
    have tp : t ≠ p := fun e => b4.bag.ne (e ▸ n5.no)
    have ht6 := b6.same _ _ tp n5.at'
    refine ⟨_, rfl, _, rfl, p, 1000, rfl, b6.bag, by decide, by decide, fun tk H7 t0 t1 b7 => ?_⟩
    have qp : q ≠ p := fun e => by
      obtain ⟨c, m, eb, _⟩ := b6.bag
      rw [e, eb] at e2; cases e2
    have hq7 := b7.same _ _ qp e2
    have ht7 := b7.same _ _ tp ht6
    refine ⟨_, _, rfl, rfl, ?_⟩
    have hsq : SqT K H7 q [.int a, .int b] := SqT.of hq7
    have hmx : Nm (if (if a < 0 then -a else a) > 1 then (if a < 0 then -a else a) else 1) := by
      have := fr.na
      unfold Nm
      split <;> (try split) <;> omega
    have nb : Nm b := by
      have := fr.nb
      have := fr.pos
      unfold Nm
      omega
    have fin : ∀ (m c : Int) (t2 t3 : Addr) (H8 H9 : Hp), Nm m → Nm c → Nw H7 H8 t2 (.tup [.int m, .int c]) → Nw H8 H9 t3 (.tup [.str "step", .ref t, .int (1 + tk), .ref t2]) → Q (.ref t3) H9 := fun m c t2 t3 H8 H9 hm hc n8 n9 => by
      refine k (.ref t3) (.tuple [.str "step", .tuple (is.map PyData.int), .int (1 + tk), .tuple [.int m, .int c]]) H9 (rd_tup (SqT.of n9.at') (rds_cons (rd_str _) (rds_cons (rd_tup (SqT.of (n9.same _ _ (n8.same _ _ ht7))) (rds_ints is)) (rds_cons (rd_int _) (rds_cons (rd_tup (SqT.of (n9.same _ _ n8.at')) (rds_cons (rd_int _) (rds_cons (rd_int _) rds_nil))) rds_nil))))) (.inr ⟨is, _, m, c, rfl, by omega, fun n hn => by unfold Nm; have := bd4 n hn; omega, by unfold Nm; omega, hm, hc⟩) ?_
      exact b12.trans (b4.trans (b5.trans (b6.trans (b7.trans (.ofSame b7.bag (n8.same.trans n9.same))))))
    refine ⟨_, rfl, .inr ⟨q, _, 0, .int a, rfl, rfl, hsq, rfl, a, rfl, 1, _, rfl, ?_⟩⟩
    refine ⟨_, rfl, .inr ⟨q, _, 0, .int a, rfl, rfl, hsq, rfl, .inl ⟨_, _, rfl, rfl, _, rfl, ?_⟩⟩⟩
    by_cases c : a = 0
    · rw [decide_eq_true c]
      refine iteF ?_
      refine ⟨smallN _ (Nat.le_of_ble_eq_true rfl), fun t2 H8 n8 => ⟨smallN _ (Nat.le_of_ble_eq_true rfl), fun t3 H9 n9 => ?_⟩⟩
      exact fin _ _ t2 t3 H8 H9 hmx (by unfold Nm; decide) n8 n9
    · rw [decide_eq_false c]
      refine iteT ?_
      refine ⟨_, rfl, .inr ⟨q, _, 1, .int b, rfl, rfl, hsq, rfl, ?_⟩⟩
      refine ⟨smallN _ (Nat.le_of_ble_eq_true rfl), fun t2 H8 n8 => ⟨smallN _ (Nat.le_of_ble_eq_true rfl), fun t3 H9 n9 => ?_⟩⟩
      exact fin _ _ t2 t3 H8 H9 hmx nb n8 n9
/-! ### the law -/
def spRi : Sp := fun vs H Q _ => ∃ z : Str, vs = [.str z, .str z] ∧ Q (.bl true) H
theorem tyS : tyIs "str" "str" = true := by decide
abbrev sRgt : Stmt := top 21
theorem scRgt : FnScope ["_law_told", "_law_due"] ["_law_told", "_law_due"] (defScope sRgt) := ⟨rfl, rfl, rfl, by decide +kernel, rfl, by decide +kernel, by decide +kernel⟩
theorem ok_rgt (F : FA K mg "_law_right" sRgt) (B : Blt mg) : FnHas P w K mg base "_law_right" 1 spRi := by
  refine F.has scRgt (fun vs H Q E h => ?_) (fun _ _ _ _ _ _ us hl => match us, hl with | [_, _], _ => rfl) (fun f cdv A outer s H vs Q E hr h => ?_)
  · obtain ⟨z, rfl, _⟩ := h
    rfl
  · obtain ⟨z, rfl, k⟩ := h
    have nd := scRgt.nd
    refine ⟨_, (pss_one (ps_ret (pe_and (pe_callB (x := "isinstance") (isiK K rfl) rfl (B.at "isinstance") PyProof.Rows.boot_isinstance (pa_cons (pv 0) (pa_cons (pe_bltn (x := "str") (v := .ty "str") rfl (B.at "str") PyProof.Rows.boot_str rfl) pa_nil))) (pe_one (pe_cmpR op_eq (pv 0) (pv 1) (nomark _)))))), ?_⟩
    refine ⟨_, rfl, .inl ⟨_, _, "str", true, rfl, (rd_str (K := K) (H := H) z).ty, by decide, tyS, _, rfl, iteT ?_⟩⟩
    refine ⟨_, rfl, _, rfl, rfl, ?_⟩
    rw [decide_eq_true rfl]
    exact k
def spLaw (K : PySem.W.Frag) : Sp := fun vs H Q _ => ∃ (a : Addr) (ns : List Int), vs = [.ref a] ∧ SqL K H a (ns.map V.int) ∧ ns.length ≤ 63 ∧ ∀ H', Q (.bl true) H'
abbrev sLaw : Stmt := top 22
theorem scLaw : FnScope ["_law_script", "_law_at", "_law_bag_here", "_law_axes", "_law_items", "_law_entry_here", "_law_one", "_law_due", "_law_again"] ["_law_script"] (defScope sLaw) := ⟨rfl, rfl, rfl, by decide +kernel, rfl, by decide +kernel, by decide +kernel⟩
theorem ok_law {f : Addr} {fd : FuncData} (F : Fun K "law" "law" sLaw f fd) (B : Blt mg) (hL_bag : FnHas P w K mg base "_law_bag" 1 (spBag K)) (hL_take : FnHas P w K mg base "_law_take" 1 spTake) (hL_item : FnHas P w K mg base "_law_item" 3 (spItem K)) (hL_entry : FnHas P w K mg base "_law_entry" 4 (spEnr K)) (hL_fraction : FnHas P w K mg base "_law_fraction" 3 spFrac) (hL_item_text : FnHas P w K mg base "_law_item_text" 1 (spItx K)) (hL_right : FnHas P w K mg base "_law_right" 1 spRi) (hshow_items : FnHas P w K mg base "show_items" 3 (spItxs K)) (hshow_entry : FnHas P w K mg base "show_entry" 3 (spEtx K)) (hL_entry_text : FnHas P w K mg base "_law_entry_text" 2 (spEtx K)) (hshow_fraction : FnHas P w K mg base "show_fraction" 1 (spFtx K)) (hL_fraction_text : FnHas P w K mg base "_law_fraction_text" 1 (spFtx K)) : FnOk P w K mg base CX0 5 f fd ["_law_script"] (spLaw K) := by
  refine F.ok scLaw (fun vs H Q E h => ?_) (fun cdv A outer s H vs Q E hr h => ?_)
  · obtain ⟨a, ns, rfl, _⟩ := h
    rfl
  · obtain ⟨a, ns, rfl, hS, hlen, k⟩ := h
    have nd := scLaw.nd
    refine ⟨_, (pss_cons (ps_for PassesOwn.never rfl (pi_range1 rfl (B.at "range") (pa_cons (pe_callB (x := "max") (call_max2 rfl) rfl (B.at "max") PyProof.Rows.boot_max (pa_cons pe_int (pa_cons (pe_callB (x := "min") (call_min2 rfl) rfl (B.at "min") PyProof.Rows.boot_min (pa_cons pe_int (pa_cons (pe_callB (x := "len") (lenK K rfl) rfl (B.at "len") PySem.boot_len (pa_cons (pv 0) pa_nil)) pa_nil))) pa_nil))) pa_nil)) (pg_name (i := 1) nd rfl (Or.inl rfl))
    (pss_cons (ps_set (i := 2) nd rfl (Or.inr rfl) (pe_fn hL_bag (hr.mono (by decide)) rfl (pa_cons (pv 0) (pa_cons (pv 1) pa_nil))))
    (pss_cons (ps_set (i := 3) nd rfl (Or.inr rfl) (pe_op op_add pe_int (pe_fn hL_take (hr.mono (by decide)) rfl (pa_cons (pv 2) (pa_cons pe_int pa_nil)))))
    (pss_cons (ps_set (i := 4) nd rfl (Or.inl rfl) (pe_callTy (x := "tuple") (tupleK K rfl) rfl (B.at "tuple") PyProof.Rows.boot_tuple (pa_cons (pe_comp (N := ["_law_k", "_law_bag_here", "_law_axes"]) (js := [none, some 2, some 3]) rfl rfl rfl (pi_range1 rfl (B.at "range") (pa_cons (pe_fn hL_take (hr.mono (by decide)) rfl (pa_cons (pv 2) (pa_cons pe_int pa_nil))) pa_nil)) (fun _ _ _ _ _ => (pg_name (i := 0) (show List.Nodup (["_law_k", "_law_bag_here", "_law_axes"] : List Str) by decide +kernel) rfl (Or.inl rfl))) (fun _ _ _ _ _ => pts_nil) (fun _ _ _ _ _ => (pe_fn hL_item (hr.mono (by decide)) rfl (pa_cons (pv 1) (pa_cons (pv 2) pa_nil))))) pa_nil)))
    (pss_cons (ps_set (i := 5) nd rfl (Or.inl rfl) (pe_fn hL_entry (hr.mono (by decide)) rfl (pa_cons (pv 2) (pa_cons (pv 3) pa_nil))))
    (pss_cons (ps_set (i := 6) nd rfl (Or.inl rfl) (pe_fn hL_fraction (hr.mono (by decide)) rfl (pa_cons (pv 2) pa_nil)))
    (pss_cons (ps_set (i := 7) nd rfl (Or.inl rfl) (peJoinT K rfl pe_str (pa_cons (pe_comp (N := ["_law_item_here"]) (js := [none]) rfl rfl rfl (piT K rfl (pv 4)) (fun _ _ _ _ _ => (pg_name (i := 0) (show List.Nodup (["_law_item_here"] : List Str) by decide +kernel) rfl (Or.inl rfl))) (fun _ _ _ _ _ => pts_nil) (fun _ _ _ _ _ => (pe_fn hL_item_text (hr.mono (by decide)) rfl (pa_cons (pv 0) pa_nil)))) pa_nil)))
    (pss_one (ps_for PassesOwn.never rfl (pi_range1 rfl (B.at "range") (pa_cons pe_int pa_nil)) (pg_name (i := 8) nd rfl (Or.inl rfl))
    (pss_cons (ps_if (PW.pt (pw_or (pt_not (pt_val (pe_fn hL_right (hr.mono (by decide)) rfl (pa_cons (pe_fn hshow_items (hr.mono (by decide)) rfl (pa_cons (pv 4) pa_nil)) (pa_cons (pv 7) pa_nil))))) (pw_or1 (pt_not (pt_val (pe_fn hL_right (hr.mono (by decide)) rfl (pa_cons (pe_fn hshow_entry (hr.mono (by decide)) rfl (pa_cons (pv 5) pa_nil)) (pa_cons (pe_fn hL_entry_text (hr.mono (by decide)) rfl (pa_cons (pv 5) pa_nil)) pa_nil))))))))
    (pss_one (ps_ret pe_bl))
    pss_nil)
    (pss_one (ps_if (pt_not (pt_val (pe_fn hL_right (hr.mono (by decide)) rfl (pa_cons (pe_fn hshow_fraction (hr.mono (by decide)) rfl (pa_cons (pv 6) pa_nil)) (pa_cons (pe_fn hL_fraction_text (hr.mono (by decide)) rfl (pa_cons (pv 6) pa_nil)) pa_nil)))))
    (pss_one (ps_ret pe_bl))
    pss_nil))))))))))))
    (pss_one (ps_ret pe_bl))), ?_⟩
    refine ⟨_, rfl, a, _, rfl, .inl hS, _, _, rfl, _, _, rfl, _, rfl, ?_, ?_, ?_⟩
    · split <;> (try split) <;> omega
    · split <;> (try split) <;> (try rw [List.length_map]) <;> omega
    have hN : (if (if ((ns.map V.int).length : Int) < 8 then ((ns.map V.int).length : Int) else 8) > 1 then (if ((ns.map V.int).length : Int) < 8 then ((ns.map V.int).length : Int) else 8) else 1).toNat ≤ 12 := by
      split <;> (try split) <;> omega
    refine for_range (Pv := fun i σ H2 => Same H H2 ∧ ∃ v1 v2 v3 v4 v5 v6 v7 v8, σ = [some (.ref a), v1, v2, v3, v4, v5, v6, v7, v8]) ?_ ?_ ?_
    · exact ⟨Same.refl _, none, none, none, none, none, none, none, none, rfl⟩
    · rintro i σ H2 hi ⟨s2, v1, v2, v3, v4, v5, v6, v7, v8, rfl⟩
      have hi8 : i < 12 := Nat.lt_of_lt_of_le hi hN
      refine ⟨_, rfl, _, rfl, a, ns, _, rfl, s2.seq hS, hlen, by omega, by omega, fun p H3 np bg3 s3 => ?_⟩
      refine ⟨_, rfl, p, 2, rfl, bg3, by decide, by decide, fun ax H4 a0 a1 b4 => ?_⟩
      refine ⟨_, _, rfl, rfl, ?_⟩
      obtain ⟨m, em⟩ : ∃ m : Nat, 2 + ax = (m : Int) := ⟨(2 + ax).toNat, by omega⟩
      show gName 3 (.int (2 + ax)) _ _ _
      rw [em]
      refine ⟨_, rfl, p, 21, rfl, b4.bag, by decide, by decide, fun n H5 n0 n1 b5 => ?_⟩
      refine ⟨_, rfl, by omega, by omega, fun D H6 nD => ?_⟩
      have b45 := b4.trans b5
      refine comp_rdB (K := K) (J := Itr 0 n.toNat) (p := p) (H := H5) n.toNat _ nD b5.bag (by omega) (fun i => .int (0 + (i : Int))) (fun i H3 hi _ => ⟨hi, fun y H4 ⟨e, q⟩ => ⟨e, q⟩⟩) (fun H3 _ => Nat.le_refl _) (fun _ d => TI d) ?_ ?_
      · intro i H7 Q' hi b7 hq
        exact ⟨_, rfl, _, rfl, p, m, rfl, b7.bag, by omega, by omega, fun v d H8 rv ti b8 => hq _ _ _ ti (ti_no ti) rv b8⟩
      intro H7 ys ds b7 d7 r7 l7 nl pd
      have allT : ∀ d ∈ ds, TI d := fun d hd => by
        obtain ⟨j, hj⟩ := List.mem_iff_getElem?.mp hd
        exact pd j d hj
      have b47 := b45.trans b7
      refine ⟨D, _, rfl, .inl ⟨SqL.of d7, fun t H8 n8 => ?_⟩⟩
      have b8 : BagX p H7 H8 := .ofSame b47.bag n8.same
      have rt8 : RD K H8 (.ref t) (.tuple ds) := rd_tup (SqT.of n8.at') (RDs.mono n8.same _ r7)
      have nT : noL (.tuple ds) = true := by simp [noL, nl]
      refine ⟨_, rfl, _, rfl, p, m, rfl, b8.bag, by omega, by omega, fun ev ed H9 re te b9 => ?_⟩
      have rt9 := RD.t (BagX.t b8.bag b9) _ nT rt8
      refine ⟨_, rfl, p, rfl, b9.bag, fun fv fa fb H10 fr ⟨q, e1, e2⟩ b10 => ?_⟩
      subst e1
      have t10 := BagX.t b9.bag b10
      have rt10 := RD.t t10 _ nT rt9
      have re10 := RD.t t10 _ (ten_no te) re
      have rf10 : RD K H10 (.ref q) (.tuple [.int fa, .int fb]) := rd_tup (SqT.of e2) (rds_cons (rd_int _) (rds_cons (rd_int _) rds_nil))
      have na : Nm fa := by have := fr.na; unfold Nm; omega
      have nb : Nm fb := by have := fr.nb; have := fr.pos; unfold Nm; omega
      have s310 : Same H2 H10 := (b47.trans (b8.trans (b9.trans b10))).sameOf s3 np
      obtain ⟨t', xs, e', h1, h2⟩ := id rt10.tup_inv
      cases e'
      have lx := h2.length
      refine ⟨rfl, ?_⟩
      refine ⟨_, rfl, t, rfl, ⟨_, h1⟩, fun D2 H11 n11 => ?_⟩
      refine comp_rdT (K := K) (ds := (ds.map itmS).map PyData.str) _ h1 n11 (by simp; exact lx) (by omega) (noLs_strs _) ?_ ?_
      · intro i x d H12 Q' ex ed' s12 hq
        obtain ⟨d', ed2, rx⟩ := h2.get' i ex
        rw [List.getElem?_map, List.getElem?_map, ed2] at ed'
        cases ed'
        exact ⟨_, rfl, x, d', rfl, RD.mono s12 _ rx, allT d' (List.mem_of_getElem? ed2), fun H13 s13 => hq _ _ s13 (rd_str _)⟩
      intro H12 zs s12 d12 r12
      rw [strs_inv r12] at d12
      refine ⟨"\n", D2, ds.map itmS, rfl, rfl, SqL.of d12, fun z hz => ?_, by decide +kernel, by rw [List.length_map]; omega, ?_⟩
      · obtain ⟨d, hd, rfl⟩ := List.mem_map.mp hz
        have := itm_len (allT d hd)
        omega
      refine ⟨2, rfl, by decide, by decide, for_range (Pv := fun c σ H13 => Same H12 H13 ∧ ∃ w8, σ = [some (.ref a), some (.int (0 + (i : Int))), some (.ref p), some (.int m), some (.ref t), some ev, some (.ref q), some (.str (Txt.join "\n" (ds.map itmS))), w8]) ⟨Same.refl _, _, rfl⟩ ?_ ?_⟩
      · rintro c σ H13 hc ⟨s13, w8, rfl⟩
        have s13' := s12.trans s13
        refine ⟨_, rfl, .ref t, ds, rfl, RD.mono s13' _ rt10, allT, nl, by omega, fun H14 s14 => ?_⟩
        refine ⟨_, rfl, _, rfl, true, rfl, ?_⟩
        refine iteF ?_
        have s14' := s13'.trans s14
        refine ⟨_, rfl, ev, ed, rfl, RD.mono s14' _ re10, te, fun H15 s15 => ?_⟩
        refine ⟨_, rfl, ev, ed, rfl, RD.mono (s14'.trans s15) _ re10, te, fun H16 s16 => ?_⟩
        refine ⟨_, rfl, true, rfl, ?_⟩
        refine iteF ?_
        have s16' := s14'.trans (s15.trans s16)
        refine ⟨_, rfl, .ref q, fa, fb, rfl, RD.mono s16' _ rf10, na, nb, ?_⟩
        refine ⟨_, rfl, .ref q, fa, fb, rfl, RD.mono s16' _ rf10, na, nb, ?_⟩
        refine ⟨_, rfl, true, rfl, ?_⟩
        refine iteF ?_
        exact ⟨s13.trans (s14.trans (s15.trans s16)), _, rfl⟩
      · rintro σ H13 ⟨s13, w8, rfl⟩
        exact ⟨s2.trans (s310.trans (s12.trans s13)), _, _, _, _, _, _, _, _, rfl⟩
    · rintro σ H2 ⟨s2, v1, v2, v3, v4, v5, v6, v7, v8, rfl⟩
      exact k H2
end
end Lw



set_option Elab.async false
set_option linter.all false
namespace Lw
open PySem PySem.Spec PyProof.Rows L2
structure All (K : PySem.W.Frag) (mg : Str → Option Value) : Prop where
  B : Blt mg
  f_is_line : FA K mg "is_line" sIsLn
  f_show_fraction : FA K mg "show_fraction" sSFr
  f_show_numbers : FA K mg "show_numbers" sSNs
  f_show_item : FA K mg "show_item" sSIt
  f_show_items : FA K mg "show_items" sSIs
  f_show_entry : FA K mg "show_entry" sSEn
  f__law_bag : FA K mg "_law_bag" sBag
  f__law_take : FA K mg "_law_take" sTake
  f__law_divisor : FA K mg "_law_divisor" sDiv
  f__law_number : FA K mg "_law_number" sNum
  f__law_lowest : FA K mg "_law_lowest" sLow
  f__law_fraction : FA K mg "_law_fraction" sFrac
  f__law_name : FA K mg "_law_name" sName
  f__law_item : FA K mg "_law_item" sItem
  f__law_item_text : FA K mg "_law_item_text" sLIt
  f__law_fraction_text : FA K mg "_law_fraction_text" sLFr
  f__law_entry_text : FA K mg "_law_entry_text" sLEn
  f__law_entry : FA K mg "_law_entry" sEnr
  f__law_right : FA K mg "_law_right" sRgt
  law : FA K mg "law" sLaw
theorem all_law {P : Program} {w : World} {K : PySem.W.Frag} {mg : Str → Option Value} {base : Heap} {f : Addr} {fd : FuncData} (A : All K mg) (F : Fun K "law" "law" sLaw f fd) : FnOk P w K mg base CX0 5 f fd ["_law_script"] (spLaw K) := by
  have tk : FnHas P w K mg base "_law_take" 1 spTake := ok_take A.f__law_take A.B
  have it : FnHas P w K mg base "_law_item" 3 (spItem K) := ok_item A.f__law_item A.B tk (ok_name A.f__law_name A.B tk)
  have fr : FnHas P w K mg base "_law_fraction" 3 spFrac := ok_frac A.f__law_fraction A.B tk (ok_num A.f__law_number A.B tk) (ok_low A.f__law_lowest A.B (ok_div A.f__law_divisor A.B))
  have sns : FnHas P w K mg base "show_numbers" 1 (spNums K) := ok_sns A.f_show_numbers A.B
  have sit : FnHas P w K mg base "show_item" 2 (spItx K) := ok_sit A.f_show_item A.B (ok_isl A.f_is_line A.B) sns
  have sfr : FnHas P w K mg base "show_fraction" 1 (spFtx K) := ok_sfr A.f_show_fraction A.B
  have lit : FnHas P w K mg base "_law_item_text" 1 (spItx K) := ok_lit A.f__law_item_text A.B
  have lfr : FnHas P w K mg base "_law_fraction_text" 1 (spFtx K) := ok_lfr A.f__law_fraction_text A.B
  exact ok_law F A.B (ok_bag A.f__law_bag A.B) tk it (ok_enr A.f__law_entry A.B tk it fr) fr lit (ok_rgt A.f__law_right A.B) (ok_sis A.f_show_items A.B sit) (ok_sen A.f_show_entry A.B sit sns sfr) (ok_len A.f__law_entry_text A.B lit lfr) sfr lfr
end Lw
def PySem.W.Fast.tw2779229557487432759 : PySem.Program := PySem.Challenge.pw_glidequeue_k52_items_written
theorem PySem.W.Fast.te2779229557487432759 : PySem.Challenge.pw_glidequeue_k52_items_written = PySem.W.Fast.tw2779229557487432759 := rfl
def PySem.W.Fast.tw13395375812222028279 : Nat := 0
def PySem.W.Fast.tw13305930566747871410 : Nat := 0
def PySem.W.Fast.tw8824754834043161841 : Nat := 0
def PySem.W.Fast.tw11639010001322260391 : Nat := 0
def PySem.W.Fast.tw14147561515062413238 : Nat := 0
def PySem.W.Fast.tw10579306246608284000 : Nat := 0
def PySem.W.Fast.tw9714994493218663206 : Nat := 0
def PySem.W.Fast.tw2593380578607289959 : Nat := 0
def PySem.W.Fast.tw11818040182480067112 : Nat := 0
open PySem PySem.W PyProof.Rows
set_option maxRecDepth 100000 in
set_option maxHeartbeats 0 in
theorem PySem.Challenge.cw_glidequeue_k52_items_written_holds : PySem.Challenge.rw_glidequeue_k52_items_written.Holds := by
  w_on; o_law; k_head; (case hw => w_witness2)
  k_fill
  refine L2.law_walk (l := PySem.Challenge.rw_glidequeue_k52_items_written) (k := 5) (x := "_law_script") (st := Lw.sLaw) rfl rfl ⟨rfl, by decide, by decide⟩ (fun w h Y => PySem.W.kIn_of Y) Lw.All ?F (fun _ _ A => A.law) (fun _ _ _ _ _ _ _ => rfl) (fun _ _ _ _ _ _ _ A F => Lw.all_law A F)
  case F =>
    intro w mg h KX G
    refine ⟨L2.blt_mk KX G ?b, ?x1, ?x2, ?x3, ?x4, ?x5, ?x6, ?x7, ?x8, ?x9, ?x10, ?x11, ?x12, ?x13, ?x14, ?x15, ?x16, ?x17, ?x18, ?x19, ?x20⟩
    case b => (unfold L2.bltNames; repeat (refine L2.NoG.cons ?z ?_; (case z => k_is))); exact L2.NoG.nil
    case x1 => (refine' L2.fa_mk KX G ?a ?l ?c ?k; (case a => k_is); (case l => k_is); (case c => k_is); (case k => k_is))
    case x2 => (refine' L2.fa_mk KX G ?a ?l ?c ?k; (case a => k_is); (case l => k_is); (case c => k_is); (case k => k_is))
    case x3 => (refine' L2.fa_mk KX G ?a ?l ?c ?k; (case a => k_is); (case l => k_is); (case c => k_is); (case k => k_is))
    case x4 => (refine' L2.fa_mk KX G ?a ?l ?c ?k; (case a => k_is); (case l => k_is); (case c => k_is); (case k => k_is))
    case x5 => (refine' L2.fa_mk KX G ?a ?l ?c ?k; (case a => k_is); (case l => k_is); (case c => k_is); (case k => k_is))
    case x6 => (refine' L2.fa_mk KX G ?a ?l ?c ?k; (case a => k_is); (case l => k_is); (case c => k_is); (case k => k_is))
    case x7 => (refine' L2.fa_mk KX G ?a ?l ?c ?k; (case a => k_is); (case l => k_is); (case c => k_is); (case k => k_is))
    case x8 => (refine' L2.fa_mk KX G ?a ?l ?c ?k; (case a => k_is); (case l => k_is); (case c => k_is); (case k => k_is))
    case x9 => (refine' L2.fa_mk KX G ?a ?l ?c ?k; (case a => k_is); (case l => k_is); (case c => k_is); (case k => k_is))
    case x10 => (refine' L2.fa_mk KX G ?a ?l ?c ?k; (case a => k_is); (case l => k_is); (case c => k_is); (case k => k_is))
    case x11 => (refine' L2.fa_mk KX G ?a ?l ?c ?k; (case a => k_is); (case l => k_is); (case c => k_is); (case k => k_is))
    case x12 => (refine' L2.fa_mk KX G ?a ?l ?c ?k; (case a => k_is); (case l => k_is); (case c => k_is); (case k => k_is))
    case x13 => (refine' L2.fa_mk KX G ?a ?l ?c ?k; (case a => k_is); (case l => k_is); (case c => k_is); (case k => k_is))
    case x14 => (refine' L2.fa_mk KX G ?a ?l ?c ?k; (case a => k_is); (case l => k_is); (case c => k_is); (case k => k_is))
    case x15 => (refine' L2.fa_mk KX G ?a ?l ?c ?k; (case a => k_is); (case l => k_is); (case c => k_is); (case k => k_is))
    case x16 => (refine' L2.fa_mk KX G ?a ?l ?c ?k; (case a => k_is); (case l => k_is); (case c => k_is); (case k => k_is))
    case x17 => (refine' L2.fa_mk KX G ?a ?l ?c ?k; (case a => k_is); (case l => k_is); (case c => k_is); (case k => k_is))
    case x18 => (refine' L2.fa_mk KX G ?a ?l ?c ?k; (case a => k_is); (case l => k_is); (case c => k_is); (case k => k_is))
    case x19 => (refine' L2.fa_mk KX G ?a ?l ?c ?k; (case a => k_is); (case l => k_is); (case c => k_is); (case k => k_is))
    case x20 => (refine' L2.fa_mk KX G ?a ?l ?c ?k; (case a => k_is); (case l => k_is); (case c => k_is); (case k => k_is))
#print axioms PySem.Challenge.cw_glidequeue_k52_items_written_holds



