import PyProof.Rows.All
import Wide.All
import OpenK.AllK
import Wide.FinOn
import Lean
import PyProof.EqAt
import PyProof.EqKinds
import PyProof.TupleCall
import PySem.Challenge.RW_glidequeue_k34_tapes
set_option Elab.async false
set_option linter.all false
set_option maxRecDepth 100000
/-! THE HAND LAYER, for ints, bools, texts, own classes, LISTS and tuples (index, slices, in, append, pop ..), calls, loops. Paste it whole ahead of your own text; what your proof does not reach may be deleted. -/
namespace L2
open PySem PySem.Spec PyProof.Rows

/-- a key: an int or a str -/
abbrev Key := Sum Int Str
def keyIs : Key → Value → Bool
  | .inl k, v => Value.isInt k v
  | .inr x, v => Value.isStrOf x v
def keyH (w : World) : Key → Int
  | .inl k => hashInt k
  | .inr x => hashStr w x
theorem keyIs_shape : ∀ {k : Key} {v : Value}, keyIs k v = true → (∃ i t, k = Sum.inl i ∧ v = Value.int i t) ∨ (∃ x t, k = Sum.inr x ∧ v = Value.str x t)
  | .inl i, v, h => by
    obtain ⟨t, e⟩ := Value.isInt_shape (k := i) (v := v) h
    exact .inl ⟨i, t, rfl, e⟩
  | .inr x, v, h => by
    obtain ⟨t, e⟩ := Value.isStrOf_shape (x := x) (v := v) h
    exact .inr ⟨x, t, rfl, e⟩
theorem key_ll (a b : Int) : decide ((Sum.inl a : Key) = Sum.inl b) = (a == b) := by
  by_cases e : a = b
  · subst e; simp
  · have h : ¬ (Sum.inl a : Key) = Sum.inl b := fun q => e (Sum.inl.inj q)
    rw [decide_eq_false h]
    exact (beq_eq_false_iff_ne.mpr e).symm
theorem key_rr (a b : Str) : decide ((Sum.inr a : Key) = Sum.inr b) = decide (a = b) := by
  by_cases e : a = b
  · subst e; simp
  · have h : ¬ (Sum.inr a : Key) = Sum.inr b := fun q => e (Sum.inr.inj q)
    rw [decide_eq_false h, decide_eq_false e]
theorem key_lr (a : Int) (b : Str) : decide ((Sum.inl a : Key) = Sum.inr b) = false := decide_eq_false (fun q => nomatch q)
theorem key_rl (a : Str) (b : Int) : decide ((Sum.inr a : Key) = Sum.inl b) = false := decide_eq_false (fun q => nomatch q)

def mixKind (prog : Program) (w : World) : PySem.KeyKind prog w Key where
  is := keyIs
  hash := keyH w
  inj := fun v a b ha hb => by
    rcases keyIs_shape ha with ⟨i, t, rfl, rfl⟩ | ⟨x, t, rfl, rfl⟩
    · rcases keyIs_shape hb with ⟨j, u, rfl, e⟩ | ⟨y, u, rfl, e⟩
      · injection e with e1 _; rw [e1]
      · exact nomatch e
    · rcases keyIs_shape hb with ⟨j, u, rfl, e⟩ | ⟨y, u, rfl, e⟩
      · exact nomatch e
      · injection e with e1 _; rw [e1]
  byValue := fun k v h => by
    rcases keyIs_shape h with ⟨i, t, rfl, rfl⟩ | ⟨x, t, rfl, rfl⟩ <;> rfl
  pyHash := fun hv h => by
    rcases keyIs_shape hv with ⟨i, t, rfl, rfl⟩ | ⟨x, t, rfl, rfl⟩
    · exact wpAny_pyHash_int h
    · exact wpAny_pyHash_str h
  eqBool := fun hu hv h => by
    rcases keyIs_shape hu with ⟨i, t, rfl, rfl⟩ | ⟨x, t, rfl, rfl⟩
    · rcases keyIs_shape hv with ⟨j, u, rfl, rfl⟩ | ⟨y, u, rfl, rfl⟩
      · rw [key_ll] at h; exact wpAny_eqBool_int h
      · rw [key_lr] at h; exact SeqAt.EqAt.int_str i t y u _ _ _ _ h
    · rcases keyIs_shape hv with ⟨j, u, rfl, rfl⟩ | ⟨y, u, rfl, rfl⟩
      · rw [key_rl] at h; exact SeqAt.EqAt.str_int x t j u _ _ _ _ h
      · rw [key_rr] at h; exact wpAny_eqBool_str h
  «strs» := fun k x t v h => by
    rcases keyIs_shape h with ⟨i, u, rfl, e⟩ | ⟨y, u, rfl, e⟩
    · exact nomatch e
    · injection e with e1 _
      subst e1
      cases v <;> rfl

end L2

namespace L2
open PySem PySem.Spec PyProof.Rows

/-- a value, without the heap -/
inductive V where
  | non | bl (b : Bool) | int (i : Int) | str (x : Str) | byt (b : Array UInt8) | flt (b : UInt64) | ref (a : Addr) | ty (n : String)
  deriving DecidableEq

def RelV : V → Value → Prop
  | .non, u => u = Value.none
  | .bl b, u => u = Value.bool b
  | .int i, u => ∃ t, u = Value.int i t
  | .str x, u => ∃ t, u = Value.str x t
  | .byt b, u => ∃ t, u = Value.bytes b t
  | .flt b, u => ∃ t, u = Value.float b t
  | .ref a, u => u = Value.ref a
  | .ty n, u => u = Value.type n

abbrev Vals : List V → List Value → Prop := Paired RelV
theorem Vals.length {xs : List V} {us : List Value} (r : Vals xs us) : xs.length = us.length := Paired.length r
theorem Vals.get : ∀ {xs : List V} {us : List Value} {i : Nat} {x : V}, Vals xs us → xs[i]? = some x → ∃ u, us[i]? = some u ∧ RelV x u
  | _, _, _, _, .nil, e => by simp at e
  | _, _, 0, _, .cons r _, e => by simp at e; subst e; exact ⟨_, rfl, r⟩
  | _, _, i + 1, x, .cons _ t, e => by
    obtain ⟨u, h1, h2⟩ := Vals.get (i := i) (x := x) t (by simpa using e)
    exact ⟨u, by simpa using h1, h2⟩
theorem Vals.set {x : V} {u : Value} (r : RelV x u) : ∀ {xs : List V} {us : List Value} (i : Nat), Vals xs us → Vals (xs.set i x) (us.set i u)
  | _, _, _, .nil => .nil
  | _, _, 0, .cons _ t => .cons r t
  | _, _, i + 1, .cons q t => .cons q (Vals.set r i t)
theorem Vals.append : ∀ {xs ys : List V} {us ws : List Value}, Vals xs us → Vals ys ws → Vals (xs ++ ys) (us ++ ws)
  | _, _, _, _, .nil, s => s
  | _, _, _, _, .cons r t, s => .cons r (Vals.append t s)
theorem Vals.take : ∀ {xs : List V} {us : List Value} (n : Nat), Vals xs us → Vals (xs.take n) (us.take n)
  | _, _, 0, _ => .nil
  | _, _, _ + 1, .nil => .nil
  | _, _, n + 1, .cons r t => .cons r (Vals.take n t)
theorem Vals.drop : ∀ {xs : List V} {us : List Value} (n : Nat), Vals xs us → Vals (xs.drop n) (us.drop n)
  | _, _, 0, r => r
  | _, _, _ + 1, .nil => .nil
  | _, _, n + 1, .cons _ t => Vals.drop n t
def RelO : Option V → Option Value → Prop
  | some v, some u => RelV v u
  | none, none => True
  | _, _ => False
def KV {κ : Type} : List (κ × V) → List (κ × Value) → Prop := Paired fun (p : κ × V) (q : κ × Value) => p.1 = q.1 ∧ RelV p.2 q.2

/-- a key of a dict (00_mix): an int or a text -/
def kV : Key → V
  | .inl i => .int i
  | .inr x => .str x

/-- what stands at a tracked address -/
inductive HO where
  /-- a list -/
  | lst (xs : List V)
  /-- a tuple (never changes) -/
  | tup (xs : List V)
  /-- a dict whose keys are ints and texts; one whose keys are tuples of ints and texts (the empty one is both) -/
  | dK (kvs : List (Key × V)) | dT (kvs : List (List Key × V))
  /-- a set of ints: its members, its size -/
  | set (S : Int → Bool) (n : Nat)
  /-- an instance of the class at C, its dict at dx, its attributes -/
  | ins (C dx : Addr) (fs : List (Str × V))
  /-- the dict of the instance at x -/
  | own (x : Addr)
  /-- the dict of an exception -/
  | xd (fs : List (Str × V))
  /-- a bound method, f of x -/
  | met (f x : Addr)
  /-- a range object lo, lo + 1, .. below hi -/
  | rng (lo hi : Int)
  /-- a thing that is known to the object (the script; a dict while a loop walks it): read, never written while it is so -/
  | frz (o : Obj) (u : HO)
  /-- a code object's table -/
  | tbl (ps : Array Value)
  /-- any other thing, by what is true of its one object (a def of one's own: SetO a S n := HO.ext fun h => ..) -/
  | ext (φ : Heap → Prop)

abbrev Hp := Addr → Option HO
def upd (H : Hp) (a : Addr) (o : HO) : Hp := fun b => if b = a then some o else H b
theorem upd_same {H : Hp} {a : Addr} {o : HO} : upd H a o a = some o := by unfold upd; rw [if_pos rfl]
theorem upd_ne {H : Hp} {a b : Addr} {o : HO} (h : b ≠ a) : upd H a o b = H b := by unfold upd; rw [if_neg h]
/-- two objects of different content stand apart -/
theorem ne_of {H : Hp} {a b : Addr} {o u : HO} (h : H a = some o) (h' : H b = some u) (d : o ≠ u) : a ≠ b := by
  intro e; subst e; rw [h] at h'; exact d (Option.some.inj h')
theorem ne_of_none {H : Hp} {a b : Addr} {o : HO} (h : H a = some o) (h' : H b = none) : a ≠ b := by
  intro e; subst e; rw [h] at h'; cases h'

section
variable (P : Program) (w : World)
def ObjOk (H : Hp) (h : Heap) (a : Addr) : HO → Prop
  | .lst xs => xs.length ≤ sizeLine ∧ ∃ (its : List Value) (n : Nat), Vals xs its ∧ h.get? a = some { cls := .type "list", data := .seq its.toArray n }
  | .tup xs => xs.length ≤ sizeLine ∧ ∃ its : List Value, Vals xs its ∧ IsTup h a its.toArray
  | .dK kvs => kvs.length ≤ sizeLine ∧ (a == sysModules) = false ∧ ∃ vs, KV kvs vs ∧ h.DictOf (mixKind P w) a vs
  | .dT kvs => kvs.length ≤ sizeLine ∧ (a == sysModules) = false ∧ ∃ xs : List (List Key × Addr × Value),
      Paired (fun (p : List Key × V) (q : List Key × Addr × Value) => p.1 = q.1 ∧ H q.2.1 = some (.tup (p.1.map kV)) ∧ RelV p.2 q.2.2) kvs xs ∧
      ∃ o es ep, h.get? a = some o ∧ o.ExactDict ∧ o.data = .dict es ep ∧ es.toList = xs.map (entryOfKey (tupleKind (mixKind P w))) ∧ (xs.map (·.1)).Nodup
  | .set S n => h.SetOf (intKind P w) a S n
  | .ins C dx fs => H dx = some (.own a) ∧ fs.length ≤ 1000 ∧ dx ≠ a ∧ h.get? a = some (PySem.W.instObj C dx) ∧
      ∃ mA, h.Ns1 dx mA ∧ (∀ f, RelO (fs.lookup f) (mA f)) ∧ PySem.Within mA (fs.map (·.1))
  | .own _ => ∃ o, h.get? a = some o
  | .xd fs => ∃ mA, h.Ns1 a mA ∧ ∀ f, RelO (fs.lookup f) (mA f)
  | .rng lo hi => ∃ t u v, h.get? a = some { cls := .type "range", data := .fields #[.int lo t, .int hi u, .int 1 v] }
  | .frz o u => h.get? a = some o ∧ ObjOk H h a u
  | .tbl ps => h.get? a = some { cls := .none, data := .fields ps }
  | .met f x => h.get? a = some (PySem.W.methodObj (.ref f) (.ref x))
  | .ext φ => φ h ∧ (∃ o, h.get? a = some o) ∧ ∀ h1 h2 : Heap, φ h1 → (∀ o, h1.get? a = some o → h2.get? a = some o) → φ h2
/-- the abstract heap is held -/
def HOk (H : Hp) (h : Heap) : Prop := ∀ a o, H a = some o → ObjOk P w H h a o
end

section
variable {P : Program} {w : World} {H H' : Hp} {h h' : Heap} {a : Addr} {o : HO}
theorem ObjOk.lt (x : ObjOk P w H h a o) : a < h.objs.size := by
  cases o with
  | lst xs => obtain ⟨_, _, _, _, e⟩ := x; exact Heap.lt_size e
  | tup xs => obtain ⟨_, _, _, p⟩ := x; exact p.lt
  | dK kvs => obtain ⟨_, _, _, _, o, _, _, e, _⟩ := x; exact Heap.lt_size e
  | dT kvs => obtain ⟨_, _, _, _, o, _, _, e, _⟩ := x; exact Heap.lt_size e
  | set S n => obtain ⟨o, _, _, _, e, _⟩ := x; exact Heap.lt_size e
  | ins C dx fs => obtain ⟨_, _, _, e, _⟩ := x; exact Heap.lt_size e
  | own y => obtain ⟨_, e⟩ := x; exact Heap.lt_size e
  | xd fs => obtain ⟨_, ⟨_, _, _, e, _⟩, _⟩ := x; exact Heap.lt_size e
  | rng lo hi => obtain ⟨_, _, _, e⟩ := x; exact Heap.lt_size e
  | frz ob u => obtain ⟨e, _⟩ := x; exact Heap.lt_size e
  | tbl ps => exact Heap.lt_size (show h.get? a = some _ from x)
  | met f y => exact Heap.lt_size (show h.get? a = some _ from x)
  | ext φ => obtain ⟨_, ⟨_, e⟩, _⟩ := x; exact Heap.lt_size e
theorem Paired.mapP {α β : Type} {F G : α → β → Prop} : ∀ {l₁ : List α} {l₂ : List β}, Paired F l₁ l₂ → (∀ a b, F a b → G a b) → Paired G l₁ l₂
  | _, _, .nil, _ => .nil
  | _, _, .cons r t, f => .cons (f _ _ r) (Paired.mapP t f)
/-- what an object's description leans on: its own object, its own dict, the tuples -/
theorem ObjOk.stay (x : ObjOk P w H h a o) (k : ∀ b u, (b = a ∨ H b = some (.own a)) → h.get? b = some u → h'.get? b = some u)
    (ho : ∀ b, H b = some (.own a) → H' b = some (.own a)) (ht : ∀ b xs, H b = some (.tup xs) → H' b = some (.tup xs)) : ObjOk P w H' h' a o := by
  induction o with
  | lst xs => obtain ⟨z, its, n, r, e⟩ := x; exact ⟨z, its, n, r, k _ _ (.inl rfl) e⟩
  | tup xs => obtain ⟨z, its, r, ob, e, c⟩ := x; exact ⟨z, its, r, ob, k _ _ (.inl rfl) e, c⟩
  | dK kvs => obtain ⟨z, y, vs, r, ob, es, ep, e, c⟩ := x; exact ⟨z, y, vs, r, ob, es, ep, k _ _ (.inl rfl) e, c⟩
  | dT kvs =>
    obtain ⟨z, y, xs, r, ob, es, ep, e, c⟩ := x
    exact ⟨z, y, xs, Paired.mapP r fun p q z => ⟨z.1, ht _ _ z.2.1, z.2.2⟩, ob, es, ep, k _ _ (.inl rfl) e, c⟩
  | set S n => obtain ⟨ob, es, ep, t, e, c⟩ := x; exact ⟨ob, es, ep, t, k _ _ (.inl rfl) e, c⟩
  | ins C dx fs =>
    obtain ⟨d, z, ne, e, mA, ⟨od, es, ep, e2, c⟩, r⟩ := x
    exact ⟨ho _ d, z, ne, k _ _ (.inl rfl) e, mA, ⟨od, es, ep, k _ _ (.inr d) e2, c⟩, r⟩
  | own y => obtain ⟨ob, e⟩ := x; exact ⟨ob, k _ _ (.inl rfl) e⟩
  | xd fs => obtain ⟨mA, ⟨od, es, ep, e, c⟩, r⟩ := x; exact ⟨mA, ⟨od, es, ep, k _ _ (.inl rfl) e, c⟩, r⟩
  | rng lo hi => obtain ⟨t, u, v, e⟩ := x; exact ⟨t, u, v, k _ _ (.inl rfl) e⟩
  | frz ob u ih => obtain ⟨e, q⟩ := x; exact ⟨k _ _ (.inl rfl) e, ih q⟩
  | tbl ps =>
    have e : h.get? a = some { cls := .none, data := .fields ps } := x
    show h'.get? a = some { cls := .none, data := .fields ps }
    exact k a _ (.inl rfl) e
  | met f y =>
    have e : h.get? a = some (PySem.W.methodObj (.ref f) (.ref y)) := x
    show h'.get? a = some (PySem.W.methodObj (.ref f) (.ref y))
    exact k a _ (.inl rfl) e
  | ext φ => obtain ⟨p, ⟨o, e⟩, st⟩ := x; exact ⟨st _ _ p fun o q => k _ _ (.inl rfl) q, ⟨o, k _ _ (.inl rfl) e⟩, st⟩
theorem HOk.lt (x : HOk P w H h) (e : H a = some o) : a < h.objs.size := (x a o e).lt
theorem HOk.fresh (x : HOk P w H h) (e : h.objs.size ≤ a) : H a = none := by
  cases q : H a with
  | none => rfl
  | some u => exact absurd (Nat.lt_of_lt_of_le (x.lt q) e) (Nat.lt_irrefl _)
/-- every object of the heap is kept -/
theorem HOk.kept (x : HOk P w H h) (k : ∀ b u, h.get? b = some u → h'.get? b = some u) : HOk P w H h' := fun a o e =>
  (x a o e).stay (fun b u _ q => k b u q) (fun _ q => q) fun _ _ q => q
/-- a new object is laid and tracked -/
theorem HOk.laid (x : HOk P w H h) (k : ∀ b u, h.get? b = some u → h'.get? b = some u) (hp : h.objs.size ≤ a) (new : ObjOk P w (upd H a o) h' a o) : HOk P w (upd H a o) h' := fun b u e => by
  have hn := x.fresh hp
  by_cases hb : b = a
  · subst hb; rw [upd_same] at e; cases e; exact new
  · rw [upd_ne hb] at e
    exact (x b u e).stay (fun c v _ q => k c v q) (fun c q => by rw [upd_ne (ne_of_none q hn)]; exact q) fun c xs q => by rw [upd_ne (ne_of_none q hn)]; exact q
end

/-- what may be read as u: it is u, or a known u -/
def Rd (H : Hp) (a : Addr) (u : HO) : Prop := H a = some u ∨ ∃ o, H a = some (.frz o u)
theorem Rd.of {H : Hp} {a : Addr} {u : HO} (h : H a = some u) : Rd H a u := .inl h
theorem Rd.ok {P : Program} {w : World} {H : Hp} {h : Heap} {a : Addr} {u : HO} (r : Rd H a u) (x : HOk P w H h) : ObjOk P w H h a u := by
  rcases r with r | ⟨o, r⟩
  · exact x a u r
  · obtain ⟨_, q⟩ := x a _ r
    exact q
/-- what may be written -/
def Mut : Option HO → Prop
  | some (.lst _) => True
  | some (.dK _) => True
  | some (.dT _) => True
  | some (.set _ _) => True
  | some (.ins _ _ _) => True
  | some (.ext _) => True
  | _ => False
section
variable {P : Program} {w : World} {H : Hp} {h h' : Heap} {x e : Addr} {o' : HO}
/-- the object at e is changed: x itself, or the dict of the instance x -/
theorem HOk.write (ok : HOk P w H h) (mu : Mut (H x)) (he : e = x ∨ H e = some (.own x)) (k : ∀ b u, b ≠ e → h.get? b = some u → h'.get? b = some u) (heo : ∃ u, h'.get? e = some u)
    (new : ObjOk P w (upd H x o') h' x o') : HOk P w (upd H x o') h' := fun b u q => by
  have nown : ∀ c y, H c = some (.own y) → c ≠ x := fun c y r z => by subst z; rw [r] at mu; exact mu
  have ntup : ∀ c xs, H c = some (.tup xs) → c ≠ x := fun c xs r z => by subst z; rw [r] at mu; exact mu
  by_cases hb : b = x
  · subst hb; rw [upd_same] at q; cases q; exact new
  · rw [upd_ne hb] at q
    by_cases hbe : b = e
    · have q' : H b = some (.own x) := by
        rcases he with z | z
        · exact absurd (hbe.trans z) hb
        · rw [hbe]; exact z
      rw [q] at q'; cases q'
      obtain ⟨v, hv⟩ := heo
      exact ⟨v, by rw [hbe]; exact hv⟩
    · refine (ok b u q).stay (fun c v hc r => k c v ?_ r) (fun c r => by rw [upd_ne (nown c b r)]; exact r) fun c xs r => by rw [upd_ne (ntup c xs r)]; exact r
      rcases hc with rfl | hc
      · exact hbe
      · rintro rfl
        rcases he with z | z
        · exact nown c b hc z
        · rw [hc] at z; cases z; exact hb rfl
end

/-! ### kept unless tracked; of the frames at fs (the callers') the slots may change (an exception that passes writes there); of the records at ex (iterators) nothing is said -/
structure Un (fs ex : List Addr) (H H' : Hp) (h h' : Heap) : Prop where
  keep : ∀ b o, h.get? b = some o → H b = none → b ∉ fs → b ∉ ex → h'.get? b = some o
  slot : ∀ b o, h.get? b = some o → H b = none → b ∈ fs → b ∉ ex → ∃ sl, h'.get? b = some { o with slots := sl }
  free : ∀ b o, h.get? b = some o → H b = none → b ∉ ex → H' b = none
  there : ∀ b o, h.get? b = some o → b ∉ ex → ∃ o', h'.get? b = some o'
  tups : ∀ b xs, H b = some (.tup xs) → H' b = some (.tup xs)
  frzs : ∀ b o u, H b = some (.frz o u) → H' b = some (.frz o u)
  tbls : ∀ b ps, H b = some (.tbl ps) → ∃ more, H' b = some (.tbl (ps ++ more))
section
variable {fs fs' ex ex' : List Addr} {H H1 H2 : Hp} {h h1 h2 h' : Heap} {a x e : Addr} {o : HO}
theorem Un.any (u : Un fs ex H H1 h h1) {b : Addr} {ob : Obj} (q : h.get? b = some ob) (n : H b = none) (hx : b ∉ ex) : ∃ sl, h1.get? b = some { ob with slots := sl } := by
  by_cases hb : b ∈ fs
  · exact u.slot b ob q n hb hx
  · exact ⟨ob.slots, u.keep b ob q n hb hx⟩
theorem Un.trans (a : Un fs ex H H1 h h1) (b : Un fs ex H1 H2 h1 h2) : Un fs ex H H2 h h2 where
  keep := fun c ob q n hc hx => b.keep c ob (a.keep c ob q n hc hx) (a.free c ob q n hx) hc hx
  slot := fun c ob q n hc hx => by
    obtain ⟨sl, e1⟩ := a.slot c ob q n hc hx
    obtain ⟨sl', e2⟩ := b.slot c _ e1 (a.free c ob q n hx) hc hx
    exact ⟨sl', e2⟩
  free := fun c ob q n hx => by
    obtain ⟨o', e1⟩ := a.there c ob q hx
    exact b.free c o' e1 (a.free c ob q n hx) hx
  there := fun c ob q hx => by
    obtain ⟨o', e1⟩ := a.there c ob q hx
    exact b.there c o' e1 hx
  tups := fun c xs q => b.tups c xs (a.tups c xs q)
  frzs := fun c ob xs q => b.frzs c ob xs (a.frzs c ob xs q)
  tbls := fun c ps q => by
    obtain ⟨m1, e1⟩ := a.tbls c ps q
    obtain ⟨m2, e2⟩ := b.tbls c _ e1
    exact ⟨m1 ++ m2, by rw [e2, Array.append_assoc]⟩
theorem Un.kept (k : ∀ b u, h.get? b = some u → h'.get? b = some u) : Un fs ex H H h h' :=
  ⟨fun b ob q _ _ _ => k b ob q, fun b ob q _ _ _ => ⟨ob.slots, k b ob q⟩, fun _ _ _ n _ => n, fun b ob q _ => ⟨ob, k b ob q⟩, fun _ _ q => q, fun _ _ _ q => q, fun _ ps q => ⟨#[], by rw [q]; simp⟩⟩
theorem Un.refl : Un fs ex H H h h := Un.kept fun _ _ q => q
theorem Un.laid (k : ∀ b u, h.get? b = some u → h'.get? b = some u) (hp : h.objs.size ≤ a) (hn : H a = none) : Un fs ex H (upd H a o) h h' where
  keep := fun b u q _ _ _ => k b u q
  slot := fun b u q _ _ _ => ⟨u.slots, k b u q⟩
  free := fun b u q n _ => by rw [upd_ne (Nat.ne_of_lt (Nat.lt_of_lt_of_le (Heap.lt_size q) hp))]; exact n
  there := fun b u q _ => ⟨u, k b u q⟩
  tups := fun b xs q => by rw [upd_ne (ne_of_none q hn)]; exact q
  frzs := fun b u xs q => by rw [upd_ne (ne_of_none q hn)]; exact q
  tbls := fun b ps q => ⟨#[], by rw [upd_ne (ne_of_none q hn), q]; simp⟩
theorem Un.write (mu : Mut (H x)) (he : e = x ∨ H e = some (.own x)) (k : ∀ b u, b ≠ e → h.get? b = some u → h'.get? b = some u) (heo : ∃ u, h'.get? e = some u) : Un fs ex H (upd H x o) h h' := by
  have hx : ∀ b, H b = none → b ≠ x := fun b n z => by subst z; rw [n] at mu; exact mu
  have hb : ∀ b, H b = none → b ≠ e := fun b n z => by
    subst z
    rcases he with r | r
    · exact hx b n r
    · rw [n] at r; cases r
  have hm : ∀ b u, H b = some u → ¬ Mut (some u) → b ≠ x := fun b u q nm z => by subst z; rw [q] at mu; exact nm mu
  refine ⟨fun b u q n _ _ => k b u (hb b n) q, fun b u q n _ _ => ⟨u.slots, k b u (hb b n) q⟩, fun b u q n _ => by rw [upd_ne (hx b n)]; exact n, fun b u q _ => ?_,
    fun b xs q => by rw [upd_ne (hm b _ q fun z => z)]; exact q, fun b u xs q => by rw [upd_ne (hm b _ q fun z => z)]; exact q, fun b ps q => ⟨#[], by rw [upd_ne (hm b _ q fun z => z), q]; simp⟩⟩
  by_cases hbe : b = e
  · subst hbe; exact heo
  · exact ⟨u, k b u hbe q⟩
theorem Un.mono (u : Un fs ex H H1 h h1) (hs : ∀ b ∈ fs, b ∈ fs') (hx : ∀ b ∈ ex, b ∈ ex') : Un fs' ex' H H1 h h1 :=
  ⟨fun b ob q n hb he => u.keep b ob q n (fun z => hb (hs b z)) fun z => he (hx b z), fun _ _ q n _ he => u.any q n fun z => he (hx _ z), fun b ob q n he => u.free b ob q n fun z => he (hx b z), fun b ob q he => u.there b ob q fun z => he (hx b z), u.tups, u.frzs, u.tbls⟩
end

/-! ### the heap without what is tracked -/
def trk (h : Heap) (H : Hp) : List Addr := (List.range h.objs.size).filter fun a => (H a).isSome
def hidT (h : Heap) (H : Hp) : Heap := PySem.W.hideAll h (trk h H)
theorem hidT_size (h : Heap) (H : Hp) : (hidT h H).objs.size = h.objs.size := PySem.W.hideAll_size _ _
theorem hidT_get {h : Heap} {H : Hp} {b : Addr} {o : Obj} (e : h.get? b = some o) (n : H b = none) : (hidT h H).get? b = some o :=
  PySem.W.hideAll_get _ e fun hm => by
    have q : (H b).isSome = true := (List.mem_filter.mp hm).2
    rw [n] at q; simp at q
theorem of_hidT {h : Heap} {H : Hp} {b : Addr} {o : Obj} (e : (hidT h H).get? b = some o) : h.get? b = some o ∧ H b = none := by
  have e' : h.get? b = some o := PySem.W.of_hideAll (trk h H) e
  refine ⟨e', ?_⟩
  cases q : H b with
  | none => rfl
  | some x =>
    have hm : b ∈ trk h H := List.mem_filter.mpr ⟨List.mem_range.mpr (Heap.lt_size e'), by simp [q]⟩
    have z : (hidT h H).get? b = none := PySem.W.hideAll_none (trk h H) hm
    rw [z] at e; cases e

/-! ### OpenK's ledger, filled with every new object but one -/
def allNews (g h : Heap) (L : Addr) : List (Addr × Obj) := (List.range h.objs.size).filterMap fun a => if a = L ∨ (g.get? a).isSome = true then none else (h.get? a).map fun o => (a, o)
def rest (g h : Heap) (L d : Addr) : List (Addr × Obj) := (allNews g h L).filter fun p => decide (p.1 ≠ d)
end L2

namespace L2
open PySem PySem.Spec PyProof.Rows

/-- the module's facts, over the base: the heap at the law's entry without what is tracked there -/
structure Mod (K : PySem.W.Frag) (mg : Str → Option Value) (base : Heap) : Prop where
  kin : K.In base
  glob : base.Ns mainGlobals mg
  blt : ∃ mb, base.Ns builtinsNs mb ∧ ∀ x : Str, x ≠ "__name__" → mb x = bootBuiltins x
  nolimit : base.NoLimit

/-- the context: a def's body (or a comprehension's block) running. base: fixed through the whole law; s₀, H₀: the entry; outer: the frames whose slots others may change (a def's callers); stack: all frames that run;
   ex: iterators that were made ahead of the entry and are walked here (a comprehension's); fn: the names whose cells were made at the entry (a def: all; a comprehension's block: its own); calm: not within an except suite; pn: pins that every state bears; xe: what is wanted of an exception that leaves the code -/
structure Cx where
  prog : Program
  w : World
  K : PySem.W.Frag
  mg : Str → Option Value
  base : Heap
  A : Around
  N : List Str
  s₀ : Shared
  H₀ : Hp
  env : Env
  outer : List Env
  stack : List Env
  ex : List Addr
  fn : Str → Bool
  calm : Bool
  pn : List (Addr × Obj)
  xe : Value → Shared → Prop
/-- the callers' frames -/
def frs (l : List Env) : List Addr := l.filterMap (·.frame)
abbrev Cx.fs (X : Cx) : List Addr := frs X.outer

def Vis (sc : Scope) (x : Str) : Prop := sc.names.lookup x = some .local ∨ sc.names.lookup x = some .cell ∨ sc.names.lookup x = some .free
def Loc (sc : Scope) (x : Str) : Prop := sc.names.lookup x = some .local ∨ sc.names.lookup x = some .cell
def Look (env : Env) (h : Heap) (m : Str → Option Value) (x : Str) (u : Value) : Prop :=
  (env.kindOf x = some .local ∧ m x = some u) ∨ ((env.kindOf x = some .cell ∨ env.kindOf x = some .free) ∧ ∃ c, env.cells.lookup x = some c ∧ h.IsCell c (some u))

structure Cx.Ok (X : Cx) : Prop where
  mod : Mod X.K X.mg X.base
  kind : X.env.scope.kind = .function
  glob : X.env.globals = mainGlobals
  blt : X.env.builtins = builtinsNs
  above : X.s₀.heap.objs.size ≤ X.env.locals
  inj : ∀ x y c, X.env.cells.lookup x = some c → X.env.cells.lookup y = some c → x = y
  has : ∀ x, (X.env.kindOf x = some .cell ∨ X.env.kindOf x = some .free) → ∃ c, X.env.cells.lookup x = some c
  cab : ∀ x c, X.fn x = true → X.env.cells.lookup x = some c → X.s₀.heap.objs.size ≤ c
  hd : X.calm = true → X.A.handled = none
  frames : X.A.frames = some X.stack
  stk : X.stack = X.outer ∨ (X.stack = X.env :: X.outer ∧ X.env.frame = some X.env.locals)
  exf : ∀ b ∈ X.ex, b ≠ X.env.locals ∧ ∀ x c, X.env.cells.lookup x = some c → c ≠ b
  bs : ∀ b o, X.base.get? b = some o → X.s₀.heap.get? b = some o ∧ X.H₀ b = none
  bsz : X.base.objs.size ≤ X.s₀.heap.objs.size
  noex : ∀ b o, X.base.get? b = some o → b ∉ X.ex
  exfs : ∀ b ∈ X.ex, b ∉ X.fs
  funs : X.s₀.heap.FunFrames X.base X.outer
  frf : ∀ b ∈ X.fs, X.H₀ b = none

structure Inv (X : Cx) (pins : List (Addr × Obj)) (σ : List (Option V)) (H : Hp) (s : Shared) : Prop where
  ok : X.Ok
  os : s.os = X.s₀.os
  bare : AllBare s.gens
  base : Un X.fs X.ex X.H₀ H X.s₀.heap s.heap
  loc : ∃ m, s.heap.Ns X.env.locals m ∧ ∀ (i : Nat) (x : Str) (v : V), X.N[i]? = some x → σ[i]? = some (some v) → Vis X.env.scope x → ∃ u, RelV v u ∧ Look X.env s.heap m x u
  cell : ∀ x c, X.env.cells.lookup x = some c → ∃ v, s.heap.IsCell c v
  free : H X.env.locals = none
  freeC : ∀ x c, X.env.cells.lookup x = some c → H c = none
  pin : ∀ p ∈ X.pn ++ pins, s.heap.get? p.1 = some p.2 ∧ H p.1 = none ∧ p.1 ≠ X.env.locals ∧ p.1 ∉ X.fs ∧ ∀ v, p.2.data ≠ .cell v
  hok : HOk X.prog X.w H s.heap
  len : σ.length = X.N.length

section
variable {X : Cx} {pins : List (Addr × Obj)} {σ : List (Option V)} {H H' : Hp} {s : Shared} {h' : Heap}

theorem Cx.Ok.nofr (ok : X.Ok) {b : Addr} {o : Obj} (e : X.base.get? b = some o) : b ∉ X.fs := fun hb => by
  have := (ok.funs.mem hb).1
  rw [e] at this; cases this
theorem Inv.bs (I : Inv X pins σ H s) : ∀ b o, X.base.get? b = some o → s.heap.get? b = some o ∧ H b = none := fun b o e =>
  ⟨I.base.keep b o (I.ok.bs b o e).1 (I.ok.bs b o e).2 (I.ok.nofr e) (I.ok.noex b o e), I.base.free b o (I.ok.bs b o e).1 (I.ok.bs b o e).2 (I.ok.noex b o e)⟩
theorem Inv.bk (I : Inv X pins σ H s) : ∀ b o, X.base.get? b = some o → s.heap.get? b = some o := fun b o e => (I.bs b o e).1
theorem Inv.mod (I : Inv X pins σ H s) : Mod X.K X.mg X.base := I.ok.mod
theorem Inv.kIn (I : Inv X pins σ H s) : X.K.In s.heap := I.ok.mod.kin.keeps I.bk
theorem Inv.nolimit (I : Inv X pins σ H s) : s.heap.NoLimit := I.ok.mod.nolimit.keeps I.bk
/-- the frame over the base: for OpenK's rules (K.In X.base is I.mod.kin) -/
theorem Inv.fr (I : Inv X pins σ H s) : ∃ m, Fr X.base X.env.locals s.heap m :=
  let ⟨m, hn, _⟩ := I.loc
  ⟨m, hn, I.bk, Nat.le_trans I.ok.bsz I.ok.above⟩
theorem Inv.lt (I : Inv X pins σ H s) : X.env.locals < s.heap.objs.size := let ⟨_, hn, _⟩ := I.loc; hn.lt
theorem Inv.sz (I : Inv X pins σ H s) : X.s₀.heap.objs.size ≤ s.heap.objs.size := Nat.le_trans I.ok.above (Nat.le_of_lt I.lt)
theorem Inv.nofs (I : Inv X pins σ H s) {a : Addr} (h : s.heap.objs.size ≤ a) : a ∉ X.fs := fun hb => by
  obtain ⟨_, o, ho, _⟩ := I.ok.funs.mem hb
  exact absurd (Nat.lt_of_lt_of_le (Heap.lt_size ho) (Nat.le_trans I.sz h)) (Nat.lt_irrefl _)
theorem Inv.cne (I : Inv X pins σ H s) : ∀ x c, X.env.cells.lookup x = some c → c ≠ X.env.locals := fun x c e z => by
  obtain ⟨v, o, ho, hd⟩ := I.cell x c e
  obtain ⟨m, ⟨o', es, ep, ho', hd', _⟩, _⟩ := I.loc
  rw [z, ho'] at ho; cases ho; rw [hd'] at hd; cases hd
theorem Inv.funs (I : Inv X pins σ H s) : s.heap.FunFrames X.base X.outer := by
  have all : ∀ (l : List Env), (∀ b ∈ frs l, b ∈ X.fs) → X.s₀.heap.FunFrames X.base l → s.heap.FunFrames X.base l := by
    intro l
    induction l with
    | nil => intro _ _; trivial
    | cons env r ih =>
      intro hs hl
      obtain ⟨hk, ⟨L, o, hf, hn, ho, hd⟩, hr⟩ := hl
      have hL : L ∈ X.fs := hs L (by unfold frs; rw [List.filterMap_cons, hf]; exact List.mem_cons_self)
      obtain ⟨sl, e⟩ := I.base.slot L o ho (I.ok.frf L hL) hL fun z => I.ok.exfs L z hL
      exact ⟨hk, ⟨L, _, hf, hn, e, hd⟩, ih (fun b hb => hs b (by unfold frs; rw [List.filterMap_cons, hf]; exact List.mem_cons_of_mem _ hb)) hr⟩
  exact all X.outer (fun _ hb => hb) I.ok.funs

/-- the frames that run, for a call -/
theorem Inv.stack (I : Inv X pins σ H s) : s.heap.FunFrames X.base X.stack := by
  rcases I.ok.stk with e | ⟨e, hf⟩
  · rw [e]; exact I.funs
  · rw [e]
    obtain ⟨m, hn, _⟩ := I.loc
    refine .cons (by rw [I.ok.kind]; decide) hf hn ?_ I.funs
    exact Heap.get?_none_of_le (Nat.le_trans I.ok.bsz I.ok.above)
theorem Inv.stkSub (I : Inv X pins σ H s) : ∀ b ∈ frs X.stack, b ∈ X.env.locals :: X.fs := fun b hb => by
  rcases I.ok.stk with e | ⟨e, hf⟩
  · rw [e] at hb; exact List.mem_cons_of_mem _ hb
  · rw [e] at hb
    unfold frs at hb
    rw [List.filterMap_cons, hf] at hb
    exact hb
theorem Inv.stkFree (I : Inv X pins σ H s) : ∀ b ∈ frs X.stack, H b = none := fun b hb => by
  rcases List.mem_cons.mp (I.stkSub b hb) with e | hb
  · rw [e]; exact I.free
  · obtain ⟨_, o, ho, _⟩ := I.ok.funs.mem hb
    exact I.base.free b o ho (I.ok.frf b hb) fun z => I.ok.exfs b z hb

/-- THE STEP: the untracked objects but the frame and the records at ch are kept (the callers' frames up to slots), the frame's map is kept, the new abstract heap is held -/
theorem Inv.step {g' : Array GenState} {t' : Nat} {d' : Drawn} {ch : List Addr} (I : Inv X pins σ H s)
    (hch : ∀ b ∈ ch, (b ∈ X.ex ∨ X.s₀.heap.objs.size ≤ b) ∧ b ≠ X.env.locals ∧ (∀ x c, X.env.cells.lookup x = some c → c ≠ b) ∧ ∀ p ∈ X.pn ++ pins, p.1 ≠ b)
    (keep : ∀ b o, b ≠ X.env.locals → b ∉ X.fs → b ∉ ch → s.heap.get? b = some o → H b = none → h'.get? b = some o)
    (slot : ∀ b o, b ≠ X.env.locals → b ∈ X.fs → b ∉ ch → s.heap.get? b = some o → H b = none → ∃ sl, h'.get? b = some { o with slots := sl }) (free : ∀ b o, b ∉ ch → s.heap.get? b = some o → H b = none → H' b = none)
    (there : ∀ b o, b ∉ ch → s.heap.get? b = some o → ∃ o', h'.get? b = some o')
    (tups : ∀ b xs, H b = some (.tup xs) → H' b = some (.tup xs)) (frzs : ∀ b o u, H b = some (.frz o u) → H' b = some (.frz o u)) (tbls : ∀ b ps, H b = some (.tbl ps) → ∃ more, H' b = some (.tbl (ps ++ more)))
    (ns : ∀ m, s.heap.Ns X.env.locals m → h'.Ns X.env.locals m) (hok : HOk X.prog X.w H' h') (hg : AllBare g') :
    Inv X pins σ H' { s with heap := h', gens := g', drawn := d', toks := t' } := by
  have neL : ∀ b o, X.s₀.heap.get? b = some o → b ≠ X.env.locals := fun b o e => Nat.ne_of_lt (Nat.lt_of_lt_of_le (Heap.lt_size e) I.ok.above)
  have neC : ∀ b o, X.s₀.heap.get? b = some o → b ∉ X.ex → b ∉ ch := fun b o e hx hb => by
    rcases (hch b hb).1 with z | z
    · exact hx z
    · exact absurd (Nat.lt_of_lt_of_le (Heap.lt_size e) z) (Nat.lt_irrefl _)
  have cellK : ∀ x c, X.env.cells.lookup x = some c → ∀ v, s.heap.IsCell c v → h'.IsCell c v := fun x c e v ⟨o, ho, hd⟩ => by
    have nch : c ∉ ch := fun z => (hch c z).2.2.1 x c e rfl
    by_cases hc : c ∈ X.fs
    · obtain ⟨sl, q⟩ := slot c o (I.cne x c e) hc nch ho (I.freeC x c e)
      exact ⟨_, q, hd⟩
    · exact ⟨o, keep c o (I.cne x c e) hc nch ho (I.freeC x c e), hd⟩
  refine ⟨I.ok, I.os, hg, ⟨fun b o e n hb hx => ?_, fun b o e n hb hx => ?_, fun b o e n hx => ?_, fun b o e hx => ?_, fun b xs e => tups b xs (I.base.tups b xs e), fun b o xs e => frzs b o xs (I.base.frzs b o xs e), fun b ps e => ?_⟩, ?_, fun x c e => ?_, ?_, fun x c e => ?_, fun p hp => ?_, hok, I.len⟩
  · exact keep b o (neL b o e) hb (neC b o e hx) (I.base.keep b o e n hb hx) (I.base.free b o e n hx)
  · obtain ⟨sl, e1⟩ := I.base.slot b o e n hb hx
    obtain ⟨sl', e2⟩ := slot b _ (neL b o e) hb (neC b o e hx) e1 (I.base.free b o e n hx)
    exact ⟨sl', e2⟩
  · obtain ⟨o', e1⟩ := I.base.there b o e hx
    exact free b o' (neC b o e hx) e1 (I.base.free b o e n hx)
  · obtain ⟨o', e1⟩ := I.base.there b o e hx
    exact there b o' (neC b o e hx) e1
  · obtain ⟨m1, e1⟩ := I.base.tbls b ps e
    obtain ⟨m2, e2⟩ := tbls b _ e1
    exact ⟨m1 ++ m2, by rw [e2, Array.append_assoc]⟩
  · obtain ⟨m, hn, hl⟩ := I.loc
    refine ⟨m, ns m hn, fun i x v e1 e2 e3 => ?_⟩
    obtain ⟨u, r, l⟩ := hl i x v e1 e2 e3
    refine ⟨u, r, ?_⟩
    rcases l with l | ⟨k, c, e, z⟩
    · exact .inl l
    · exact .inr ⟨k, c, e, cellK x c e _ z⟩
  · obtain ⟨v, z⟩ := I.cell x c e
    exact ⟨v, cellK x c e v z⟩
  · obtain ⟨m, ⟨o, _, _, ho, _⟩, _⟩ := I.loc
    exact free _ o (fun z => (hch _ z).2.1 rfl) ho I.free
  · obtain ⟨v, o, ho, hd⟩ := I.cell x c e
    exact free c o (fun z => (hch c z).2.2.1 x c e rfl) ho (I.freeC x c e)
  · obtain ⟨e, n, ne, nf, d⟩ := I.pin p hp
    have nch : p.1 ∉ ch := fun z => (hch p.1 z).2.2.2 p hp rfl
    exact ⟨keep p.1 p.2 ne nf nch e n, free p.1 p.2 nch e n, ne, nf, d⟩
/-- .. where the frame's own object is kept too -/
theorem Inv.un {t' : Nat} (I : Inv X pins σ H s) (u : Un X.fs [] H H' s.heap h') (hok : HOk X.prog X.w H' h') : Inv X pins σ H' { s with heap := h', toks := t' } := by
  obtain ⟨m, ⟨o, es, ep, ho, r⟩, _⟩ := id I.loc
  obtain ⟨sl, hL⟩ := u.any ho I.free (by simp)
  exact I.step (g' := s.gens) (d' := s.drawn) (ch := []) (fun _ z => nomatch z) (fun b o _ hb _ e n => u.keep b o e n hb (by simp)) (fun b o _ hb _ e n => u.slot b o e n hb (by simp)) (fun b o _ e n => u.free b o e n (by simp)) (fun b o _ e => u.there b o e (by simp)) u.tups u.frzs u.tbls (fun m' hm => by
    obtain ⟨o', es', ep', ho', r'⟩ := hm
    rw [ho] at ho'; cases ho'
    exact ⟨_, es', ep', hL, r'⟩) hok I.bare
/-- behind a call (or a comprehension's block): the slots of this frame may have changed too, the records at ch may have turned -/
theorem Inv.call {g' : Array GenState} {t' : Nat} {d' : Drawn} {ch : List Addr} (I : Inv X pins σ H s) (u : Un (frs X.stack) ch H H' s.heap h') (hok : HOk X.prog X.w H' h') (hg : AllBare g')
    (hch : ∀ b ∈ ch, (b ∈ X.ex ∨ X.s₀.heap.objs.size ≤ b) ∧ b ≠ X.env.locals ∧ (∀ x c, X.env.cells.lookup x = some c → c ≠ b) ∧ ∀ p ∈ X.pn ++ pins, p.1 ≠ b) :
    Inv X pins σ H' { s with heap := h', gens := g', drawn := d', toks := t' } := by
  obtain ⟨m, ⟨o, es, ep, ho, r⟩, _⟩ := id I.loc
  obtain ⟨sl, hL⟩ := u.any ho I.free fun z => (hch _ z).2.1 rfl
  exact I.step (ch := ch) hch (fun b o hL hb hc e n => u.keep b o e n (fun z => (List.mem_cons.mp (I.stkSub b z)).elim hL hb) hc) (fun b o _ _ hc e n => u.any e n hc) (fun b o hc e n => u.free b o e n hc) (fun b o hc e => u.there b o e hc) u.tups u.frzs u.tbls (fun m' hm => by
    obtain ⟨o', es', ep', ho', r'⟩ := hm
    rw [ho] at ho'; cases ho'
    exact ⟨_, es', ep', hL, r'⟩) hok hg
/-- an untracked record of ours (an iterator) has turned -/
theorem Inv.turned {t' : Nat} {it : Addr} (I : Inv X pins σ H s) (k : ∀ b o, b ≠ it → s.heap.get? b = some o → h'.get? b = some o) (hn : H it = none) (hL : it ≠ X.env.locals)
    (h1 : it ∈ X.ex ∨ X.s₀.heap.objs.size ≤ it) (h2 : ∀ x c, X.env.cells.lookup x = some c → c ≠ it) (h3 : ∀ p ∈ X.pn ++ pins, p.1 ≠ it) : Inv X pins σ H { s with heap := h', toks := t' } := by
  have nit : ∀ b u, H b = some u → b ≠ it := fun b u e z => by rw [z, hn] at e; cases e
  refine I.step (g' := s.gens) (d' := s.drawn) (ch := [it]) (fun b hb => ?_) (fun b o _ _ hc e _ => k b o (fun z => hc (by simp [z])) e) (fun b o _ _ hc e _ => ⟨o.slots, k b o (fun z => hc (by simp [z])) e⟩) (fun _ _ _ _ n => n)
    (fun b o hc e => ⟨o, k b o (fun z => hc (by simp [z])) e⟩) (fun _ _ e => e) (fun _ _ _ e => e) (fun b ps e => ⟨#[], by rw [e]; simp⟩) (fun m hm => ?_) (fun b u e => ?_) I.bare
  · have e : b = it := by simpa using hb
    subst e
    exact ⟨h1, hL, h2, h3⟩
  · obtain ⟨o, es, ep, ho, r⟩ := hm
    exact ⟨o, es, ep, k _ o (Ne.symm hL) ho, r⟩
  · refine (I.hok b u e).stay (fun c v hc q => k c v ?_ q) (fun _ q => q) fun _ _ q => q
    rcases hc with z | z
    · rw [z]; exact nit b u e
    · exact nit c _ z
theorem Inv.tok (I : Inv X pins σ H s) (t : Nat) : Inv X pins σ H { s with toks := t } := I.un (h' := s.heap) (t' := t) Un.refl I.hok
/-- all objects kept -/
theorem Inv.kept {t' : Nat} (I : Inv X pins σ H s) (k : ∀ b u, s.heap.get? b = some u → h'.get? b = some u) : Inv X pins σ H { s with heap := h', toks := t' } := I.un (Un.kept k) (I.hok.kept k)
/-- a new object laid and tracked -/
theorem Inv.laid {a : Addr} {o : HO} {t' : Nat} (I : Inv X pins σ H s) (k : ∀ b u, s.heap.get? b = some u → h'.get? b = some u) (hp : s.heap.objs.size ≤ a) (new : ObjOk X.prog X.w (upd H a o) h' a o) :
    Inv X pins σ (upd H a o) { s with heap := h', toks := t' } := I.un (Un.laid k hp (I.hok.fresh hp)) (I.hok.laid k hp new)
/-- an object written -/
theorem Inv.write {x e : Addr} {o : HO} {t' : Nat} (I : Inv X pins σ H s) (mu : Mut (H x)) (he : e = x ∨ H e = some (.own x)) (k : ∀ b u, b ≠ e → s.heap.get? b = some u → h'.get? b = some u) (heo : ∃ u, h'.get? e = some u)
    (new : ObjOk X.prog X.w (upd H x o) h' x o) : Inv X pins σ (upd H x o) { s with heap := h', toks := t' } := I.un (Un.write mu he k heo) (I.hok.write mu he k heo new)
theorem Inv.pins_of {pins' : List (Addr × Obj)} (I : Inv X pins σ H s) (h : ∀ p ∈ pins', s.heap.get? p.1 = some p.2 ∧ H p.1 = none ∧ p.1 ≠ X.env.locals ∧ p.1 ∉ X.fs ∧ ∀ v, p.2.data ≠ .cell v) : Inv X pins' σ H s :=
  ⟨I.ok, I.os, I.bare, I.base, I.loc, I.cell, I.free, I.freeC, fun p hp => (List.mem_append.mp hp).elim (fun z => I.pin p (List.mem_append_left _ z)) (h p), I.hok, I.len⟩

theorem nodup_ix {N : List Str} (hN : N.Nodup) {i j : Nat} {x : Str} (a : N[i]? = some x) (b : N[j]? = some x) : i = j := by
  obtain ⟨h1, e1⟩ := List.getElem?_eq_some_iff.mp a
  obtain ⟨h2, e2⟩ := List.getElem?_eq_some_iff.mp b
  exact (List.getElem_inj hN).mp (e1.trans e2.symm)

/-- a name is stored; what changed -/
theorem store_ok2 {M : Model} {A : Around} {E : Value → Shared → Prop} {i : Nat} {x : Str} {v : V} {u : Value} {Q : Unit → Shared → Prop} (I : Inv X pins σ H s) (hN : X.N.Nodup) (hi : X.N[i]? = some x) (hx : Loc X.env.scope x) (r : RelV v u)
    (h : ∀ s', Inv X pins (σ.set i (some v)) H s' → (∃ a, Heap.SameBut a s.heap s'.heap ∧ (a = X.env.locals ∨ X.env.cells.lookup x = some a)) → Q () s') (hf : X.fn x = true ∨ X.env.scope.names.lookup x = some .local := by first | exact .inl rfl | exact .inr rfl | assumption) : wpAny M A (storeName X.env x u) Q E s := by
  obtain ⟨m, hn, hl⟩ := id I.loc
  have hcls : (X.env.scope.kind == .class || (X.env.scope.kind == .module && X.env.locals != X.env.globals)) = false := by rw [I.ok.kind]; rfl
  have hiσ : i < σ.length := by rw [I.len]; exact (List.getElem?_eq_some_iff.mp hi).1
  have cne := I.cne
  have tracked : ∀ {a : Addr} {h' : Heap}, (∃ o, s.heap.get? a = some o ∧ H a = none) → Heap.SameBut a s.heap h' → HOk X.prog X.w H h' := fun {a h'} ha hs b ob e => by
    obtain ⟨_, _, hfree⟩ := ha
    refine (I.hok b ob e).stay (fun c w' hc q => (hs.2 c ?_).trans q) (fun _ q => q) fun _ _ q => q
    rintro rfl
    rcases hc with rfl | hc
    · rw [hfree] at e; cases e
    · rw [hfree] at hc; cases hc
  rcases hx with hk | hk
  · refine wpAny_storeName_local hk hn (fun h' hn' hs => ?_) hcls
    obtain ⟨oL, _, _, hoL, _⟩ := id hn
    refine h _ ⟨I.ok, I.os, I.bare, ⟨fun b o e n hb hx => ?_, fun b o e n hb hx => ?_, I.base.free, fun b o e hx => ?_, I.base.tups, I.base.frzs, I.base.tbls⟩, ⟨_, hn', fun j y v' e1 e2 e3 => ?_⟩, fun y c e => ?_, I.free, I.freeC, fun p hp => ?_, tracked ⟨oL, hoL, I.free⟩ hs, by simpa using I.len⟩ ⟨_, hs, .inl rfl⟩
    · exact (hs.2 b (Nat.ne_of_lt (Nat.lt_of_lt_of_le (Heap.lt_size e) I.ok.above))).trans (I.base.keep b o e n hb hx)
    · obtain ⟨sl, e1⟩ := I.base.slot b o e n hb hx
      exact ⟨sl, (hs.2 b (Nat.ne_of_lt (Nat.lt_of_lt_of_le (Heap.lt_size e) I.ok.above))).trans e1⟩
    · obtain ⟨o', e1⟩ := I.base.there b o e hx
      exact ⟨o', (hs.2 b (Nat.ne_of_lt (Nat.lt_of_lt_of_le (Heap.lt_size e) I.ok.above))).trans e1⟩
    · by_cases hj : j = i
      · subst hj
        rw [hi] at e1; cases e1
        rw [List.getElem?_set_self hiσ] at e2
        cases e2
        exact ⟨u, r, .inl ⟨hk, by simp⟩⟩
      · rw [List.getElem?_set_ne (Ne.symm hj)] at e2
        obtain ⟨u', r', q⟩ := hl j y v' e1 e2 e3
        refine ⟨u', r', ?_⟩
        rcases q with ⟨k, e⟩ | ⟨k, c, e, z⟩
        · refine .inl ⟨k, ?_⟩
          have : y ≠ x := fun e => hj (nodup_ix hN e1 (e ▸ hi))
          simp [this, e]
        · exact .inr ⟨k, c, e, z.sameBut hs (cne y c e)⟩
    · obtain ⟨w', z⟩ := I.cell y c e
      exact ⟨w', z.sameBut hs (cne y c e)⟩
    · obtain ⟨e, n, ne, nf, d⟩ := I.pin p hp
      exact ⟨(hs.2 p.1 ne).trans e, n, ne, nf, d⟩
  · have hfn : X.fn x = true := by
      rcases hf with z | z
      · exact z
      · rw [z] at hk; cases hk
    obtain ⟨c, hc⟩ := I.ok.has x (.inl hk)
    obtain ⟨w', z⟩ := I.cell x c hc
    refine wpAny_storeName_cell I.ok.kind hk hc z (fun h' hc' hs => ?_)
    obtain ⟨oc, hoc, hocd⟩ := id z
    refine h { s with heap := h' } ⟨I.ok, I.os, I.bare, ⟨fun b o e n hb hx => ?_, fun b o e n hb hx => ?_, I.base.free, fun b o e hx => ?_, I.base.tups, I.base.frzs, I.base.tbls⟩, ⟨m, hn.sameBut hs (Ne.symm (cne x c hc)), fun j y v' e1 e2 e3 => ?_⟩, fun y c' e => ?_, I.free, I.freeC, fun p hp => ?_, tracked ⟨oc, hoc, I.freeC x c hc⟩ hs, by simpa using I.len⟩ ⟨c, hs, .inr hc⟩
    · exact (hs.2 b (Nat.ne_of_lt (Nat.lt_of_lt_of_le (Heap.lt_size e) (I.ok.cab x c hfn hc)))).trans (I.base.keep b o e n hb hx)
    · obtain ⟨sl, e1⟩ := I.base.slot b o e n hb hx
      exact ⟨sl, (hs.2 b (Nat.ne_of_lt (Nat.lt_of_lt_of_le (Heap.lt_size e) (I.ok.cab x c hfn hc)))).trans e1⟩
    · obtain ⟨o', e1⟩ := I.base.there b o e hx
      exact ⟨o', (hs.2 b (Nat.ne_of_lt (Nat.lt_of_lt_of_le (Heap.lt_size e) (I.ok.cab x c hfn hc)))).trans e1⟩
    · by_cases hj : j = i
      · subst hj
        rw [hi] at e1; cases e1
        rw [List.getElem?_set_self hiσ] at e2
        cases e2
        exact ⟨u, r, .inr ⟨.inl hk, c, hc, hc'⟩⟩
      · rw [List.getElem?_set_ne (Ne.symm hj)] at e2
        obtain ⟨u', r', q⟩ := hl j y v' e1 e2 e3
        refine ⟨u', r', ?_⟩
        rcases q with q | ⟨k, c', e, z'⟩
        · exact .inl q
        · refine .inr ⟨k, c', e, z'.sameBut hs ?_⟩
          rintro rfl
          exact hj (nodup_ix hN e1 (I.ok.inj _ _ _ e hc ▸ hi))
    · by_cases hcc : c' = c
      · subst hcc; exact ⟨_, hc'⟩
      · obtain ⟨w2, z2⟩ := I.cell y c' e
        exact ⟨w2, z2.sameBut hs hcc⟩
    · obtain ⟨e, n, ne, nf, d⟩ := I.pin p hp
      refine ⟨(hs.2 p.1 ?_).trans e, n, ne, nf, d⟩
      intro q
      rw [q, hoc] at e
      have q' : oc = p.2 := Option.some.inj e
      exact d w' (by rw [← q']; exact hocd)
theorem store_ok {M : Model} {A : Around} {E : Value → Shared → Prop} {i : Nat} {x : Str} {v : V} {u : Value} {Q : Unit → Shared → Prop} (I : Inv X pins σ H s) (hN : X.N.Nodup) (hi : X.N[i]? = some x) (hx : Loc X.env.scope x) (r : RelV v u)
    (h : ∀ s', Inv X pins (σ.set i (some v)) H s' → Q () s') (hf : X.fn x = true ∨ X.env.scope.names.lookup x = some .local := by first | exact .inl rfl | exact .inr rfl | assumption) : wpAny M A (storeName X.env x u) Q E s :=
  store_ok2 I hN hi hx r (fun s' I' _ => h s' I') hf
/-- behind a call or a block, the state as it is -/
theorem Inv.call' {s' : Shared} {ch : List Addr} (I : Inv X pins σ H s) (ho : s'.os = s.os) (u : Un (frs X.stack) ch H H' s.heap s'.heap) (hok : HOk X.prog X.w H' s'.heap) (hg : AllBare s'.gens)
    (hch : ∀ b ∈ ch, (b ∈ X.ex ∨ X.s₀.heap.objs.size ≤ b) ∧ b ≠ X.env.locals ∧ (∀ x c, X.env.cells.lookup x = some c → c ≠ b) ∧ ∀ p ∈ X.pn ++ pins, p.1 ≠ b) : Inv X pins σ H' s' := by
  obtain ⟨h', g', d', t', o'⟩ := s'
  have e : o' = s.os := ho
  subst e
  exact I.call (g' := g') (t' := t') (d' := d') u hok hg hch
end

/-! ### the judgements -/
/-- an exception: its class, its own dict's address (where it has one), the abstract heap behind it -/
abbrev XK := Value → Option Addr → Hp → Prop
abbrev St := List (Option V)
abbrev VK := V → Hp → Prop
/-- an expression's reading; a test's; an argument list's -/
abbrev TE := St → Hp → VK → Prop
abbrev TT := St → Hp → (Bool → Hp → Prop) → Prop
abbrev TA := St → Hp → (List V → Hp → Prop) → Prop
/-- what is wanted behind a statement -/
structure Ends where
  nx : St → Hp → Prop
  rt : VK
  bk : St → Hp → Prop := fun _ _ => False
  ct : St → Hp → Prop := fun _ _ => False
abbrev TS := Ends → St → Hp → Prop

def EP (X : Cx) (pins : List (Addr × Obj)) (σ : St) (Q : VK) (u : Value) (s' : Shared) : Prop := ∃ v H', Inv X pins σ H' s' ∧ RelV v u ∧ Q v H'
def TP (X : Cx) (pins : List (Addr × Obj)) (σ : St) (Q : Bool → Hp → Prop) (b : Bool) (s' : Shared) : Prop := ∃ H', Inv X pins σ H' s' ∧ Q b H'
def AP (X : Cx) (pins : List (Addr × Obj)) (σ : St) (Q : List V → Hp → Prop) (us : List Value) (s' : Shared) : Prop := ∃ vs H', Inv X pins σ H' s' ∧ Vals vs us ∧ Q vs H'
def SP (X : Cx) (pins : List (Addr × Obj)) (D : Ends) (f : Flow) (s' : Shared) : Prop :=
  match f with
  | .next => ∃ σ' H', Inv X pins σ' H' s' ∧ D.nx σ' H'
  | .brk => ∃ σ' H', Inv X pins σ' H' s' ∧ D.bk σ' H'
  | .cont => ∃ σ' H', Inv X pins σ' H' s' ∧ D.ct σ' H'
  | .ret u => ∃ v σ' H', Inv X pins σ' H' s' ∧ RelV v u ∧ D.rt v H'

def PE (X : Cx) (e : Expr) (t : TE) : Prop :=
  ∀ (pins : List (Addr × Obj)) (s : Shared) (σ : St) (H : Hp) (Q : VK), Inv X pins σ H s → t σ H Q → wpAny (model X.prog X.w) X.A (eval e X.env) (EP X pins σ Q) X.xe s
def PT (X : Cx) (e : Expr) (t : TT) : Prop :=
  ∀ (pins : List (Addr × Obj)) (s : Shared) (σ : St) (H : Hp) (Q : Bool → Hp → Prop), Inv X pins σ H s → t σ H Q → wpAny (model X.prog X.w) X.A (isTrue e X.env (eval e X.env)) (TP X pins σ Q) X.xe s
/-- a test whatever its 'whole' is (and, or) -/
def PW (X : Cx) (e : Expr) (t : TT) : Prop :=
  ∀ (whole : Sem Value) (pins : List (Addr × Obj)) (s : Shared) (σ : St) (H : Hp) (Q : Bool → Hp → Prop), Inv X pins σ H s → t σ H Q → wpAny (model X.prog X.w) X.A (isTrue e X.env whole) (TP X pins σ Q) X.xe s
theorem PW.pt {X : Cx} {e : Expr} {t : TT} (h : PW X e t) : PT X e t := h _
/-- an argument list (no star), from the left -/
def PA (X : Cx) (es : List Expr) (t : TA) : Prop :=
  ∀ (pos : Pos) (pins : List (Addr × Obj)) (s : Shared) (σ : St) (H : Hp) (Q : List V → Hp → Prop), Inv X pins σ H s → t σ H Q → wpAny (model X.prog X.w) X.A (spliced (backTo pos (starEach es X.env))) (AP X pins σ Q) X.xe s
def PS (X : Cx) (st : Stmt) (t : TS) : Prop :=
  ∀ (pins : List (Addr × Obj)) (s : Shared) (σ : St) (H : Hp) (D : Ends), Inv X pins σ H s → t D σ H → wpAny (model X.prog X.w) X.A (exec st X.env) (SP X pins D) X.xe s
def PSs (X : Cx) (st : List Stmt) (t : TS) : Prop :=
  ∀ (pins : List (Addr × Obj)) (s : Shared) (σ : St) (H : Hp) (D : Ends), Inv X pins σ H s → t D σ H → wpAny (model X.prog X.w) X.A (execs st X.env) (SP X pins D) X.xe s
/-- weaken the end -/
theorem thn {α : Type} {t : Sem α} {Q Q' : α → Shared → Prop} {M : Model} {A : Around} {E : Value → Shared → Prop} {s : Shared} (h : wpAny M A t Q E s) (hQ : ∀ a s, Q a s → Q' a s) : wpAny M A t Q' E s := wpAny_mono h hQ fun _ _ x => x
end L2

namespace L2
open PySem PySem.Spec PyProof.Rows
section
variable {X : Cx}

/-! ### names and constants -/
def tVar (i : Nat) : TE := fun σ H Q => ∃ v, σ[i]? = some (some v) ∧ Q v H
def tC (v : V) : TE := fun _ H Q => Q v H
theorem pe_var {i : Nat} {x : Str} {pos : Pos} (hN : X.N[i]? = some x) (hv : Vis X.env.scope x) (hd : (x == ("__debug__" : Str)) = false := by decide) (hcd : (x == ("__classdict__" : Str)) = false := by decide) : PE X (.Name x pos) (tVar i) := by
  intro pins s σ H Q I h
  obtain ⟨v, e, h⟩ := h
  obtain ⟨m, hn, hl⟩ := I.loc
  obtain ⟨u, r, l⟩ := hl i x v hN e hv
  have fin : EP X pins σ Q u s := ⟨v, H, I, r, h⟩
  rcases l with ⟨hk, hm⟩ | ⟨hk, c, hc, hcell⟩
  · exact wpAny_Name (wpAny_loadName_local I.ok.kind hk hn hm fin) hd
  · rcases hk with hk | hk
    · exact wpAny_Name (wpAny_loadName_cell I.ok.kind hk hc hcell fin) hd
    · exact wpAny_Name (wpAny_loadName_free I.ok.kind hk hc hcell fin hcd) hd
theorem pe_int {i j pos} : PE X (.Constant (.int i) j pos) (tC (.int i)) := fun _ _ _ H _ I h => wpAny_Constant_int ⟨.int i, H, I.tok _, ⟨_, rfl⟩, h⟩
theorem pe_bl {b j pos} : PE X (.Constant (.bool b) j pos) (tC (.bl b)) := fun _ _ _ H _ I h => Constant_bool ⟨.bl b, H, I, rfl, h⟩
theorem pe_non {j pos} : PE X (.Constant .none j pos) (tC .non) := fun _ _ _ H _ I h => Constant_none ⟨.non, H, I, rfl, h⟩
theorem pe_str {x j pos} : PE X (.Constant (.str x) j pos) (tC (.str x)) := fun _ _ _ H _ I h => Calls.Constant_str ⟨.str x, H, I.tok _, ⟨_, rfl⟩, h⟩

/-- a global name of the def -/
def Gl (X : Cx) (x : Str) : Prop := X.env.kindOf x = some .globalImplicit
theorem ld_glob {E : Value → Shared → Prop} {pins : List (Addr × Obj)} {s : Shared} {σ : St} {H : Hp} {x : Str} {u : Value} {pos : Pos} {Q : Value → Shared → Prop} (I : Inv X pins σ H s) (hg : Gl X x) (hm : X.mg x = some u) (h : Q u s)
    (hd : (x == ("__debug__" : Str)) = false := by decide) : wpAny (model X.prog X.w) X.A (eval (.Name x pos) X.env) Q E s :=
  Calls.Name_function_global I.ok.kind hg (Calls.loadGlobal_global (by rw [I.ok.glob]; exact I.mod.glob.keeps I.bk) hm h) hd
theorem ld_blt {E : Value → Shared → Prop} {pins : List (Addr × Obj)} {s : Shared} {σ : St} {H : Hp} {x : Str} {u : Value} {pos : Pos} {Q : Value → Shared → Prop} (I : Inv X pins σ H s) (hg : Gl X x) (hm : X.mg x = none) (hv : bootBuiltins x = some u) (h : Q u s)
    (hn : x ≠ "__name__" := by decide) (hd : (x == ("__debug__" : Str)) = false := by decide) : wpAny (model X.prog X.w) X.A (eval (.Name x pos) X.env) Q E s := by
  obtain ⟨mb, h1, h2⟩ := I.mod.blt
  exact Calls.Name_function_global I.ok.kind hg (Calls.loadGlobal_builtin (by rw [I.ok.glob]; exact I.mod.glob.keeps I.bk) hm (by rw [I.ok.blt]; exact h1.keeps I.bk) ((h2 x hn).trans hv) h) hd
/-- a module's constant, a class, a function, as a value -/
theorem pe_glob {x : Str} {v : V} {u : Value} {pos : Pos} (hg : Gl X x) (hm : X.mg x = some u) (r : RelV v u) (hd : (x == ("__debug__" : Str)) = false := by decide) : PE X (.Name x pos) (tC v) :=
  fun _ _ _ H _ I h => ld_glob I hg hm ⟨v, H, I, r, h⟩ hd
theorem pe_bltn {x : Str} {v : V} {u : Value} {pos : Pos} (hg : Gl X x) (hm : X.mg x = none) (hv : bootBuiltins x = some u) (r : RelV v u) (hn : x ≠ "__name__" := by decide) (hd : (x == ("__debug__" : Str)) = false := by decide) : PE X (.Name x pos) (tC v) :=
  fun _ _ _ H _ I h => ld_blt I hg hm hv ⟨v, H, I, r, h⟩ hn hd

/-! ### arithmetic -/
variable {a b : Expr} {ta tb : TE} {pos : Pos}
/-! ### comparisons -/
/-- a comparison as a value, as a test -/
def tB (t : TE) : TT := fun σ H Q => t σ H fun x H1 => ∃ c, x = .bl c ∧ Q c H1
/-- an expression whose value is a bool, as a test -/
theorem pt_val {e : Expr} {t : TE} (h : PE X e t) (he : ∀ whole, isTrue e X.env whole = (do let v ← whole; standAt e.pos; holding [v] (truthy v)) := by intro _; rfl) : PT X e (tB t) := by
  intro pins s σ H Q I hw
  refine isTrue_plain (thn (h pins s σ H _ I hw) fun v s1 ⟨x, H1, I1, r1, q1⟩ => ?_) (he _)
  obtain ⟨d, rfl, q⟩ := q1
  cases r1
  exact wpAny_truthy_bool ⟨H1, I1, q⟩

/-! ### and, or, not -/
variable {tA tB' : TT} {rest : List Expr}
def tAnd (t u : TT) : TT := fun σ H Q => t σ H fun c H1 => if c = true then u σ H1 Q else Q false H1
def tOr (t u : TT) : TT := fun σ H Q => t σ H fun c H1 => if c = true then Q true H1 else u σ H1 Q
def tNot (t : TT) : TT := fun σ H Q => t σ H fun c H1 => Q (!c) H1
theorem pw_and1 (ha : PT X a tA) : PW X (.BoolOp .And [a] pos) tA := by
  intro wh pins s σ H Q I h
  refine isTrue_and (thn (ha pins s σ H Q I h) fun c s1 e => ?_)
  cases c with
  | true => exact isTrue_and_nil e
  | false => exact e
theorem pw_or1 (ha : PT X a tA) : PW X (.BoolOp .Or [a] pos) tA := by
  intro wh pins s σ H Q I h
  refine isTrue_or (thn (ha pins s σ H Q I h) fun c s1 e => ?_)
  cases c with
  | false => exact isTrue_or_nil e
  | true => exact e
theorem pw_and (ha : PT X a tA) (hb : PW X (.BoolOp .And (b :: rest) pos) tB') : PW X (.BoolOp .And (a :: b :: rest) pos) (tAnd tA tB') := by
  intro wh pins s σ H Q I h
  refine isTrue_and (thn (ha pins s σ H _ I h) fun c s1 ⟨H1, I1, q1⟩ => ?_)
  cases c with
  | true => exact hb wh pins s1 σ H1 Q I1 q1
  | false => exact ⟨H1, I1, q1⟩
theorem pw_or (ha : PT X a tA) (hb : PW X (.BoolOp .Or (b :: rest) pos) tB') : PW X (.BoolOp .Or (a :: b :: rest) pos) (tOr tA tB') := by
  intro wh pins s σ H Q I h
  refine isTrue_or (thn (ha pins s σ H _ I h) fun c s1 ⟨H1, I1, q1⟩ => ?_)
  cases c with
  | true => exact ⟨H1, I1, q1⟩
  | false => exact hb wh pins s1 σ H1 Q I1 q1
theorem pt_not (ha : PT X a tA) : PT X (.UnaryOp .Not a pos) (tNot tA) := by
  intro pins s σ H Q I h
  exact isTrue_not (ha pins s σ H (fun c H1 => Q (!c) H1) I h)
/-- .. as values (bools) -/
def tAndV (ta tb : TE) : TE := fun σ H Q => ta σ H fun x H1 => ∃ c, x = .bl c ∧ if c = true then tb σ H1 Q else Q (.bl false) H1
def tNotV (ta : TE) : TE := fun σ H Q => ta σ H fun x H1 => ∃ c, x = .bl c ∧ Q (.bl (!c)) H1
theorem pe_one {op} {t : TE} (h : PE X a t) : PE X (.BoolOp op [a] pos) t := fun pins s σ H Q I hw => BoolOp_one (h pins s σ H Q I hw)
theorem pe_and (ha : PE X a ta) (hb : PE X (.BoolOp .And (b :: rest) pos) tb) : PE X (.BoolOp .And (a :: b :: rest) pos) (tAndV ta tb) := by
  intro pins s σ H Q I h
  refine BoolOp_and (thn (ha pins s σ H _ I h) fun v s1 ⟨x, H1, I1, r1, q1⟩ => ?_)
  obtain ⟨c, rfl, q1⟩ := q1
  cases r1
  refine wpAny_truthy_bool ?_
  cases c with
  | true => exact hb pins s1 σ H1 Q I1 q1
  | false => exact ⟨.bl false, H1, I1, rfl, q1⟩
theorem pe_not (ha : PE X a ta) : PE X (.UnaryOp .Not a pos) (tNotV ta) := by
  intro pins s σ H Q I h
  refine UnaryOp_ (thn (ha pins s σ H _ I h) fun v s1 ⟨x, H1, I1, r1, q1⟩ => ?_)
  obtain ⟨c, rfl, q1⟩ := q1
  cases r1
  exact not_of (wpAny_truthy_bool ⟨.bl (!c), H1, I1, rfl, q1⟩)
/-- a if t else b -/
def tIf (t : TT) (ta tb : TE) : TE := fun σ H Q => t σ H fun c H1 => if c = true then ta σ H1 Q else tb σ H1 Q
theorem pe_ifExp {c : Expr} (hc : PT X c tA) (ha : PE X a ta) (hb : PE X b tb) : PE X (.IfExp c a b pos) (tIf tA ta tb) := by
  intro pins s σ H Q I h
  refine wpAny_IfExp (thn (hc pins s σ H _ I h) fun d s1 ⟨H1, I1, q1⟩ => ?_)
  cases d with
  | true => exact ha pins s1 σ H1 Q I1 q1
  | false => exact hb pins s1 σ H1 Q I1 q1
end
end L2

namespace L2
open PySem PySem.Spec PyProof.Rows

/-! ### a list, a tuple that is read: tracked, frozen, or an object of the module -/
def SqL (K : PySem.W.Frag) (H : Hp) (a : Addr) (xs : List V) : Prop :=
  Rd H a (.lst xs) ∨
    ∃ (o : Obj) (its : Array Value) (n : Nat), K.lookup a = some o ∧ o.cls = .type "list" ∧ o.dict = none ∧ o.data = .seq its n ∧ its.size ≤ sizeLine ∧ Vals xs its.toList
def SqT (K : PySem.W.Frag) (H : Hp) (a : Addr) (xs : List V) : Prop :=
  Rd H a (.tup xs) ∨
    ∃ (o : Obj) (its : Array Value) (n : Nat), K.lookup a = some o ∧ o.cls = .type "tuple" ∧ o.data = .seq its n ∧ its.size ≤ sizeLine ∧ Vals xs its.toList
def absV : Value → Option V
  | .none => some .non
  | .bool b => some (.bl b)
  | .int i _ => some (.int i)
  | .str x _ => some (.str x)
  | .bytes b _ => some (.byt b)
  | .float b _ => some (.flt b)
  | .ref a => some (.ref a)
  | .type n => some (.ty n)
  | _ => none
theorem RelV.abs {x : V} {u : Value} (r : RelV x u) : absV u = some x := by
  cases x with
  | non => cases r; rfl
  | bl _ => cases r; rfl
  | int _ => obtain ⟨t, rfl⟩ := r; rfl
  | str _ => obtain ⟨t, rfl⟩ := r; rfl
  | byt _ => obtain ⟨t, rfl⟩ := r; rfl
  | flt _ => obtain ⟨t, rfl⟩ := r; rfl
  | ref _ => cases r; rfl
  | ty _ => cases r; rfl
theorem RelV.inj {x y : V} {u : Value} (r : RelV x u) (q : RelV y u) : x = y := Option.some.inj (r.abs.symm.trans q.abs)
theorem Vals.inj : ∀ {xs ys : List V} {us : List Value}, Vals xs us → Vals ys us → xs = ys
  | _, _, _, .nil, .nil => rfl
  | _, _, _, .cons r t, .cons r' t' => by rw [r.inj r', Vals.inj t t']
section
variable {X : Cx} {pins : List (Addr × Obj)} {σ : St} {H : Hp} {s : Shared} {a : Addr} {xs ys : List V}
theorem SqL.of {K : PySem.W.Frag} (h : H a = some (.lst xs)) : SqL K H a xs := .inl (.inl h)
theorem SqT.of {K : PySem.W.Frag} (h : H a = some (.tup xs)) : SqT K H a xs := .inl (.inl h)
theorem Inv.list (I : Inv X pins σ H s) (h : SqL X.K H a xs) : ∃ its : List Value, Vals xs its ∧ PlainL s.heap a its.toArray ∧ xs.length ≤ sizeLine := by
  rcases h with h | ⟨o, its, n, hk, hc, hd, hs, hz, r⟩
  · obtain ⟨z, its, n, r, e⟩ := h.ok I.hok
    exact ⟨its, r, ⟨_, n, e, rfl, rfl, rfl⟩, z⟩
  · refine ⟨its.toList, r, ⟨o, n, I.kIn a o hk, hc, hd, by simpa using hs⟩, ?_⟩
    have e := r.length
    simp only [Array.length_toList] at e
    omega
theorem Inv.tuple (I : Inv X pins σ H s) (h : SqT X.K H a xs) : ∃ its : List Value, Vals xs its ∧ IsTup s.heap a its.toArray ∧ xs.length ≤ sizeLine := by
  rcases h with h | ⟨o, its, n, hk, hc, hs, hz, r⟩
  · obtain ⟨z, its, r, p⟩ := h.ok I.hok
    exact ⟨its, r, p, z⟩
  · refine ⟨its.toList, r, ⟨o, I.kIn a o hk, hc, n, by simpa using hs⟩, ?_⟩
    have e := r.length
    simp only [Array.length_toList] at e
    omega
theorem Inv.list_inj (I : Inv X pins σ H s) (h : SqL X.K H a xs) (h' : SqL X.K H a ys) : xs = ys := by
  obtain ⟨its, r, ⟨o, n, e, _, _, d⟩, _⟩ := I.list h
  obtain ⟨its', r', ⟨o', n', e', _, _, d'⟩, _⟩ := I.list h'
  rw [e] at e'; cases e'
  rw [d] at d'
  injection d' with d1 _
  have : its = its' := by simpa using congrArg Array.toList d1
  subst this
  exact r.inj r'
theorem Inv.tuple_inj (I : Inv X pins σ H s) (h : SqT X.K H a xs) (h' : SqT X.K H a ys) : xs = ys := by
  obtain ⟨its, r, ⟨o, e, _, n, d⟩, _⟩ := I.tuple h
  obtain ⟨its', r', ⟨o', e', _, n', d'⟩, _⟩ := I.tuple h'
  rw [e] at e'; cases e'
  rw [d] at d'
  injection d' with d1 _
  have : its = its' := by simpa using congrArg Array.toList d1
  subst this
  exact r.inj r'
end

/-! ### another wish about exceptions -/
abbrev Cx.wish (X : Cx) (E : Value → Shared → Prop) : Cx := { X with xe := E }
/-- no exception leaves -/
abbrev Cx.nox (X : Cx) : Cx := X.wish fun _ _ => False
theorem Cx.Ok.wish {X : Cx} (ok : X.Ok) (E : Value → Shared → Prop) : (X.wish E).Ok :=
  ⟨ok.mod, ok.kind, ok.glob, ok.blt, ok.above, ok.inj, ok.has, ok.cab, ok.hd, ok.frames, ok.stk, ok.exf, ok.bs, ok.bsz, ok.noex, ok.exfs, ok.funs, ok.frf⟩
theorem Cx.Ok.unwish {X : Cx} {E : Value → Shared → Prop} (ok : (X.wish E).Ok) : X.Ok :=
  ⟨ok.mod, ok.kind, ok.glob, ok.blt, ok.above, ok.inj, ok.has, ok.cab, ok.hd, ok.frames, ok.stk, ok.exf, ok.bs, ok.bsz, ok.noex, ok.exfs, ok.funs, ok.frf⟩
section
variable {X : Cx} {pins : List (Addr × Obj)} {σ : St} {H : Hp} {s : Shared} {E : Value → Shared → Prop}
theorem Inv.wish (I : Inv X pins σ H s) (E : Value → Shared → Prop) : Inv (X.wish E) pins σ H s := ⟨I.ok.wish E, I.os, I.bare, I.base, I.loc, I.cell, I.free, I.freeC, I.pin, I.hok, I.len⟩
theorem Inv.unwish (I : Inv (X.wish E) pins σ H s) : Inv X pins σ H s := ⟨I.ok.unwish, I.os, I.bare, I.base, I.loc, I.cell, I.free, I.freeC, I.pin, I.hok, I.len⟩
theorem SP.unwish {D : Ends} {f : Flow} {s' : Shared} (h : SP (X.wish E) pins D f s') : SP X pins D f s' := by
  cases f with
  | next => obtain ⟨σ', H', I, q⟩ := h; exact ⟨σ', H', I.unwish, q⟩
  | brk => obtain ⟨σ', H', I, q⟩ := h; exact ⟨σ', H', I.unwish, q⟩
  | cont => obtain ⟨σ', H', I, q⟩ := h; exact ⟨σ', H', I.unwish, q⟩
  | ret u => obtain ⟨v, σ', H', I, r, q⟩ := h; exact ⟨v, σ', H', I.unwish, r, q⟩
theorem PE.nox {e : Expr} {t : TE} (h : PE X.nox e t) : PE X e t := fun pins s σ H Q I hw =>
  wpAny_mono (h pins s σ H Q (I.wish _) hw) (fun _ _ ⟨v, H', I', r, q⟩ => ⟨v, H', I'.unwish, r, q⟩) fun _ _ z => False.elim z
theorem PT.nox {e : Expr} {t : TT} (h : PT X.nox e t) : PT X e t := fun pins s σ H Q I hw =>
  wpAny_mono (h pins s σ H Q (I.wish _) hw) (fun _ _ ⟨H', I', q⟩ => ⟨H', I'.unwish, q⟩) fun _ _ z => False.elim z
theorem PSs.nox {st : List Stmt} {t : TS} (h : PSs X.nox st t) : PSs X st t := fun pins s σ H D I hw =>
  wpAny_mono (h pins s σ H D (I.wish _) hw) (fun _ _ q => q.unwish) fun _ _ z => False.elim z
end

/-! ### blocks and small statements -/
section
variable {X : Cx} {st : Stmt} {rest : List Stmt} {t u : TS} {e : Expr} {te : TE} {pos : Pos}
def tNext : TS := fun D σ H => D.nx σ H
def tSeq (t u : TS) : TS := fun D σ H => t { D with nx := u D } σ H
theorem pss_nil : PSs X [] tNext := fun _ _ σ H _ I h => wpAny_execs_nil ⟨σ, H, I, h⟩
theorem pss_cons (h1 : PS X st t) (h2 : PSs X rest u) : PSs X (st :: rest) (tSeq t u) := by
  intro pins s σ H D I h
  refine wpAny_execs_cons (thn (h1 pins s σ H { D with nx := u D } I h) fun f s1 q => ?_)
  cases f with
  | next =>
    obtain ⟨σ', H', I', q⟩ := q
    exact h2 pins s1 σ' H' D I' q
  | ret v => exact q
  | brk => exact q
  | cont => exact q
theorem pss_one (h1 : PS X st t) : PSs X [st] t := by
  intro pins s σ H D I h
  refine wpAny_execs_cons (thn (h1 pins s σ H D I h) fun f s1 q => ?_)
  cases f with
  | next => exact wpAny_execs_nil q
  | ret v => exact q
  | brk => exact q
  | cont => exact q
/-- in a def's body nothing is shown -/
theorem Inv.quiet {pins : List (Addr × Obj)} {σ : St} {H : Hp} {s : Shared} (I : Inv X pins σ H s) : interactive X.env = false := by simp [interactive, I.ok.kind]
/-- an expression whose value is dropped -/
def tDrop (te : TE) : TS := fun D σ H => te σ H fun _ H1 => D.nx σ H1
theorem ps_expr (he : PE X e te) (hs : swapsWith e none pos.line X.env = pure false := by rfl) : PS X (.Expr e pos) (tDrop te) := by
  intro pins s σ H D I h
  exact wpAny_Expr_any (thn (he pins s σ H _ I h) fun v s1 ⟨x, H1, I1, r1, q1⟩ => ⟨σ, H1, I1, q1⟩) I.quiet hs
def tRet (te : TE) : TS := fun D σ H => te σ H D.rt
theorem ps_ret (he : PE X e te) : PS X (.Return (some e) pos) (tRet te) := by
  intro pins s σ H D I h
  exact wpAny_Return_some (thn (he pins s σ H _ I h) fun v s1 ⟨x, H1, I1, r1, q1⟩ => ⟨x, σ, H1, I1, r1, q1⟩)
def tIfS (c : TT) (t u : TS) : TS := fun D σ H => c σ H fun b H1 => if b = true then t D σ H1 else u D σ H1
theorem ps_if {c : Expr} {a b : List Stmt} {tc : TT} (hc : PT X c tc) (ha : PSs X a t) (hb : PSs X b u) : PS X (.If c a b pos) (tIfS tc t u) := by
  intro pins s σ H D I h
  refine wpAny_If (thn (hc pins s σ H _ I h) fun d s1 ⟨H1, I1, q1⟩ => ?_)
  cases d with
  | true => exact ha pins s1 σ H1 D I1 q1
  | false => exact hb pins s1 σ H1 D I1 q1
/-- code that the proof never comes to -/
def tNever : TS := fun _ _ _ => False
theorem ps_never : PS X st tNever := fun _ _ _ _ _ _ h => h.elim
end

/-! ### targets -/
abbrev TG := V → St → Hp → (St → Hp → Prop) → Prop
abbrev TGs := List V → St → Hp → (St → Hp → Prop) → Prop
def PG (X : Cx) (target : Expr) (t : TG) : Prop :=
  ∀ (pins : List (Addr × Obj)) (s : Shared) (σ : St) (H : Hp) (v : V) (u : Value) (Q : St → Hp → Prop), Inv X pins σ H s → RelV v u → t v σ H Q →
    wpAny (model X.prog X.w) X.A (assign target X.env u) (fun _ s' => ∃ σ' H', Inv X pins σ' H' s' ∧ Q σ' H') X.xe s
/-- several targets, one after another -/
def PGs (X : Cx) (ts : List Expr) (t : TGs) : Prop :=
  ∀ (pins : List (Addr × Obj)) (s : Shared) (σ : St) (H : Hp) (vs : List V) (us : List Value) (Q : St → Hp → Prop), Inv X pins σ H s → Vals vs us → t vs σ H Q →
    wpAny (model X.prog X.w) X.A (assignInOrder ((assignEach ts X.env).map (·.2)) us) (fun _ s' => ∃ σ' H', Inv X pins σ' H' s' ∧ Q σ' H') X.xe s
/-- o[i] = v, by values -/
abbrev TSet := V → V → V → Hp → (Hp → Prop) → Prop
def PSet (X : Cx) (t : TSet) : Prop :=
  ∀ (pins : List (Addr × Obj)) (s : Shared) (σ : St) (H : Hp) (o i v : V) (ov iv u : Value) (Q : Hp → Prop), Inv X pins σ H s → RelV o ov → RelV i iv → RelV v u → t o i v H Q →
    wpAny (model X.prog X.w) X.A (setItem ov iv u) (fun _ s' => ∃ H', Inv X pins σ H' s' ∧ Q H') X.xe s
section
variable {X : Cx} {pos : Pos}
def gName (i : Nat) : TG := fun v σ H Q => Q (σ.set i (some v)) H
theorem pg_name {i : Nat} {x : Str} (hN : X.N.Nodup) (hi : X.N[i]? = some x) (hx : Loc X.env.scope x) (hf : X.fn x = true ∨ X.env.scope.names.lookup x = some .local := by first | exact .inl rfl | exact .inr rfl | assumption) : PG X (.Name x pos) (gName i) := by
  intro pins s σ H v u Q I r h
  exact wpAny_assign_Name (store_ok I hN hi hx r (fun s' I' => ⟨_, H, I', h⟩) hf)
def gNil : TGs := fun vs σ H Q => vs = [] ∧ Q σ H
def gCons (t : TG) (u : TGs) : TGs := fun vs σ H Q => ∃ v r, vs = v :: r ∧ t v σ H fun σ' H' => u r σ' H' Q
theorem pgs_nil : PGs X [] gNil := by
  intro pins s σ H vs us Q I r h
  obtain ⟨e, h⟩ := h
  subst e
  cases r
  exact assignInOrder_nil ⟨σ, H, I, h⟩
theorem pgs_cons {e : Expr} {es : List Expr} {t : TG} {u : TGs} (h1 : PG X e t) (h2 : PGs X es u)
    (hs : (assignEach (e :: es) X.env).map (·.2) = assign e X.env :: (assignEach es X.env).map (·.2) := by rfl) : PGs X (e :: es) (gCons t u) := by
  intro pins s σ H vs us Q I r h
  obtain ⟨v, vr, e1, h⟩ := h
  subst e1
  cases r with
  | cons r rr =>
    rw [hs]
    refine assignInOrder_cons (thn (h1 pins s σ H _ _ _ I r h) fun _ s1 ⟨σ1, H1, I1, q1⟩ => ?_)
    exact h2 pins s1 σ1 H1 _ _ Q I1 rr q1
/-- (a, b, ..) = a tuple of that length -/
def gTup (K : PySem.W.Frag) (n : Nat) (t : TGs) : TG := fun v σ H Q => ∃ a xs, v = .ref a ∧ SqT K H a xs ∧ xs.length = n ∧ t xs σ H Q
theorem pg_tup {es : List Expr} {k : Nat} {t : TGs} {n : Nat} (hc : X.calm = true) (h : PGs X es t)
    (hn : (assignEach es X.env).length = n := by rfl) (hst : (assignEach es X.env).findIdx? (·.1) = none := by rfl) : PG X (.Tuple es k pos) (gTup X.K n t) := by
  intro pins s σ H v u Q I r hw
  obtain ⟨a, xs, e1, hq, hl, hw⟩ := hw
  subst e1
  cases r
  obtain ⟨its, rv, ht, hz⟩ := I.tuple hq
  refine assign_Tuple_tuple (I.ok.hd hc) ht (by simp [hn, ← hl, rv.length]) hst fun h' hx => ?_
  have I1 : Inv X pins σ H { s with heap := h' } := I.kept (t' := s.toks) fun b o e => hx b o (Nat.ne_of_lt (Heap.lt_size e)) e
  exact h pins _ σ H xs _ Q I1 (by simpa using rv) hw
/-- o[i] = .. -/
def gSub (to ti : TE) (t : TSet) : TG := fun v σ H Q => to σ H fun o H1 => ti σ H1 fun i H2 => t o i v H2 fun H3 => Q σ H3
theorem pg_sub {o i : Expr} {to ti : TE} {t : TSet} (ho : PE X o to) (hi : PE X i ti) (hs : PSet X t)
    (ha : ∀ v, assign (.Subscript o i pos) X.env v = (do
      let ov ← holding [v] (eval o X.env)
      let iv ← holding [v, ov] (eval i X.env)
      standAt pos
      holding [v, ov, iv] (setItem ov iv v)
      release [v, ov, iv] []) := by intro _; rfl) : PG X (.Subscript o i pos) (gSub to ti t) := by
  intro pins s σ H v u Q I r h
  rw [ha]
  refine wpAny_bind (wpAny_holding (thn (ho pins s σ H _ I h) fun ov s1 ⟨x, H1, I1, r1, q1⟩ => ?_))
  refine wpAny_bind (wpAny_holding (thn (hi pins s1 σ H1 _ I1 q1) fun iv s2 ⟨y, H2, I2, r2, q2⟩ => ?_))
  refine wpAny_bind (wpAny_standAt (wpAny_bind (wpAny_holding (thn (hs pins s2 σ H2 x y v ov iv u _ I2 r1 r2 r q2) fun _ s3 ⟨H3, I3, q3⟩ => ?_))))
  exact wpAny_release ⟨σ, H3, I3, q3⟩
/-- target = value -/
def tAsg (te : TE) (g : TG) : TS := fun D σ H => te σ H fun x H1 => g x σ H1 D.nx
theorem ps_asg {tg e : Expr} {te : TE} {g : TG} (he : PE X e te) (hg : PG X tg g) (hs : swapsWithSole [tg] e pos.line X.env = pure false := by rfl) (hw : swappedStores [tg] e X.env = pure none := by rfl)
    (h1 : (assignEach [tg] X.env).map (·.2) = [assign tg X.env] := by rfl) : PS X (.Assign [tg] e pos) (tAsg te g) := by
  intro pins s σ H D I h
  refine wpAny_Assign_stores (thn (he pins s σ H _ I h) fun v s1 ⟨x, H1, I1, r1, q1⟩ => ?_) hs hw
  rw [h1]
  exact thn (hg pins s1 σ H1 x v _ I1 r1 q1) fun _ s2 q => q
/-- name = value -/
theorem ps_set {i : Nat} {x : Str} {e : Expr} {te : TE} {pos' : Pos} (hN : X.N.Nodup) (hi : X.N[i]? = some x) (hx : Loc X.env.scope x) (he : PE X e te) (hs : swapsWith e (some (.Name x pos')) pos.line X.env = pure false := by rfl) (hf : X.fn x = true ∨ X.env.scope.names.lookup x = some .local := by first | exact .inl rfl | exact .inr rfl | assumption) :
    PS X (.Assign [.Name x pos'] e pos) (tAsg te (gName i)) := by
  intro pins s σ H D I h
  refine wpAny_Assign_Name (thn (he pins s σ H _ I h) fun v s1 ⟨y, H1, I1, r1, q1⟩ => ?_) hs
  exact store_ok I1 hN hi hx r1 (fun s2 I2 => ⟨_, H1, I2, q1⟩) hf
/-- a, b = x, y with plain local names: stored from the right; the pair itself is not tracked (the opening rows as in PyProof/Rows/TupAssign.lean:23) -/
def tPar (i j : Nat) (ta : TA) : TS := fun D σ H => ta σ H fun vs H1 => ∃ v w, vs = [v, w] ∧ D.nx ((σ.set i (some v)).set j (some w)) H1
theorem ps_par {i j : Nat} {x y : Str} {a b : Expr} {ta : TA} {px py pt : Pos} {kt k2 pt2} (hc : X.calm = true) (hN : X.N.Nodup) (hi : X.N[i]? = some x) (hj : X.N[j]? = some y) (hij : i ≠ j)
    (hx : X.env.scope.names.lookup x = some .local) (hy : X.env.scope.names.lookup y = some .local) (ha : PA X [a, b] ta)
    (hw : swappedStores [.Tuple [.Name x px, .Name y py] kt pt] (.Tuple [a, b] k2 pt2) X.env = pure (some [x, y]))
    (hs : swapsWithSole [.Tuple [.Name x px, .Name y py] kt pt] (.Tuple [a, b] k2 pt2) pos.line X.env = pure false := by rfl) :
    PS X (.Assign [.Tuple [.Name x px, .Name y py] kt pt] (.Tuple [a, b] k2 pt2) pos) (tPar i j ta) := by
  intro pins s σ H D I h
  rw [exec_Assign_arm]
  refine wpAny_bind (wpAny_standAt ?_)
  rw [hs]
  refine wpAny_bind (wpAny_pure ?_)
  rw [if_neg (by decide)]
  refine wpAny_bind (Tuple_ (thn (ha _ pins s σ H _ I h) fun us s1 ⟨vs, H1, I1, r1, q1⟩ => ?_))
  obtain ⟨v, w, e1, q1⟩ := q1
  subst e1
  obtain ⟨u1, u2, rfl, rv, rw'⟩ : ∃ u1 u2, us = [u1, u2] ∧ RelV v u1 ∧ RelV w u2 := by
    cases r1 with
    | cons p q =>
      cases q with
      | cons p' q' =>
        cases q'
        exact ⟨_, _, rfl, p, p'⟩
  refine wpAny_newObj_type ?_ (by show 2 ≤ sizeLine; decide)
  have I2 : Inv X pins σ H1 { s1 with heap := s1.heap.push { cls := .type "tuple", data := .seq [u1, u2].toArray } } := I1.kept (t' := s1.toks) fun b o e => Heap.get?_push_of_some _ e
  rw [hw]
  refine wpAny_bind (wpAny_pure ?_)
  show wpAny (model X.prog X.w) X.A (do rule "assign.swapped-stores"; let items ← unpackItems (.ref s1.heap.objs.size) 2 none; assignInOrder [fun v => bindName X.env y v, fun v => bindName X.env x v] items.reverse; pure Flow.next) _ _ _
  refine wpAny_bind (wpAny_rule (wpAny_bind (unpackItems_tuple (items := #[u1, u2]) (I.ok.hd hc) (IsTup.new s1.heap _) fun h' hx' => ?_)))
  have I3 := I2.kept (h' := h') (t' := s1.toks) fun b o e => hx' b o (Nat.ne_of_lt (Heap.lt_size e)) e
  show wpAny _ _ (assignInOrder [fun v => bindName X.env y v, fun v => bindName X.env x v] [u2, u1] >>= fun _ => pure Flow.next) _ _ _
  refine wpAny_bind (assignInOrder_cons (wpAny_bindName (store_ok I3 hN hj (.inl hy) rw' (fun s2 I4 => ?_) (.inr hy))))
  refine assignInOrder_cons (wpAny_bindName (store_ok I4 hN hi (.inl hx) rv (fun s3 I5 => assignInOrder_nil (wpAny_pure ?_)) (.inr hx)))
  rw [List.set_comm _ _ (Ne.symm hij)] at I5
  exact ⟨_, H1, I5, q1⟩
end

/-! ### while -/
section
variable {X : Cx} {pos : Pos}
/-- the invariant W with its measure -/
def tWhile (c : TT) (tb : TS) : TS := fun D σ H => ∃ W : Nat → St → Hp → Prop, (∃ m, W m σ H) ∧ ∀ m σ H, W m σ H →
  c σ H fun b H1 => if b = true then ∃ N : St → Hp → Prop, (∀ σ' H', N σ' H' → ∃ m', m' < m ∧ W m' σ' H') ∧ tb { D with nx := N, ct := N, bk := D.nx } σ H1 else D.nx σ H1
theorem ps_while {c : Expr} {body : List Stmt} {tc : TT} {tb : TS} (hp : PassesOwn (model X.prog X.w) X.A X.env X.xe) (hc : PT X c tc) (hb : PSs X body tb) : PS X (.While c body [] pos) (tWhile tc tb) := by
  intro pins s σ H D I h
  obtain ⟨W, ⟨m0, w0⟩, turn⟩ := h
  refine wpAny_While (codeAny_whileLoop (fun n s' => ∃ σ' H', Inv X pins σ' H' s' ∧ W n σ' H') ?_ m0 ⟨σ, H, I, w0⟩)
  rintro n s1 ⟨σ1, H1, I1, w1⟩
  refine wpAny_passesOwn hp (thn (hc pins s1 σ1 H1 _ I1 (turn n σ1 H1 w1)) fun b s2 ⟨H2, I2, q2⟩ => ?_)
  cases b with
  | true =>
    obtain ⟨N, hN, q2⟩ := q2
    rw [if_pos rfl]
    refine wpAny_passesOwn hp (thn (hb pins s2 σ1 H2 _ I2 q2) fun f s3 q3 => ?_)
    cases f with
    | next =>
      obtain ⟨σ3, H3, I3, n3⟩ := q3
      obtain ⟨m', hm, w3⟩ := hN σ3 H3 n3
      exact ⟨m', hm, σ3, H3, I3, w3⟩
    | cont =>
      obtain ⟨σ3, H3, I3, n3⟩ := q3
      obtain ⟨m', hm, w3⟩ := hN σ3 H3 n3
      exact ⟨m', hm, σ3, H3, I3, w3⟩
    | brk => exact q3
    | ret v => exact q3
  | false =>
    rw [if_neg Bool.false_ne_true]
    exact wpAny_execs_nil ⟨σ1, H2, I2, q2⟩
end

/-! ### what a loop or a comprehension walks -/
/-- at turn i: it yields x (the heap may grow), or it stops -/
structure It where
  go : Nat → Hp → Prop
  yld : Nat → Hp → V → Hp → Prop
  stop : Nat → Hp → Prop
/-- the iterator's own objects may turn: they are not the frame's, not pinned, younger than the entry (or a comprehension's own) -/
def FpOk (X : Cx) (pins : List (Addr × Obj)) (H : Hp) (b : Addr) : Prop :=
  H b = none ∧ b ≠ X.env.locals ∧ b ∉ X.fs ∧ (b ∈ X.ex ∨ X.s₀.heap.objs.size ≤ b) ∧ (∀ x c, X.env.cells.lookup x = some c → c ≠ b) ∧ ∀ p ∈ X.pn ++ pins, p.1 ≠ b
theorem Inv.fpOk {X : Cx} {pins : List (Addr × Obj)} {σ : St} {H H' : Hp} {s : Shared} {b : Addr} (I : Inv X pins σ H s) (hb : s.heap.objs.size ≤ b) (hn : H' b = none) : FpOk X pins H' b := by
  refine ⟨hn, Nat.ne_of_gt (Nat.lt_of_lt_of_le I.lt hb), I.nofs hb, .inr (Nat.le_trans I.sz hb), fun x c e z => ?_, fun p hp z => ?_⟩
  · obtain ⟨v, q⟩ := I.cell x c e
    exact absurd (Nat.lt_of_lt_of_le q.lt (by rw [z]; exact hb)) (Nat.lt_irrefl _)
  · exact absurd (Nat.lt_of_lt_of_le (Heap.lt_size (I.pin p hp).1) (by rw [z]; exact hb)) (Nat.lt_irrefl _)
structure Turn (P : Program) (w : World) (K : PySem.W.Frag) (tg : Expr) (J : It) (fp : List Addr) (it : Addr) (tn : Nat → Heap → Prop) : Prop where
  mem : it ∈ fp
  obj : ∀ i h, tn i h → ∀ b ∈ fp, ∃ o, h.get? b = some o ∧ ∀ v, o.data ≠ .cell v
  keep : ∀ i h h', tn i h → (∀ b ∈ fp, ∀ o, h.get? b = some o → h'.get? b = some o) → tn i h'
  item : ∀ (X : Cx), X.prog = P → X.w = w → X.K = K → X.calm = true → ∀ (i : Nat) (pins : List (Addr × Obj)) (s : Shared) (σ : St) (H : Hp) (E : Value → Shared → Prop), Inv X pins σ H s → (∀ b ∈ fp, FpOk X pins H b) → tn i s.heap → J.go i H →
    wpAny (model P w) X.A (pyNext (.ref it)) (fun r s1 => ∃ u, r = some u ∧
      wpAny (model P w) X.A (letOwnedTupleGo tg (.ref it) u) (fun _ s2 => ∃ x H', Inv X pins σ H' s2 ∧ RelV x u ∧ J.yld i H x H' ∧ tn (i + 1) s2.heap ∧ ∀ b ∈ fp, H' b = none) E s1) E s
  done : ∀ (X : Cx), X.prog = P → X.w = w → X.K = K → X.calm = true → ∀ (i : Nat) (pins : List (Addr × Obj)) (s : Shared) (σ : St) (H : Hp) (E : Value → Shared → Prop), Inv X pins σ H s → (∀ b ∈ fp, FpOk X pins H b) → tn i s.heap → J.stop i H →
    wpAny (model P w) X.A (pyNext (.ref it)) (fun r s1 => r = none ∧ Inv X pins σ H s1) E s
  self : ∀ (A : Around) (i : Nat) (s : Shared) (Q : Value → Shared → Prop) (E : Value → Shared → Prop), tn i s.heap → Q (.ref it) s → wpAny (model P w) A (pyIter (.ref it)) Q E s
abbrev TI := St → Hp → (It → Hp → Prop) → Prop
/-- an iterator has come -/
def PIE (X : Cx) (pins : List (Addr × Obj)) (σ : St) (tg : Expr) (R : It → Hp → Prop) (itv : Value) (s2 : Shared) : Prop :=
  ∃ (it : Addr) (fp : List Addr) (tn : Nat → Heap → Prop) (J : It) (H' : Hp), itv = .ref it ∧ Inv X pins σ H' s2 ∧ Turn X.prog X.w X.K tg J fp it tn ∧ tn 0 s2.heap ∧ (∀ b ∈ fp, FpOk X pins H' b) ∧ R J H'
def PI (X : Cx) (tg iter : Expr) (wi : TI) : Prop :=
  ∀ (pins : List (Addr × Obj)) (s : Shared) (σ : St) (H : Hp) (R : It → Hp → Prop), Inv X pins σ H s → wi σ H R →
    wpAny (model X.prog X.w) X.A (eval iter X.env) (fun v s1 => wpAny (model X.prog X.w) X.A (pyIter v) (PIE X pins σ tg R) X.xe s1) X.xe s

/-- the step ahead of the store is nothing for an iterator that keeps no tuple -/
theorem go_of {M : Model} {A : Around} {E : Value → Shared → Prop} {s : Shared} {tg : Expr} {it : Addr} {u : Value} {o : Obj} {n : String} {vs : Array Value} {Q : Unit → Shared → Prop} (ho : s.heap.get? it = some o) (hc : o.cls = .type n) (hd : o.data = .fields vs)
    (hn : ["enumerate", "zip", "dict_itemiterator", "dict_reverseitemiterator", "odict_iterator", "itertools.zip_longest", "itertools.pairwise"].contains n = false) (hQ : Q () s) : wpAny M A (letOwnedTupleGo tg (.ref it) u) Q E s := by
  unfold letOwnedTupleGo
  cases tg <;> first
    | exact wpAny_pure hQ
    | (cases u <;> first
        | exact wpAny_pure hQ
        | (refine wpAny_bind (wpAny_load ho ?_)
           rw [hc, hd]
           show wpAny M A (if (["enumerate", "zip", "dict_itemiterator", "dict_reverseitemiterator", "odict_iterator", "itertools.zip_longest", "itertools.pairwise"].contains n && vs[0]? == some (rawInt _)) = true then _ else _) Q E s
           rw [if_neg (by intro h; rw [hn, Bool.false_and] at h; cases h)]
           exact wpAny_pure hQ))

/-- the list at a, as it stands at each turn (a loop may append to it) -/
def Itl (K : PySem.W.Frag) (a : Addr) : It :=
  ⟨fun i H => ∃ xs x, SqL K H a xs ∧ xs[i]? = some x, fun i H x H' => H' = H ∧ ∀ xs, SqL K H a xs → xs[i]? = some x, fun i H => ∃ xs, SqL K H a xs ∧ xs.length ≤ i⟩
def Itt (K : PySem.W.Frag) (a : Addr) : It :=
  ⟨fun i H => ∃ xs x, SqT K H a xs ∧ xs[i]? = some x, fun i H x H' => H' = H ∧ ∀ xs, SqT K H a xs → xs[i]? = some x, fun i H => ∃ xs, SqT K H a xs ∧ xs.length ≤ i⟩
/-- lo, lo + 1, .. (n of them) -/
def Itr (lo : Int) (n : Nat) : It := ⟨fun i _ => i < n, fun i H x H' => H' = H ∧ x = .int (lo + i), fun i _ => n ≤ i⟩
theorem turn_list {P : Program} {w : World} {K : PySem.W.Frag} {tg : Expr} (a it : Addr) : Turn P w K tg (Itl K a) [it] it (fun i h => h.IsListIter it a i) where
  mem := by simp
  obj := fun i h st b hb => by
    have e : b = it := by simpa using hb
    subst e
    obtain ⟨o, e, c, d⟩ := st
    exact ⟨o, e, fun v z => by rw [d] at z; cases z⟩
  keep := fun i h h' st k => st.at fun o e => k it (by simp) o e
  item := by
    intro X hP hw hK hc i pins s σ H E I hf st hg
    subst hP hw hK
    obtain ⟨xs, x, hq, hx⟩ := hg
    obtain ⟨its, rv, p, hz⟩ := I.list hq
    obtain ⟨u, hu, ru⟩ := rv.get hx
    obtain ⟨f0, f1, f2, f3, f4, f5⟩ := hf it (by simp)
    refine wpAny_pyNext_list_item st p.isList (x := u) (by simpa using hu) fun h' st' sb => ?_
    have I1 : Inv X pins σ H { s with heap := h' } := I.turned (t' := s.toks) (fun b o hb e => (sb.2 b hb).trans e) f0 f1 f3 f4 f5
    obtain ⟨o, e, c, d⟩ := id st'
    exact ⟨u, rfl, go_of (s := { s with heap := h' }) e c d (by decide) ⟨x, H, I1, ru, ⟨rfl, fun ys hy => by rw [I.list_inj hy hq]; exact hx⟩, st', fun b hb => (hf b hb).1⟩⟩
  done := by
    intro X hP hw hK hc i pins s σ H E I hf st hg
    subst hP hw hK
    obtain ⟨xs, hq, hx⟩ := hg
    obtain ⟨its, rv, p, hz⟩ := I.list hq
    obtain ⟨f0, f1, f2, f3, f4, f5⟩ := hf it (by simp)
    have hl := rv.length
    exact wpAny_pyNext_list_end (I.ok.hd hc) st p.isList (by simp; omega) fun h' eb => ⟨rfl, I.turned (t' := s.toks) (fun b o hb e => eb b o hb e) f0 f1 f3 f4 f5⟩
  self := fun _ _ _ _ _ st h => wpAny_pyIter_listiter st h
theorem turn_tuple {P : Program} {w : World} {K : PySem.W.Frag} {tg : Expr} (a it : Addr) : Turn P w K tg (Itt K a) [it] it (fun i h => h.IsTupleIter it a i) where
  mem := by simp
  obj := fun i h st b hb => by
    have e : b = it := by simpa using hb
    subst e
    obtain ⟨o, e, c, d⟩ := st
    exact ⟨o, e, fun v z => by rw [d] at z; cases z⟩
  keep := fun i h h' st k => st.at fun o e => k it (by simp) o e
  item := by
    intro X hP hw hK hc i pins s σ H E I hf st hg
    subst hP hw hK
    obtain ⟨xs, x, hq, hx⟩ := hg
    obtain ⟨its, rv, p, hz⟩ := I.tuple hq
    obtain ⟨u, hu, ru⟩ := rv.get hx
    obtain ⟨f0, f1, f2, f3, f4, f5⟩ := hf it (by simp)
    refine wpAny_pyNext_tuple_item st (show s.heap.IsTuple a its.toArray from p) (x := u) (by simpa using hu) fun h' st' sb => ?_
    have I1 : Inv X pins σ H { s with heap := h' } := I.turned (t' := s.toks) (fun b o hb e => (sb.2 b hb).trans e) f0 f1 f3 f4 f5
    obtain ⟨o, e, c, d⟩ := id st'
    exact ⟨u, rfl, go_of (s := { s with heap := h' }) e c d (by decide) ⟨x, H, I1, ru, ⟨rfl, fun ys hy => by rw [I.tuple_inj hy hq]; exact hx⟩, st', fun b hb => (hf b hb).1⟩⟩
  done := by
    intro X hP hw hK hc i pins s σ H E I hf st hg
    subst hP hw hK
    obtain ⟨xs, hq, hx⟩ := hg
    obtain ⟨its, rv, p, hz⟩ := I.tuple hq
    obtain ⟨f0, f1, f2, f3, f4, f5⟩ := hf it (by simp)
    have hl := rv.length
    exact wpAny_pyNext_tuple_end (I.ok.hd hc) st (show s.heap.IsTuple a its.toArray from p) (by simp; omega) fun h' eb => ⟨rfl, I.turned (t' := s.toks) (fun b o hb e => eb b o hb e) f0 f1 f3 f4 f5⟩
  self := fun _ _ _ _ _ st h => wpAny_pyIter_tupleiter st h
theorem turn_range {P : Program} {w : World} {K : PySem.W.Frag} {tg : Expr} (it : Addr) (lo : Int) (n : Nat) : Turn P w K tg (Itr lo n) [it] it (fun i h => IsRangeIter h it (lo + (i : Nat) * 1) ((n : Int) - (i : Nat)) 1) where
  mem := by simp
  obj := fun i h st b hb => by
    have e : b = it := by simpa using hb
    subst e
    exact ⟨_, st, fun v z => by
      have z' : Data.fields _ = Data.cell v := z
      cases z'⟩
  keep := fun i h h' st k => k it (by simp) _ st
  item := by
    intro X hP hw hK hc i pins s σ H E I hf st hg
    subst hP hw hK
    obtain ⟨f0, f1, f2, f3, f4, f5⟩ := hf it (by simp)
    have W := Walks.range (prog := X.prog) (w := X.w) (I.ok.hd hc) it lo 1 n
    refine W.item i s _ _ hg st fun v h' tk hv st' kk => ?_
    obtain ⟨t, rfl⟩ := hv
    have I1 : Inv X pins σ H { s with heap := h', toks := tk } := I.turned (fun b o hb e => kk b o (by simpa using hb) e) f0 f1 f3 f4 f5
    refine ⟨_, rfl, go_of (s := { s with heap := h', toks := tk }) (n := "range_iterator") st' rfl rfl (by decide) ⟨.int (lo + i), H, I1, ⟨t, ?_⟩, ⟨rfl, rfl⟩, st', fun b hb => (hf b hb).1⟩⟩
    rw [Int.mul_one]
  done := by
    intro X hP hw hK hc i pins s σ H E I hf st hg
    subst hP hw hK
    obtain ⟨f0, f1, f2, f3, f4, f5⟩ := hf it (by simp)
    exact wpAny_pyNext_range_end (I.ok.hd hc) st (by have : n ≤ i := hg; omega) fun h' eb => ⟨rfl, I.turned (t' := s.toks) (fun b o hb e => eb b o hb e) f0 f1 f3 f4 f5⟩
  self := fun _ _ _ _ _ st h => wpAny_pyIter_rangeiter st h
end L2

namespace L2
open PySem PySem.Spec PyProof.Rows
section
variable {X : Cx} {tg : Expr}
def iList (K : PySem.W.Frag) (tl : TE) : TI := fun σ H R => tl σ H fun x H1 => ∃ a, x = .ref a ∧ (∃ xs, SqL K H1 a xs) ∧ R (Itl K a) H1
def iTup (K : PySem.W.Frag) (tl : TE) : TI := fun σ H R => tl σ H fun x H1 => ∃ a, x = .ref a ∧ (∃ xs, SqT K H1 a xs) ∧ R (Itt K a) H1
theorem pi_list {l : Expr} {tl : TE} (hl : PE X l tl) : PI X tg l (iList X.K tl) := by
  intro pins s σ H R I h
  refine thn (hl pins s σ H _ I h) fun v s1 ⟨x, H1, I1, r1, q1⟩ => ?_
  obtain ⟨a, e, ⟨xs, hq⟩, q⟩ := q1
  subst e
  cases r1
  obtain ⟨its, rv, p, hz⟩ := I1.list hq
  refine wpAny_pyIter_list p.isList ?_
  refine ⟨s1.heap.objs.size, [s1.heap.objs.size], _, _, H1, rfl, I1.kept (t' := s1.toks) fun b o e => Heap.get?_push_of_some _ e, turn_list a _, ⟨_, Heap.get?_push_size _ rfl, rfl, rfl⟩, fun b hb => ?_, q⟩
  have e : b = s1.heap.objs.size := by simpa using hb
  subst e
  exact I1.fpOk (Nat.le_refl _) (I1.hok.fresh (Nat.le_refl _))
theorem pi_tup {l : Expr} {tl : TE} (hl : PE X l tl) : PI X tg l (iTup X.K tl) := by
  intro pins s σ H R I h
  refine thn (hl pins s σ H _ I h) fun v s1 ⟨x, H1, I1, r1, q1⟩ => ?_
  obtain ⟨a, e, ⟨xs, hq⟩, q⟩ := q1
  subst e
  cases r1
  obtain ⟨its, rv, p, hz⟩ := I1.tuple hq
  refine wpAny_pyIter_tuple (show s1.heap.IsTuple a its.toArray from p) ?_
  refine ⟨s1.heap.objs.size, [s1.heap.objs.size], _, _, H1, rfl, I1.kept (t' := s1.toks) fun b o e => Heap.get?_push_of_some _ e, turn_tuple a _, ⟨_, Heap.get?_push_size _ rfl, rfl, rfl⟩, fun b hb => ?_, q⟩
  have e : b = s1.heap.objs.size := by simpa using hb
  subst e
  exact I1.fpOk (Nat.le_refl _) (I1.hok.fresh (Nat.le_refl _))
/-- a range object just made, walked -/
theorem range_it {pins : List (Addr × Obj)} {σ : St} {H : Hp} {s : Shared} {R : It → Hp → Prop} {E : Value → Shared → Prop} {lo hi : Int} {t u v : Tok} {tk : Nat} (I : Inv X pins σ H s) (h1 : -(2 ^ 62) ≤ lo) (h2 : lo < 2 ^ 62) (h3 : -(2 ^ 62) ≤ hi) (h4 : hi < 2 ^ 62)
    (q : R (Itr lo (hi - lo).toNat) H) : wpAny (model X.prog X.w) X.A (pyIter (.ref s.heap.objs.size)) (PIE X pins σ tg R) E { s with heap := s.heap.push { cls := .type "range", data := .fields #[.int lo t, .int hi u, .int 1 v] }, toks := tk } := by
  refine wpAny_pyIter_range (IsRange.new ..) (small_one h1 h2 h3 h4) ?_
  have I1 : Inv X pins σ H { s with heap := s.heap.push { cls := .type "range", data := .fields #[.int lo t, .int hi u, .int 1 v] }, toks := tk } := I.kept fun b o e => Heap.get?_push_of_some _ e
  refine ⟨(s.heap.push { cls := .type "range", data := .fields #[.int lo t, .int hi u, .int 1 v] }).objs.size, [(s.heap.push { cls := .type "range", data := .fields #[.int lo t, .int hi u, .int 1 v] }).objs.size], _, _, H, rfl,
    I1.kept (t' := tk) fun b o e => Heap.get?_push_of_some _ e, turn_range _ lo (hi - lo).toNat, ?_, fun b hb => ?_, q⟩
  · have e1 : lo + ((0 : Nat) : Int) * 1 = lo := by simp
    have e2 : (((hi - lo).toNat : Nat) : Int) - ((0 : Nat) : Int) = Builtin.Range.rangeSize lo hi 1 := by rw [rangeSize_one]; split <;> omega
    show IsRangeIter _ _ (lo + ((0 : Nat) : Int) * 1) ((((hi - lo).toNat : Nat) : Int) - ((0 : Nat) : Int)) 1
    rw [e1, e2]
    exact Heap.get?_push_size _ rfl
  · have e : b = (s.heap.push { cls := .type "range", data := .fields #[.int lo t, .int hi u, .int 1 v] }).objs.size := by simpa using hb
    subst e
    exact I1.fpOk (Nat.le_refl _) (I1.hok.fresh (Nat.le_refl _))
def iRng1 (ta : TA) : TI := fun σ H R => ta σ H fun vs H1 => ∃ j : Int, vs = [.int j] ∧ -(2 ^ 62) ≤ j ∧ j < 2 ^ 62 ∧ R (Itr 0 j.toNat) H1
def iRng2 (ta : TA) : TI := fun σ H R => ta σ H fun vs H1 => ∃ i j : Int, vs = [.int i, .int j] ∧ (-(2 ^ 62) ≤ i ∧ i < 2 ^ 62 ∧ -(2 ^ 62) ≤ j ∧ j < 2 ^ 62) ∧ R (Itr i (j - i).toNat) H1
theorem pi_range1 {a : Expr} {ta : TA} {p pos : Pos} (hg : Gl X "range") (hm : X.mg "range" = none) (ha : PA X [a] ta) (hs : starEach [a] X.env = [(false, eval a X.env)] := by rfl) : PI X tg (.Call (.Name "range" p) [a] [] pos) (iRng1 ta) := by
  intro pins s σ H R I h
  refine Call_ (ld_blt I hg hm boot_range (PyProof.Rows.callWith_type1 (thn (ha pos pins s σ H _ I h) fun us s1 ⟨vs, H1, I1, r1, q1⟩ => ?_) hs rfl))
  obtain ⟨j, e, q1, q2, q⟩ := q1
  subst e
  cases r1 with
  | cons r rr =>
    cases rr
    obtain ⟨t, rfl⟩ := r
    exact call_range_1 (range_it I1 (by omega) (by omega) q1 q2 (by simpa using q))
theorem pi_range2 {a b : Expr} {ta : TA} {p pos : Pos} (hg : Gl X "range") (hm : X.mg "range" = none) (ha : PA X [a, b] ta) (hs : starEach [a, b] X.env = [(false, eval a X.env), (false, eval b X.env)] := by rfl) (hs2 : starEach [b] X.env = [(false, eval b X.env)] := by rfl) :
    PI X tg (.Call (.Name "range" p) [a, b] [] pos) (iRng2 ta) := by
  intro pins s σ H R I h
  refine Call_ (ld_blt I hg hm boot_range (PyProof.Rows.callWith_type1 (thn (ha pos pins s σ H _ I h) fun us s1 ⟨vs, H1, I1, r1, q1⟩ => ?_) (by rw [hs, hs2]) (by rw [hs2]; rfl)))
  obtain ⟨i, j, e, ⟨q1, q2, q3, q4⟩, q⟩ := q1
  subst e
  cases r1 with
  | cons r rr =>
    cases rr with
    | cons r' rr =>
      cases rr
      obtain ⟨t, rfl⟩ := r
      obtain ⟨t', rfl⟩ := r'
      exact call_range_2 (range_it I1 q1 q2 q3 q4 q)

/-! ### for -/
/-- W: the invariant by the turn and a measure; N: what the body is to reach -/
def tFor (wi : TI) (g : TG) (tb : TS) : TS := fun D σ H => wi σ H fun J H1 => ∃ W : Nat → Nat → St → Hp → Prop, (∃ m, W 0 m σ H1) ∧ ∀ i m σ H, W i m σ H →
  (J.stop i H ∧ D.nx σ H) ∨ (J.go i H ∧ ∃ N : St → Hp → Prop, (∀ σ' H', N σ' H' → ∃ m', m' < m ∧ W (i + 1) m' σ' H') ∧ ∀ x H', J.yld i H x H' → g x σ H' fun σ2 H2 => tb { D with nx := N, ct := N, bk := D.nx } σ2 H2)
/-- the records at fp as they stand -/
def pinsAt (fp : List Addr) (h : Heap) : List (Addr × Obj) := fp.filterMap fun b => (h.get? b).map fun o => (b, o)
theorem mem_pinsAt {fp : List Addr} {h : Heap} {b : Addr} {o : Obj} (hb : b ∈ fp) (e : h.get? b = some o) : (b, o) ∈ pinsAt fp h := List.mem_filterMap.mpr ⟨b, hb, by rw [e]; rfl⟩
theorem of_pinsAt {fp : List Addr} {h : Heap} {p : Addr × Obj} (hp : p ∈ pinsAt fp h) : p.1 ∈ fp ∧ h.get? p.1 = some p.2 := by
  obtain ⟨b, hb, e⟩ := List.mem_filterMap.mp hp
  cases q : h.get? b with
  | none => rw [q] at e; cases e
  | some o =>
    rw [q] at e
    have e' : (b, o) = p := Option.some.inj e
    subst e'
    exact ⟨hb, q⟩
theorem Inv.pinned {pins : List (Addr × Obj)} {σ : St} {H : Hp} {s : Shared} {fp : List Addr} (I : Inv X pins σ H s) (hf : ∀ b ∈ fp, FpOk X pins H b) (ho : ∀ b ∈ fp, ∃ o, s.heap.get? b = some o ∧ ∀ v, o.data ≠ .cell v) : Inv X (pins ++ pinsAt fp s.heap) σ H s :=
  I.pins_of fun p hp => (List.mem_append.mp hp).elim (fun z => I.pin p (List.mem_append_right _ z)) fun z => by
    obtain ⟨hb, e⟩ := of_pinsAt z
    obtain ⟨f0, f1, f2, _⟩ := hf p.1 hb
    obtain ⟨o, e', d⟩ := ho p.1 hb
    rw [e] at e'; cases e'
    exact ⟨e, f0, f1, f2, d⟩
theorem Inv.unpinned {pins pl : List (Addr × Obj)} {σ : St} {H : Hp} {s : Shared} (I : Inv X (pins ++ pl) σ H s) : Inv X pins σ H s := I.pins_of fun p hp => I.pin p (List.mem_append_right _ (List.mem_append_left _ hp))
theorem ps_for {iter : Expr} {body : List Stmt} {wi : TI} {g : TG} {tb : TS} {pos : Pos} (hp : PassesOwn (model X.prog X.w) X.A X.env X.xe) (hc : X.calm = true) (hi : PI X tg iter wi) (hg : PG X tg g) (hb : PSs X body tb)
    (hs : ∀ x, foldedSetIterable iter X.env x = pure x := by intro _; rfl) : PS X (.For tg iter body [] pos) (tFor wi g tb) := by
  intro pins s σ H D I h
  refine wpAny_For (thn (hi pins s σ H _ I h) fun v s1 h1 => thn h1 fun itv s2 h2 => ?_) hs
  obtain ⟨it, fp, tn, J, H2, e, I2, T, st2, f2, W, ⟨m0, w0⟩, turn⟩ := h2
  subst e
  -- what stays true of the iterator's objects through the loop
  have stat : ∀ {H' : Hp}, (∀ b ∈ fp, H' b = none) → ∀ b ∈ fp, FpOk X pins H' b := fun hn b hb => ⟨hn b hb, (f2 b hb).2⟩
  refine codeAny_forLoop_any (fun n s' => ∃ i σ' H', Inv X pins σ' H' s' ∧ tn i s'.heap ∧ (∀ b ∈ fp, H' b = none) ∧ W i n σ' H') ?_ m0 ⟨0, σ, H2, I2, st2, fun b hb => (f2 b hb).1, w0⟩
  rintro n s3 ⟨i, σ3, H3, I3, st3, fr3, w3⟩
  rcases turn i n σ3 H3 w3 with ⟨stop, qn⟩ | ⟨go, N, hN, step⟩
  · refine wpAny_passesOwn hp (thn (T.done X rfl rfl rfl hc i pins s3 σ3 H3 X.xe I3 (stat fr3) st3 stop) fun r s4 ⟨hr, I4⟩ => ?_)
    subst hr
    exact wpAny_execs_nil ⟨σ3, H3, I4, qn⟩
  · refine wpAny_passesOwn hp (thn (T.item X rfl rfl rfl hc i pins s3 σ3 H3 X.xe I3 (stat fr3) st3 go) fun r s4 ⟨u, hr, h4⟩ => ?_)
    subst hr
    refine wpAny_passesOwn hp (thn h4 fun _ s5 ⟨x, H5, I5, r5, y5, st5, fr5⟩ => ?_)
    have I5' := I5.pinned (stat fr5) (T.obj _ _ st5)
    refine wpAny_passesOwn hp (thn (hg _ s5 σ3 H5 x u _ I5' r5 (step x H5 y5)) fun _ s6 ⟨σ6, H6, I6, q6⟩ => ?_)
    refine wpAny_passesOwn hp (thn (hb _ s6 σ6 H6 _ I6 q6) fun f s7 q7 => ?_)
    have again : ∀ {σ7 : St} {H7 : Hp}, Inv X (pins ++ pinsAt fp s5.heap) σ7 H7 s7 → N σ7 H7 → ∃ m, m < n ∧ ∃ i σ' H', Inv X pins σ' H' s7 ∧ tn i s7.heap ∧ (∀ b ∈ fp, H' b = none) ∧ W i m σ' H' := fun {σ7 H7} I7 n7 => by
      obtain ⟨m', hm, w7⟩ := hN σ7 H7 n7
      refine ⟨m', hm, i + 1, σ7, H7, I7.unpinned, T.keep _ _ _ st5 fun b hb o e => (I7.pin (b, o) (List.mem_append_right _ (List.mem_append_right _ (mem_pinsAt hb e)))).1, fun b hb => ?_, w7⟩
      obtain ⟨o, e, d⟩ := T.obj _ _ st5 b hb
      exact (I7.pin (b, o) (List.mem_append_right _ (List.mem_append_right _ (mem_pinsAt hb e)))).2.1
    cases f with
    | next => obtain ⟨σ7, H7, I7, n7⟩ := q7; exact again I7 n7
    | cont => obtain ⟨σ7, H7, I7, n7⟩ := q7; exact again I7 n7
    | brk => obtain ⟨σ7, H7, I7, q7⟩ := q7; exact ⟨σ7, H7, I7.unpinned, q7⟩
    | ret v => obtain ⟨x7, σ7, H7, I7, r7, q7⟩ := q7; exact ⟨x7, σ7, H7, I7.unpinned, r7, q7⟩
end

/-! ### the forms one uses -/
/-- over a list that the body leaves as it is -/
theorem for_list {K : PySem.W.Frag} {a : Addr} {xs : List V} {g : TG} {tb : TS} {D : Ends} {σ : St} {H : Hp} (Pv : Nat → St → Hp → Prop) (h0 : Pv 0 σ H) (hl : ∀ i σ H, i ≤ xs.length → Pv i σ H → SqL K H a xs)
    (hs : ∀ i x σ H, xs[i]? = some x → Pv i σ H → g x σ H fun σ2 H2 => tb { D with nx := Pv (i + 1), ct := Pv (i + 1), bk := D.nx } σ2 H2) (hd : ∀ σ H, Pv xs.length σ H → D.nx σ H) :
    ∃ W : Nat → Nat → St → Hp → Prop, (∃ m, W 0 m σ H) ∧ ∀ i m σ H, W i m σ H →
      ((Itl K a).stop i H ∧ D.nx σ H) ∨ ((Itl K a).go i H ∧ ∃ N : St → Hp → Prop, (∀ σ' H', N σ' H' → ∃ m', m' < m ∧ W (i + 1) m' σ' H') ∧ ∀ x H', (Itl K a).yld i H x H' → g x σ H' fun σ2 H2 => tb { D with nx := N, ct := N, bk := D.nx } σ2 H2) := by
  refine ⟨fun i m σ H => m = xs.length - i ∧ i ≤ xs.length ∧ Pv i σ H, ⟨xs.length, by simp, Nat.zero_le _, h0⟩, ?_⟩
  rintro i m σ H ⟨rfl, hi, p⟩
  have q := hl i σ H hi p
  by_cases hlt : i < xs.length
  · refine .inr ⟨⟨xs, xs[i], q, by simp [hlt]⟩, Pv (i + 1), fun σ' H' p' => ⟨xs.length - (i + 1), by omega, rfl, hlt, p'⟩, fun x H' y => ?_⟩
    obtain ⟨e, y⟩ := y
    subst e
    exact hs i x σ _ (y xs q) p
  · have e : i = xs.length := by omega
    subst e
    exact .inl ⟨⟨xs, q, Nat.le_refl _⟩, hd σ H p⟩
theorem for_tup {K : PySem.W.Frag} {a : Addr} {xs : List V} {g : TG} {tb : TS} {D : Ends} {σ : St} {H : Hp} (Pv : Nat → St → Hp → Prop) (h0 : Pv 0 σ H) (hl : ∀ i σ H, i ≤ xs.length → Pv i σ H → SqT K H a xs)
    (hs : ∀ i x σ H, xs[i]? = some x → Pv i σ H → g x σ H fun σ2 H2 => tb { D with nx := Pv (i + 1), ct := Pv (i + 1), bk := D.nx } σ2 H2) (hd : ∀ σ H, Pv xs.length σ H → D.nx σ H) :
    ∃ W : Nat → Nat → St → Hp → Prop, (∃ m, W 0 m σ H) ∧ ∀ i m σ H, W i m σ H →
      ((Itt K a).stop i H ∧ D.nx σ H) ∨ ((Itt K a).go i H ∧ ∃ N : St → Hp → Prop, (∀ σ' H', N σ' H' → ∃ m', m' < m ∧ W (i + 1) m' σ' H') ∧ ∀ x H', (Itt K a).yld i H x H' → g x σ H' fun σ2 H2 => tb { D with nx := N, ct := N, bk := D.nx } σ2 H2) := by
  refine ⟨fun i m σ H => m = xs.length - i ∧ i ≤ xs.length ∧ Pv i σ H, ⟨xs.length, by simp, Nat.zero_le _, h0⟩, ?_⟩
  rintro i m σ H ⟨rfl, hi, p⟩
  have q := hl i σ H hi p
  by_cases hlt : i < xs.length
  · refine .inr ⟨⟨xs, xs[i], q, by simp [hlt]⟩, Pv (i + 1), fun σ' H' p' => ⟨xs.length - (i + 1), by omega, rfl, hlt, p'⟩, fun x H' y => ?_⟩
    obtain ⟨e, y⟩ := y
    subst e
    exact hs i x σ _ (y xs q) p
  · have e : i = xs.length := by omega
    subst e
    exact .inl ⟨⟨xs, q, Nat.le_refl _⟩, hd σ H p⟩
theorem for_range {lo : Int} {n : Nat} {g : TG} {tb : TS} {D : Ends} {σ : St} {H : Hp} (Pv : Nat → St → Hp → Prop) (h0 : Pv 0 σ H)
    (hs : ∀ i σ H, i < n → Pv i σ H → g (.int (lo + i)) σ H fun σ2 H2 => tb { D with nx := Pv (i + 1), ct := Pv (i + 1), bk := D.nx } σ2 H2) (hd : ∀ σ H, Pv n σ H → D.nx σ H) :
    ∃ W : Nat → Nat → St → Hp → Prop, (∃ m, W 0 m σ H) ∧ ∀ i m σ H, W i m σ H →
      ((Itr lo n).stop i H ∧ D.nx σ H) ∨ ((Itr lo n).go i H ∧ ∃ N : St → Hp → Prop, (∀ σ' H', N σ' H' → ∃ m', m' < m ∧ W (i + 1) m' σ' H') ∧ ∀ x H', (Itr lo n).yld i H x H' → g x σ H' fun σ2 H2 => tb { D with nx := N, ct := N, bk := D.nx } σ2 H2) := by
  refine ⟨fun i m σ H => m = n - i ∧ i ≤ n ∧ Pv i σ H, ⟨n, by simp, Nat.zero_le _, h0⟩, ?_⟩
  rintro i m σ H ⟨rfl, hi, p⟩
  by_cases hlt : i < n
  · refine .inr ⟨hlt, Pv (i + 1), fun σ' H' p' => ⟨n - (i + 1), by omega, rfl, hlt, p'⟩, fun x H' y => ?_⟩
    obtain ⟨e, y⟩ := y
    subst e y
    exact hs i σ _ hlt p
  · have e : i = n := by omega
    subst e
    exact .inl ⟨Nat.le_refl _, hd σ H p⟩
/-- while, by a word and a measure of the state -/
theorem while_by {c : TT} {tb : TS} {D : Ends} {σ : St} {H : Hp} (Pv : St → Hp → Prop) (μ : St → Hp → Nat) (h0 : Pv σ H)
    (hs : ∀ σ H, Pv σ H → c σ H fun b H1 => if b = true then tb { D with nx := fun σ' H' => Pv σ' H' ∧ μ σ' H' < μ σ H, ct := fun σ' H' => Pv σ' H' ∧ μ σ' H' < μ σ H, bk := D.nx } σ H1 else D.nx σ H1)
    (mono : ∀ σ H Q Q', (∀ b H1, Q b H1 → Q' b H1) → c σ H Q → c σ H Q') : tWhile c tb D σ H := by
  refine ⟨fun m σ H => m = μ σ H ∧ Pv σ H, ⟨_, rfl, h0⟩, ?_⟩
  rintro m σ H ⟨rfl, p⟩
  refine mono σ H _ _ (fun b H1 q => ?_) (hs σ H p)
  cases b with
  | true => exact ⟨_, fun σ' H' ⟨p', l⟩ => ⟨_, l, rfl, p'⟩, q⟩
  | false => exact q
end L2

namespace L2
open PySem PySem.Spec PyProof.Rows

abbrev R2 := V → V → Hp → VK → Prop
/-- a two-place operation on values: f is binaryOp op, inplaceOp op or compareOp op -/
def OpR (X : Cx) (f : Value → Value → Sem Value) (r : R2) : Prop :=
  ∀ (pins : List (Addr × Obj)) (s : Shared) (σ : St) (H : Hp) (x y : V) (v u : Value) (Q : VK), Inv X pins σ H s → RelV x v → RelV y u → r x y H Q →
    wpAny (model X.prog X.w) X.A (f v u) (EP X pins σ Q) X.xe s
/-- a one-place operation -/
def UnR (X : Cx) (f : Value → Sem Value) (r : V → Hp → VK → Prop) : Prop :=
  ∀ (pins : List (Addr × Obj)) (s : Shared) (σ : St) (H : Hp) (x : V) (v : Value) (Q : VK), Inv X pins σ H s → RelV x v → r x H Q →
    wpAny (model X.prog X.w) X.A (f v) (EP X pins σ Q) X.xe s
/-- a call of a value that is known (a builtin, a type) with values -/
def CallR (X : Cx) (f : Value) (r : List V → Hp → VK → Prop) : Prop :=
  ∀ (pins : List (Addr × Obj)) (s : Shared) (σ : St) (H : Hp) (xs : List V) (us : List Value) (Q : VK), Inv X pins σ H s → Vals xs us → r xs H Q →
    wpAny (model X.prog X.w) X.A (call f us) (EP X pins σ Q) X.xe s
/-- a value's truth -/
def TruR (X : Cx) (r : V → Hp → (Bool → Hp → Prop) → Prop) : Prop :=
  ∀ (pins : List (Addr × Obj)) (s : Shared) (σ : St) (H : Hp) (x : V) (v : Value) (Q : Bool → Hp → Prop), Inv X pins σ H s → RelV x v → r x H Q →
    wpAny (model X.prog X.w) X.A (truthy v) (TP X pins σ Q) X.xe s

def tOp (r : R2) (ta tb : TE) : TE := fun σ H Q => ta σ H fun x H1 => tb σ H1 fun y H2 => r x y H2 Q
def tUn (r : V → Hp → VK → Prop) (ta : TE) : TE := fun σ H Q => ta σ H fun x H1 => r x H1 Q
/-- ints in, under C, and a value out -/
def rI (C : Int → Int → Prop) (g : Int → Int → V) : R2 := fun x y H Q => ∃ i j, x = .int i ∧ y = .int j ∧ C i j ∧ Q (g i j) H
def rI0 (g : Int → Int → V) : R2 := fun x y H Q => ∃ i j, x = .int i ∧ y = .int j ∧ Q (g i j) H
def rU (g : Int → V) : V → Hp → VK → Prop := fun x H Q => ∃ i, x = .int i ∧ Q (g i) H

section
variable {X : Cx} {a b c : Expr} {ta tb tc : TE} {pos : Pos}

theorem binT (ha : PE X a ta) (hb : PE X b tb) {pins : List (Addr × Obj)} {s : Shared} {σ : St} {H : Hp} {R : V → V → Hp → Prop} (I : Inv X pins σ H s)
    (h : ta σ H fun x H1 => tb σ H1 fun y H2 => R x y H2) {Q : Value → Shared → Prop} {f : Value → Value → Sem Value}
    (hf : ∀ v u s2 x y H2, Inv X pins σ H2 s2 → RelV x v → RelV y u → R x y H2 → wpAny (model X.prog X.w) X.A (f v u) Q X.xe s2) :
    wpAny (model X.prog X.w) X.A (eval a X.env) (fun v s₁ => wpAny (model X.prog X.w) X.A (eval b X.env) (fun u s₂ => wpAny (model X.prog X.w) X.A (f v u) Q X.xe s₂) X.xe s₁) X.xe s := by
  refine thn (ha pins s σ H _ I h) fun v s1 ⟨x, H1, I1, r1, q1⟩ => ?_
  refine thn (hb pins s1 σ H1 _ I1 q1) fun u s2 ⟨y, H2, I2, r2, q2⟩ => ?_
  exact hf v u s2 x y H2 I2 r1 r2 q2

theorem pe_op {op : Operator} {r : R2} (ho : OpR X (binaryOp op) r) (ha : PE X a ta) (hb : PE X b tb) : PE X (.BinOp a op b pos) (tOp r ta tb) := by
  intro pins s σ H Q I h
  exact wpAny_BinOp (binT ha hb I h fun v u s2 x y H2 I2 rx ry q => ho pins s2 σ H2 x y v u Q I2 rx ry q)
theorem pe_un {op : UnaryOp} {r : V → Hp → VK → Prop} (ho : UnR X (unaryOp op) r) (ha : PE X a ta) : PE X (.UnaryOp op a pos) (tUn r ta) := by
  intro pins s σ H Q I h
  exact UnaryOp_ (thn (ha pins s σ H _ I h) fun v s1 ⟨x, H1, I1, r1, q1⟩ => ho pins s1 σ H1 x v Q I1 r1 q1)
/-! ### ints -/
theorem opI {f : Value → Value → Sem Value} {C : Int → Int → Prop} {g : Int → Int → Int}
    (rule : ∀ (i j : Int) (t u : Tok) (s : Shared) (Q : Value → Shared → Prop) (E : Value → Shared → Prop), C i j → Q (.int (g i j) s.toks) { s with toks := s.toks + 1 } → wpAny (model X.prog X.w) X.A (f (.int i t) (.int j u)) Q E s) :
    OpR X f (rI C fun i j => .int (g i j)) := by
  intro pins s σ H x y v u Q I rx ry h
  obtain ⟨i, j, rfl, rfl, hc, q⟩ := h
  obtain ⟨t, rfl⟩ := rx
  obtain ⟨t', rfl⟩ := ry
  exact rule i j t t' s _ _ hc ⟨.int (g i j), H, I.tok _, ⟨_, rfl⟩, q⟩
theorem opI0 {f : Value → Value → Sem Value} {g : Int → Int → Int}
    (rule : ∀ (i j : Int) (t u : Tok) (s : Shared) (Q : Value → Shared → Prop) (E : Value → Shared → Prop), Q (.int (g i j) s.toks) { s with toks := s.toks + 1 } → wpAny (model X.prog X.w) X.A (f (.int i t) (.int j u)) Q E s) :
    OpR X f (rI0 fun i j => .int (g i j)) := by
  intro pins s σ H x y v u Q I rx ry h
  obtain ⟨i, j, rfl, rfl, q⟩ := h
  obtain ⟨t, rfl⟩ := rx
  obtain ⟨t', rfl⟩ := ry
  exact rule i j t t' s _ _ ⟨.int (g i j), H, I.tok _, ⟨_, rfl⟩, q⟩
theorem opB0 {f : Value → Value → Sem Value} {g : Int → Int → Bool}
    (rule : ∀ (i j : Int) (t u : Tok) (s : Shared) (Q : Value → Shared → Prop) (E : Value → Shared → Prop), Q (.bool (g i j)) s → wpAny (model X.prog X.w) X.A (f (.int i t) (.int j u)) Q E s) :
    OpR X f (rI0 fun i j => .bl (g i j)) := by
  intro pins s σ H x y v u Q I rx ry h
  obtain ⟨i, j, rfl, rfl, q⟩ := h
  obtain ⟨t, rfl⟩ := rx
  obtain ⟨t', rfl⟩ := ry
  exact rule i j t t' s _ _ ⟨.bl (g i j), H, I, rfl, q⟩

def CPow (i j : Int) : Prop := 0 ≤ j ∧ j ≤ 1000000 ∧ i.natAbs < 2 ^ 64
def CMul (i j : Int) : Prop := (-(2 ^ 64) < i ∧ i < 2 ^ 64) ∨ (-(2 ^ 64) < j ∧ j < 2 ^ 64)
theorem CMul.ok {i j : Int} (h : CMul i j) : IntMulOk i j := by
  rcases h with ⟨h1, h2⟩ | ⟨h1, h2⟩
  · exact .of_left (intBits_le_64 h1 h2)
  · exact .of_right (intBits_le_64 h1 h2)
theorem op_add : OpR X (binaryOp .Add) (rI0 fun i j => .int (i + j)) := opI0 fun _ _ _ _ _ _ _ q => add_int q
theorem op_sub : OpR X (binaryOp .Sub) (rI0 fun i j => .int (i - j)) := opI0 fun _ _ _ _ _ _ _ q => sub_int q
/-- % by a positive divisor of any size -/
theorem op_mod : OpR X (binaryOp .Mod) (rI (fun _ j => 0 < j) fun i j => .int (i % j)) := opI fun i j _ _ _ _ _ hc q => by
  have h1 : (0 : Int) < j := hc
  exact mod_int' (by omega) (by rw [Int.fmod_eq_emod_of_nonneg i (by omega)]; exact q)
theorem op_pow : OpR X (binaryOp .Pow) (rI CPow fun i j => .int (i ^ j.toNat)) := opI fun _ _ _ _ _ _ _ hc q => pow_int_small hc.1 hc.2.1 hc.2.2 q
theorem unI {f : Value → Sem Value} {g : Int → Int}
    (rule : ∀ (i : Int) (t : Tok) (s : Shared) (Q : Value → Shared → Prop) (E : Value → Shared → Prop), Q (.int (g i) s.toks) { s with toks := s.toks + 1 } → wpAny (model X.prog X.w) X.A (f (.int i t)) Q E s) :
    UnR X f (rU fun i => .int (g i)) := by
  intro pins s σ H x v Q I rx h
  obtain ⟨i, rfl, q⟩ := h
  obtain ⟨t, rfl⟩ := rx
  exact rule i t s _ _ ⟨.int (g i), H, I.tok _, ⟨_, rfl⟩, q⟩
theorem un_neg : UnR X (unaryOp .USub) (rU fun i => .int (-i)) := unI fun _ _ _ _ _ q => neg_int q
/-! ### bools among ints: n += (a < b) -/
end

/-! ### comparisons -/
section
variable {X : Cx} {a b c : Expr} {ta tb tc : TE} {pos : Pos}
theorem fin_bl {pins : List (Addr × Obj)} {σ : St} {H : Hp} {s : Shared} {Q : VK} {k k' : Bool} (I : Inv X pins σ H s) (q : Q (.bl k) H) (e : k = k') : EP X pins σ Q (.bool k') s := by
  subst e
  exact ⟨.bl k, H, I, rfl, q⟩
theorem op_lt : OpR X (compareOp .Lt) (rI0 fun i j => .bl (decide (i < j))) := opB0 fun _ _ _ _ _ _ _ q => lt_int q
theorem op_le : OpR X (compareOp .LtE) (rI0 fun i j => .bl (decide (i ≤ j))) := opB0 fun _ _ _ _ _ _ _ q => le_int q
theorem op_gt : OpR X (compareOp .Gt) (rI0 fun i j => .bl (decide (j < i))) := opB0 fun _ _ _ _ _ _ _ q => gt_int q
theorem op_ge : OpR X (compareOp .GtE) (rI0 fun i j => .bl (decide (j ≤ i))) := opB0 fun _ _ _ _ _ _ _ q => ge_int q
theorem op_notN : OpR X (compareOp .IsNot) (fun x y H Q => y = .non ∧ Q (.bl (!decide (x = .non))) H) := by
  intro pins s σ H x y v u Q I rx ry h
  obtain ⟨rfl, q⟩ := h
  cases ry
  refine isnot_none_gen (fin_bl I q ?_)
  cases x <;> first
    | (cases rx; rfl)
    | (obtain ⟨t, rfl⟩ := rx; rfl)

/-- two rules for one operation: by cases -/
theorem OpR.or {f : Value → Value → Sem Value} {r r' : R2} (h : OpR X f r) (h' : OpR X f r') : OpR X f (fun x y H Q => r x y H Q ∨ r' x y H Q) := by
  intro pins s σ H x y v u Q I rx ry q
  rcases q with q | q
  · exact h pins s σ H x y v u Q I rx ry q
  · exact h' pins s σ H x y v u Q I rx ry q

theorem nomark (b : Expr) {op : CmpOp} (h : op ≠ .In := by decide) (h2 : op ≠ .NotIn := by decide) : behindInMarks op b = false := by
  have e1 : (op == CmpOp.In) = false := by cases op <;> first | rfl | exact absurd rfl h
  have e2 : (op == CmpOp.NotIn) = false := by cases op <;> first | rfl | exact absurd rfl h2
  cases b <;> simp [behindInMarks, e1, e2]
/-- a comparison as a value; hm: nomark b, or (for in, not in) by with_unfolding_all rfl -/
theorem pe_cmpR {op : CmpOp} {r : R2} (ho : OpR X (compareOp op) r) (ha : PE X a ta) (hb : PE X b tb) (hm : behindInMarks op b = false) : PE X (.Compare a [op] [b] pos) (tOp r ta tb) := by
  intro pins s σ H Q I h
  exact wpAny_Compare1 (binT ha hb I h fun v u s2 x y H2 I2 rx ry q => ho pins s2 σ H2 x y v u Q I2 rx ry q) hm
/-- a reading of a value as a test -/
def tTest (t : TE) : TT := fun σ H Q => t σ H fun x H' => ∃ k, x = .bl k ∧ Q k H'
theorem pt_cmpR {op : CmpOp} {r : R2} (ho : OpR X (compareOp op) r) (ha : PE X a ta) (hb : PE X b tb) (hm : behindInMarks op b = false) : PT X (.Compare a [op] [b] pos) (tTest (tOp r ta tb)) := by
  intro pins s σ H Q I h
  refine wpAny_isTrue_Compare1 (thn (ha pins s σ H _ I h) fun v s1 ⟨x, H1, I1, r1, q1⟩ => thn (hb pins s1 σ H1 _ I1 q1) fun u s2 ⟨y, H2, I2, r2, q2⟩ =>
    thn (ho pins s2 σ H2 x y v u _ I2 r1 r2 q2) fun c s3 ⟨z, H3, I3, r3, k, e, q3⟩ => ?_) hm
  subst e
  cases r3
  exact wpAny_truthy_bool ⟨H3, I3, q3⟩
/-- a op1 b op2 c -/
def tChain (r r' : R2) (ta tb tc : TE) : TE := fun σ H Q => ta σ H fun x H1 => tb σ H1 fun y H2 => r x y H2 fun z H3 => ∃ k, z = .bl k ∧
  (if k = true then tc σ H3 fun w' H4 => r' y w' H4 Q else Q (.bl false) H3)
theorem pe_chain {op op' : CmpOp} {r r' : R2} (ho : OpR X (compareOp op) r) (ho' : OpR X (compareOp op') r') (ha : PE X a ta) (hb : PE X b tb) (hc : PE X c tc)
    (hm : lastMarks [op, op'] [b, c] = false := by with_unfolding_all rfl) : PE X (.Compare a [op, op'] [b, c] pos) (tChain r r' ta tb tc) := by
  intro pins s σ H Q I h
  refine Compare_chain (thn (ha pins s σ H _ I h) fun v s1 ⟨x, H1, I1, r1, q1⟩ => chain_link (thn (hb pins s1 σ H1 _ I1 q1) fun u s2 ⟨y, H2, I2, r2, q2⟩ =>
    thn (ho pins s2 σ H2 x y v u _ I2 r1 r2 q2) fun d s3 ⟨z, H3, I3, r3, k, e, q3⟩ => ?_)) hm
  subst e
  cases r3
  refine wpAny_truthy_bool ?_
  cases k with
  | false => exact ite_ff ⟨.bl false, H3, I3, rfl, q3⟩
  | true => exact ite_tt (chain_last (thn (hc pins s3 σ H3 _ I3 q3) fun w' s4 ⟨z', H4, I4, r4, q4⟩ => ho' pins s4 σ H4 y z' u w' Q I4 r2 r4 q4))
/-! ### truth -/
/-- a value's truth by the abstract heap -/
def TruV (K : PySem.W.Frag) (x : V) (H : Hp) (k : Bool) : Prop :=
  match x with
  | .non => k = false
  | .bl b => k = b
  | .int i => k = (i != 0)
  | .str y => y.length ≤ sizeLine ∧ k = ((y.length : Int) != 0)
  | .byt y => y.size ≤ sizeLine ∧ k = ((y.size : Int) != 0)
  | .ref p => (∃ xs, SqL K H p xs ∧ k = !xs.isEmpty) ∨ (∃ xs, SqT K H p xs ∧ k = !xs.isEmpty) ∨ ∃ kvs, H p = some (.dK kvs) ∧ k = !kvs.isEmpty
  | _ => False
theorem isEmpty_kv {κ : Type} {kvs : List (κ × V)} {vs : List (κ × Value)} (r : KV kvs vs) : (!vs.isEmpty) = !kvs.isEmpty := by
  cases r <;> rfl
theorem isEmpty_of {xs : List V} {its : List Value} (r : Vals xs its) : (!its.toArray.isEmpty) = !xs.isEmpty := by
  cases r <;> simp
theorem line63 : (sizeLine : Nat) < 2 ^ 63 := by rw [sizeLine_eq]; decide
theorem tru_ok : TruR X (fun x H Q => ∃ k, TruV X.K x H k ∧ Q k H) := by
  intro pins s σ H x v Q I rx h
  obtain ⟨k, e, q⟩ := h
  have hl := line63
  have hs : sizeLine = 16777216 := sizeLine_eq
  cases x with
  | non =>
    cases rx
    have e' : k = false := e
    subst e'
    exact truthy_none ⟨H, I, q⟩
  | bl b =>
    cases rx
    have e' : k = b := e
    subst e'
    exact wpAny_truthy_bool ⟨H, I, q⟩
  | int i =>
    obtain ⟨t, rfl⟩ := rx
    have e' : k = (i != 0) := e
    subst e'
    exact PySem.P.truthy_int ⟨H, I, q⟩
  | str y =>
    obtain ⟨t, rfl⟩ := rx
    obtain ⟨hy, e'⟩ : y.length ≤ sizeLine ∧ k = ((y.length : Int) != 0) := e
    subst e'
    exact PySem.P.truthy_str (by omega) ⟨H, I.tok _, q⟩
  | byt y =>
    obtain ⟨t, rfl⟩ := rx
    obtain ⟨hy, e'⟩ : y.size ≤ sizeLine ∧ k = ((y.size : Int) != 0) := e
    subst e'
    exact PySem.W.truthy_bytes (by omega) ⟨H, I.tok _, q⟩
  | ref p =>
    cases rx
    have e' : (∃ xs, SqL X.K H p xs ∧ k = !xs.isEmpty) ∨ (∃ xs, SqT X.K H p xs ∧ k = !xs.isEmpty) ∨ ∃ kvs, H p = some (.dK kvs) ∧ k = !kvs.isEmpty := e
    rcases e' with ⟨xs, hx, e'⟩ | ⟨xs, hx, e'⟩ | ⟨kvs, hx, e'⟩
    · subst e'
      obtain ⟨its, r, pl, hz⟩ := I.list hx
      have hlen := r.length
      exact wpAny_truthy_list pl.isList (by simp only [List.size_toArray]; omega) ⟨H, I.tok _, by rw [isEmpty_of r]; exact q⟩
    · subst e'
      obtain ⟨its, r, pl, hz⟩ := I.tuple hx
      have hlen := r.length
      exact truthy_tuple pl (by simp only [List.size_toArray]; omega) ⟨H, I.tok _, by rw [isEmpty_of r]; exact q⟩
    · subst e'
      obtain ⟨hz, hS, vs, r, m⟩ : kvs.length ≤ sizeLine ∧ (p == sysModules) = false ∧ ∃ vs, KV kvs vs ∧ s.heap.DictOf (mixKind X.prog X.w) p vs := I.hok p _ hx
      have hlen : kvs.length = vs.length := Paired.length r
      exact wpAny_truthy_dict hS m (by omega) ⟨H, I.tok _, by rw [isEmpty_kv r]; exact q⟩
  | _ => exact (show False from e).elim
/-- any expression whose test is its value's truth (a name, a call, a subscript, a field ..: he by fun _ => rfl) -/
theorem pt_truth (ha : PE X a ta) (he : ∀ whole, isTrue a X.env whole = (do let v ← whole; standAt a.pos; holding [v] (truthy v))) :
    PT X a (fun σ H Q => ta σ H fun x H' => ∃ k, TruV X.K x H' k ∧ Q k H') := by
  intro pins s σ H Q I h
  exact isTrue_plain (thn (ha pins s σ H _ I h) fun v s1 ⟨x, H1, I1, r1, q1⟩ => tru_ok pins s1 σ H1 x v Q I1 r1 q1) (he _)

/-! ### strs and bytes -/
/-! ### scalar builtins, by CallR -/
theorem vals1 {x : V} {us : List Value} (r : Vals [x] us) : ∃ u, us = [u] ∧ RelV x u := by
  cases r with
  | cons r1 r2 => cases r2; exact ⟨_, rfl, r1⟩
theorem vals2 {x y : V} {us : List Value} (r : Vals [x, y] us) : ∃ u w', us = [u, w'] ∧ RelV x u ∧ RelV y w' := by
  cases r with
  | cons r1 r2 =>
    cases r2 with
    | cons r3 r4 => cases r4; exact ⟨_, _, rfl, r1, r3⟩
theorem call_abs : CallR X (.builtin "abs") (fun xs H Q => ∃ i, xs = [.int i] ∧ Q (.int (if i < 0 then -i else i)) H) := by
  intro pins s σ H xs us Q I r h
  obtain ⟨i, rfl, q⟩ := h
  obtain ⟨u, rfl, t, rfl⟩ := vals1 r
  exact call_abs_int fun u tk => ⟨.int (if i < 0 then -i else i), H, I.tok _, ⟨_, rfl⟩, q⟩
theorem call_max2 (hc : X.calm = true) : CallR X (.builtin "max") (fun xs H Q => ∃ i j, xs = [.int i, .int j] ∧ Q (.int (if j > i then j else i)) H) := by
  intro pins s σ H xs us Q I r h
  obtain ⟨i, j, rfl, q⟩ := h
  obtain ⟨u, w', rfl, ⟨t, rfl⟩, ⟨t', rfl⟩⟩ := vals2 r
  refine max_two_ints (I.ok.hd hc) fun h' tk k => ⟨_, H, I.kept k, ?_, q⟩
  by_cases hj : j > i
  · rw [if_pos hj, if_pos hj]; exact ⟨_, rfl⟩
  · rw [if_neg hj, if_neg hj]; exact ⟨_, rfl⟩
theorem call_min2 (hc : X.calm = true) : CallR X (.builtin "min") (fun xs H Q => ∃ i j, xs = [.int i, .int j] ∧ Q (.int (if j < i then j else i)) H) := by
  intro pins s σ H xs us Q I r h
  obtain ⟨i, j, rfl, q⟩ := h
  obtain ⟨u, w', rfl, ⟨t, rfl⟩, ⟨t', rfl⟩⟩ := vals2 r
  refine min_two_ints (I.ok.hd hc) fun h' tk k => ⟨_, H, I.kept k, ?_, q⟩
  by_cases hj : j < i
  · rw [if_pos hj, if_pos hj]; exact ⟨_, rfl⟩
  · rw [if_neg hj, if_neg hj]; exact ⟨_, rfl⟩
theorem call_int1 : CallR X (.type "int") (fun xs H Q => (∃ i, xs = [.int i] ∧ Q (.int i) H) ∨ ∃ k, xs = [.bl k] ∧ Q (.int (if k then 1 else 0)) H) := by
  intro pins s σ H xs us Q I r h
  rcases h with ⟨i, rfl, q⟩ | ⟨k, rfl, q⟩
  · obtain ⟨u, rfl, t, rfl⟩ := vals1 r
    exact call_int_int ⟨.int i, H, I, ⟨_, rfl⟩, q⟩
  · obtain ⟨u, rfl, r1⟩ := vals1 r
    cases r1
    exact call_int_bool ⟨.int (if k then 1 else 0), H, I.tok _, ⟨_, rfl⟩, q⟩
end
end L2

namespace L2
open PySem PySem.Spec PyProof.Rows

/-! ### an instance, its attributes a map -/
section
variable {prog : Program} {w : World} {A : Around} {E : Value → Shared → Prop} {s : Shared} {K : PySem.W.Frag} {x dx C f : Addr} {mA : Str → Option Value} {name : Str} {v : Value}

end

/-! ### the attributes as a list of pairs -/
section
variable {P : Program} {w : World} {H H' : Hp} {h h' : Heap} {a C dx : Addr} {fs fs' : List (Str × V)}
end

/-! ### what of the text a class must have -/
structure Cls (K : PySem.W.Frag) (C : Addr) : Prop where
  pg : PySem.W.plainGet K C Str.empty = true
  hd : PySem.W.hasDictIn K C = true
  po : PySem.W.plainOver K C = true
  sa : PySem.W.findIn K (.ref C) "__setattr__" = some (some (.builtin "object.__setattr__"))
theorem Cls.get {K : PySem.W.Frag} {C : Addr} (c : Cls K C) (f : Str) : PySem.W.plainGet K C f = true := c.pg
section
variable {X : Cx} {pins : List (Addr × Obj)} {σ : St} {H : Hp} {s : Shared} {a C dx : Addr} {fs : List (Str × V)} {f : Str} {v : V} {A : Around} {E : Value → Shared → Prop}

/-- a new instance, tracked, without attributes -/
theorem Inv.made (I : Inv X pins σ H s) : Inv X pins σ (upd (upd H s.heap.objs.size (.own (s.heap.objs.size + 1))) (s.heap.objs.size + 1) (.ins C s.heap.objs.size []))
    { s with heap := (s.heap.push PySem.W.emptyDict).push (PySem.W.instObj C s.heap.objs.size) } := by
  have e1 : (s.heap.push PySem.W.emptyDict).get? s.heap.objs.size = some PySem.W.emptyDict := Heap.get?_push_size s.heap rfl
  have e2 : ((s.heap.push PySem.W.emptyDict).push (PySem.W.instObj C s.heap.objs.size)).get? (s.heap.objs.size + 1) = some (PySem.W.instObj C s.heap.objs.size) := by
    have := Heap.get?_push_size (s.heap.push PySem.W.emptyDict) (o := PySem.W.instObj C s.heap.objs.size) rfl
    rwa [Heap.size_push] at this
  have e3 : (s.heap.push PySem.W.emptyDict).Ns s.heap.objs.size (fun _ => none) := ⟨PySem.W.emptyDict, #[], _, e1, rfl, (fun e he => absurd he (by simp)), fun _ => rfl⟩
  have I1 := I.laid (a := s.heap.objs.size) (o := .own (s.heap.objs.size + 1)) (h' := s.heap.push PySem.W.emptyDict) (t' := s.toks) (fun b u q => Heap.get?_push_of_some _ q) (Nat.le_refl _) ⟨_, e1⟩
  refine I1.laid (a := s.heap.objs.size + 1) (o := .ins C s.heap.objs.size []) (t' := s.toks) (fun b u q => Heap.get?_push_of_some _ q) (Nat.le_of_eq (Heap.size_push _ _)) ?_
  have ne : s.heap.objs.size ≠ s.heap.objs.size + 1 := Nat.ne_of_lt (Nat.lt_succ_self _)
  refine ⟨by rw [upd_ne ne, upd_same], Nat.zero_le _, ne, e2, fun _ => none, (Heap.Ns1.of_empty e3).at fun o q => Heap.get?_push_of_some _ q, fun _ => True.intro, fun y hy => absurd rfl hy⟩

end

/-! ### readings and rules -/
section
variable {X : Cx} {o e value : Expr} {f : Str} {pos pos' tpos : Pos} {ta tv : TE}
end

/-! ### isinstance -/
section
variable {X : Cx} {pins : List (Addr × Obj)} {σ : St} {H : Hp} {s : Shared} {A : Around} {E : Value → Shared → Prop} {Q : Value → Shared → Prop} {c : Value} {b : Bool}
end
end L2

namespace L2
open PySem PySem.Spec PyProof.Rows

/-! ### room -/
structure Room (k : Nat) (A : Around) : Prop where
  hd : A.handled = none
  dp : A.depth + 3 * k + 5 < recursionLimit
  un : A.units + 16 * k + 200 < cLine
theorem Room.mono {j k : Nat} {A : Around} (r : Room k A) (h : j ≤ k) : Room j A := ⟨r.hd, by have := r.dp; omega, by have := r.un; omega⟩
theorem Room.deeper {k : Nat} {A : Around} (r : Room (k + 1) A) (env : Env) : Room k (A.deeper env) :=
  ⟨r.hd, by have := r.dp; show A.depth + 1 + 3 * k + 5 < _; omega, by have := r.un; show A.units + 3 + 16 * k + 200 < _; omega⟩
theorem Room.in1 {k : Nat} {A : Around} (r : Room (k + 1) A) : Room k A.in1 :=
  ⟨r.hd, by have := r.dp; show A.depth + 3 * k + 5 < _; omega, by have := r.un; show A.units + 1 + 16 * k + 200 < _; omega⟩
theorem Room.depth {k : Nat} {A : Around} (r : Room k A) : A.depth < recursionLimit := by have := r.dp; omega
theorem Room.units {k : Nat} {A : Around} (r : Room k A) : A.units + 64 < cLine := by have := r.un; omega
/-! ### argument lists and displays -/
def tNil : TA := fun _ H Q => Q [] H
def tCons (ta : TE) (tr : TA) : TA := fun σ H Q => ta σ H fun x H1 => tr σ H1 fun xs H2 => Q (x :: xs) H2
section
variable {X : Cx} {e : Expr} {es : List Expr} {te : TE} {t : TA} {pos : Pos}
theorem pa_nil : PA X [] tNil := fun _ _ _ _ H Q I h => Calls.spliced_nil ⟨[], H, I, .nil, h⟩
theorem pa_cons (ha : PE X e te) (hr : PA X es t) (hs : starEach (e :: es) X.env = (false, eval e X.env) :: starEach es X.env := by rfl) : PA X (e :: es) (tCons te t) := by
  intro pos pins s σ H Q I h
  rw [hs]
  show wpAny _ _ (spliced ((false, eval e X.env) :: backTo pos (starEach es X.env))) _ _ s
  refine Calls.spliced_cons (thn (ha pins s σ H _ I h) fun u s1 ⟨x, H1, I1, r1, q1⟩ => ?_)
  exact thn (hr pos pins s1 σ H1 _ I1 q1) fun us s2 ⟨xs, H2, I2, r2, q2⟩ => ⟨x :: xs, H2, I2, .cons r1 r2, q2⟩

end

/-! ### what a def promises -/
/-- a def's promise: the bound arguments in the parameters' order, the heap, the wanted end, the wanted exception -/
abbrev Sp := List V → Hp → VK → XK → Prop
/-- how an exception lies behind a call (file 08 gives it): the callers' frames, abstract heap and state ahead of the call, the wish, the exception, the state -/
abbrev CXT := List Env → Hp → Shared → XK → Value → Shared → Prop

/-- the state at a call -/
structure Env0 (P : Program) (w : World) (K : PySem.W.Frag) (mg : Str → Option Value) (base : Heap) (A : Around) (outer : List Env) (s : Shared) (H : Hp) : Prop where
  frames : A.frames = some outer
  mod : Mod K mg base
  bs : ∀ b o, base.get? b = some o → s.heap.get? b = some o ∧ H b = none
  bsz : base.objs.size ≤ s.heap.objs.size
  funs : s.heap.FunFrames base outer
  frf : ∀ b ∈ frs outer, H b = none
  hok : HOk P w H s.heap
  bare : AllBare s.gens
/-- a call's end -/
def CE (outer : List Env) (P : Program) (w : World) (H : Hp) (s : Shared) (Q : VK) (u : Value) (s' : Shared) : Prop :=
  ∃ v H', s'.os = s.os ∧ AllBare s'.gens ∧ Un (frs outer) [] H H' s.heap s'.heap ∧ HOk P w H' s'.heap ∧ RelV v u ∧ Q v H'
def CR (CX : CXT) (outer : List Env) (P : Program) (w : World) (H : Hp) (s : Shared) (Q : VK) (E : XK) (r : Result) (s' : Shared) : Prop :=
  match r with
  | .ok (.ret u) => CE outer P w H s Q u s'
  | .ok _ => False
  | .error e => CX outer H s E e s'
structure FnOk (P : Program) (w : World) (K : PySem.W.Frag) (mg : Str → Option Value) (base : Heap) (CX : CXT) (k : Nat) (f : Addr) (fd : FuncData) (ps : List Str) (sp : Sp) : Prop where
  len : ∀ vs H Q E, sp vs H Q E → vs.length = ps.length
  run : ∀ (A : Around) (outer : List Env) (s : Shared) (H : Hp) (args : Args) (us : List Value) (vs : List V) (Q : VK) (E : XK), Room k A → Env0 P w K mg base A outer s H → BindsTo s fd args (ps.zip us) → Vals vs us → sp vs H Q E →
    codeAny (model P w) A (.call (.ref f) args) (CR CX outer P w H s Q E) s
theorem FnOk.mono {P : Program} {w : World} {K : PySem.W.Frag} {mg : Str → Option Value} {base : Heap} {CX : CXT} {j k : Nat} {f : Addr} {fd : FuncData} {ps : List Str} {sp : Sp} (F : FnOk P w K mg base CX j f fd ps sp) (h : j ≤ k) :
    FnOk P w K mg base CX k f fd ps sp := ⟨F.len, fun A outer s H args us vs Q E hr => F.run A outer s H args us vs Q E (hr.mono h)⟩
/-- a weaker promise -/
theorem FnOk.imp {P : Program} {w : World} {K : PySem.W.Frag} {mg : Str → Option Value} {base : Heap} {CX : CXT} {k : Nat} {f : Addr} {fd : FuncData} {ps : List Str} {sp sp' : Sp} (F : FnOk P w K mg base CX k f fd ps sp)
    (h : ∀ vs H Q E, sp' vs H Q E → sp vs H Q E) : FnOk P w K mg base CX k f fd ps sp' :=
  ⟨fun vs H Q E q => F.len vs H Q E (h _ _ _ _ q), fun A outer s H args us vs Q E hr he hb hv hs => F.run A outer s H args us vs Q E hr he hb hv (h _ _ _ _ hs)⟩

theorem Env0.in1 {P : Program} {w : World} {K : PySem.W.Frag} {mg : Str → Option Value} {base : Heap} {A : Around} {outer : List Env} {s : Shared} {H : Hp} (e : Env0 P w K mg base A outer s H) :
    Env0 P w K mg base A.in1 outer s H := ⟨e.frames, e.mod, e.bs, e.bsz, e.funs, e.frf, e.hok, e.bare⟩

section
variable {X : Cx} {pins : List (Addr × Obj)} {σ : St} {H : Hp} {s s' : Shared}
/-- from a body: what a callee wants -/
theorem Inv.env0 (I : Inv X pins σ H s) : Env0 X.prog X.w X.K X.mg X.base X.A X.stack s H :=
  ⟨I.ok.frames, I.ok.mod, I.bs, Nat.le_trans I.ok.bsz I.sz, I.stack, I.stkFree, I.hok, I.bare⟩
/-- behind a call -/
theorem Inv.after {Q : VK} {u : Value} (I : Inv X pins σ H s) (h : CE X.stack X.prog X.w H s Q u s') : EP X pins σ Q u s' := by
  obtain ⟨v, H', os, bare, un, hok, r, q⟩ := h
  obtain ⟨hh, g, d, t, os'⟩ := s'
  obtain rfl : os' = s.os := os
  exact ⟨v, H', I.call (h' := hh) (g' := g) (d' := d) (t' := t) (ch := []) un hok bare (fun b z => absurd z (by simp)), r, q⟩
end

/-! ### calls -/
/-- f(..): the written arguments, then the defaults dvs; E: what is wanted of an exception -/
def tCall (sp : Sp) (dvs : List V) (E : XK) (t : TA) : TE := fun σ H Q => t σ H fun vs H1 => sp (vs ++ dvs) H1 Q E
/-- how the parameters are bound: us the positional arguments, kw the keywords' values by name, ds the defaults that fill up -/
def Binds (K : PySem.W.Frag) (fd : FuncData) (ps : List Str) (ds : List Value) : Prop :=
  ∀ (s : Shared) (us : List Value), K.In s.heap → (us ++ ds).length = ps.length → BindsTo s fd ⟨us, []⟩ (ps.zip (us ++ ds))
/-- every parameter is given -/
theorem Binds.all {K : PySem.W.Frag} {fd : FuncData} {ps : List Str} (h : ∀ us : List Value, us.length = ps.length → bindArgs fd ⟨us, []⟩ = pure (ps.zip us)) : Binds K fd ps [] := fun s us _ hl => by
  rw [List.append_nil] at hl ⊢
  exact .of_eq (h us hl)

/-- an exception of a callee reaches what this body wants of exceptions -/
def Passes (CX : CXT) (X : Cx) (E : XK) : Prop := ∀ (pins : List (Addr × Obj)) (σ : St) (H : Hp) (s : Shared) (e : Value) (s' : Shared), Inv X pins σ H s → CX X.stack H s E e s' → X.xe e s'

section
variable {X : Cx} {CX : CXT} {k : Nat} {f C : Addr} {fd : FuncData} {ps : List Str} {sp : Sp} {dvs : List V} {ds : List Value} {E : XK} {x m : Str} {p pos apos : Pos} {e o : Expr} {es : List Expr} {ta : TE} {t : TA}

/-- the callee runs -/
theorem run_fn {pins : List (Addr × Obj)} {σ : St} {H : Hp} {s : Shared} {Q : VK} {us : List Value} {vs : List V} (F : FnOk X.prog X.w X.K X.mg X.base CX k f fd ps sp) (hr : Room k X.A) (hb : Binds X.K fd ps ds) (hd : Vals dvs ds) (hx : Passes CX X E)
    (I : Inv X pins σ H s) (r : Vals vs us) (h : sp (vs ++ dvs) H Q E) : wpAny (model X.prog X.w) X.A (call (.ref f) us) (EP X pins σ Q) X.xe s := by
  have r2 : Vals (vs ++ dvs) (us ++ ds) := r.append hd
  have hl : (us ++ ds).length = ps.length := by rw [← r2.length]; exact F.len _ _ _ _ h
  refine wpAny_call (codeAny_mono (F.run X.A X.stack s H ⟨us, []⟩ (us ++ ds) (vs ++ dvs) Q E hr I.env0 (hb s us I.kIn hl) r2 h) fun r s' hq => ?_)
  cases r with
  | error e => exact hx pins σ H s e s' I hq
  | ok fl =>
    cases fl with
    | ret u => exact I.after hq
    | next => exact False.elim hq
    | brk => exact False.elim hq
    | cont => exact False.elim hq

theorem pe_call (F : FnOk X.prog X.w X.K X.mg X.base CX k f fd ps sp) (hr : Room k X.A) (hg : Gl X x) (hm : X.mg x = some (.ref f)) (hk : PySem.W.keepIn X.K (.ref f) = true) (hb : Binds X.K fd ps ds) (hd : Vals dvs ds) (hx : Passes CX X E)
    (ha : PA X (e :: es) t) (hdb : (x == ("__debug__" : Str)) = false := by decide) (he : starEach (e :: es) X.env = (false, eval e X.env) :: starEach es X.env := by rfl) (hpl : (backTo pos (starEach es X.env)).any (·.1) = false := by rfl) :
    PE X (.Call (.Name x p) (e :: es) [] pos) (tCall sp dvs E t) := by
  intro pins s σ H Q I h
  refine wpAny_Call_Name_kw (ld_glob I hg hm ?_ hdb)
  refine PySem.W.callWith_K (h₀ := X.base) I.ok.mod.kin hk (thn (ha pos pins s σ H _ I h) fun us s1 ⟨vs, H1, I1, r, q⟩ => ⟨I1.kIn, ?_⟩) he hpl
  exact run_fn F hr hb hd hx I1 r q
end

/-! ### keywords -/
section
variable {X : Cx} {CX : CXT} {k : Nat} {f C : Addr} {fd : FuncData} {ps ks : List Str} {sp : Sp} {E : XK} {x m : Str} {p pos apos kpos : Pos} {e o : Expr} {es : List Expr} {kws : List Keyword} {te ta : TE} {t tk : TA} {nm : Option Str}
variable {g : List Value → List Value → List Value} {gV : List V → List V → List V}
end

/-! ### a def's body keeps its promise -/
/-- names: the parameters first -/
structure FnScope (N P : List Str) (sc : Scope) : Prop where
  kind : sc.kind = .function
  co : sc.isCoroutine = false
  gen : sc.isGenerator = false
  nd : N.Nodup
  pre : N.take P.length = P
  par : ∀ x ∈ P, sc.names.lookup x = some .local ∨ sc.names.lookup x = some .cell
  nofree : ∀ y ∈ sc.names, y.2 ≠ .free

theorem bindL_out {kindOf : Str → Option NameKind} {x : Str} : ∀ {binds : List (Str × Value)} {m : Str → Option Value}, (∀ v, (x, v) ∉ binds) → bindL kindOf binds m x = m x
  | [], _, _ => rfl
  | (n, v) :: r, m, h => by
    unfold bindL
    rw [bindL_out fun w hw => h w (List.mem_cons_of_mem _ hw)]
    split
    · have : x ≠ n := by rintro rfl; exact h v List.mem_cons_self
      simp [this]
    · rfl
theorem bindC_out {kindOf : Str → Option NameKind} {x : Str} : ∀ {binds : List (Str × Value)} {m : Str → Option Value}, (∀ v, (x, v) ∉ binds) → bindC kindOf binds m x = m x
  | [], _, _ => rfl
  | (n, v) :: r, m, h => by
    unfold bindC
    rw [bindC_out fun w hw => h w (List.mem_cons_of_mem _ hw)]
    split
    · rfl
    · have : x ≠ n := by rintro rfl; exact h v List.mem_cons_self
      simp [this]
theorem bindL_get {kindOf : Str → Option NameKind} {x : Str} {v : Value} : ∀ {P : List Str} {vs : List Value} {i : Nat} {m : Str → Option Value}, P.Nodup → P[i]? = some x → vs[i]? = some v → kindOf x = some .local →
    bindL kindOf (P.zip vs) m x = some v
  | [], _, _, _, _, h, _, _ => by simp at h
  | _ :: _, [], _, _, _, _, h, _ => by simp at h
  | p :: P, w :: vs, 0, m, nd, h1, h2, hk => by
    simp at h1 h2; subst h1; subst h2
    show bindL kindOf ((p, w) :: P.zip vs) m p = _
    unfold bindL
    rw [bindL_out fun v hv => (List.nodup_cons.mp nd).1 (List.of_mem_zip hv).1, if_pos hk]
    simp
  | p :: P, w :: vs, i + 1, m, nd, h1, h2, hk => by
    show bindL kindOf ((p, w) :: P.zip vs) m x = _
    unfold bindL
    exact bindL_get (i := i) (List.nodup_cons.mp nd).2 (by simpa using h1) (by simpa using h2) hk
theorem bindC_get {kindOf : Str → Option NameKind} {x : Str} {v : Value} : ∀ {P : List Str} {vs : List Value} {i : Nat} {m : Str → Option Value}, P.Nodup → P[i]? = some x → vs[i]? = some v → kindOf x ≠ some .local →
    bindC kindOf (P.zip vs) m x = some v
  | [], _, _, _, _, h, _, _ => by simp at h
  | _ :: _, [], _, _, _, _, h, _ => by simp at h
  | p :: P, w :: vs, 0, m, nd, h1, h2, hk => by
    simp at h1 h2; subst h1; subst h2
    show bindC kindOf ((p, w) :: P.zip vs) m p = _
    unfold bindC
    rw [bindC_out fun v hv => (List.nodup_cons.mp nd).1 (List.of_mem_zip hv).1, if_neg hk]
    simp
  | p :: P, w :: vs, i + 1, m, nd, h1, h2, hk => by
    show bindC kindOf ((p, w) :: P.zip vs) m x = _
    unfold bindC
    exact bindC_get (i := i) (List.nodup_cons.mp nd).2 (by simpa using h1) (by simpa using h2) hk

/-- the names' values at the entry -/
def start (N : List Str) (vs : List V) : St := vs.map some ++ List.replicate (N.length - vs.length) none

/-- the context of a def's body, at its entry; an exception leaves the frame, then lies as CX says -/
def cxOf (CX : CXT) (P : Program) (w : World) (K : PySem.W.Frag) (mg : Str → Option Value) (base : Heap) (N : List Str) (qual : Str) (scope : Scope) (f : Addr) (cd : Value) (A : Around) (outer : List Env) (s : Shared) (H : Hp) (E : XK) : Cx where
  prog := P
  w := w
  K := K
  mg := mg
  base := base
  A := A.deeper (envOfC qual scope s.heap.objs.size f cd)
  N := N
  s₀ := s
  H₀ := H
  env := envOfC qual scope s.heap.objs.size f cd
  outer := outer
  stack := envOfC qual scope s.heap.objs.size f cd :: outer
  ex := []
  calm := true
  fn := fun _ => true
  pn := []
  xe := fun e s' => wpAny (model P w) (A.deeper (envOfC qual scope s.heap.objs.size f cd)) (leaving (envOfC qual scope s.heap.objs.size f cd) e) (fun _ s'' => CX outer H s E e s'') (fun e' s'' => CX outer H s E e' s'') s'

theorem cell_has {sc : Scope} {n : Nat} {x : Str} (h : sc.names.lookup x = some .cell) : ∃ c, (cellsFrom n sc.names []).lookup x = some c := by
  have q := PySem.W.cellsFrom_some sc.names n [] (.inl h)
  exact Option.isSome_iff_exists.mp q

theorem inv_start {CX : CXT} {P : Program} {w : World} {K : PySem.W.Frag} {mg : Str → Option Value} {base : Heap} {N ps : List Str} {qual : Str} {scope : Scope} {f : Addr} {cd : Value} {A : Around} {outer : List Env} {s s1 : Shared} {H : Hp} {E : XK} {us : List Value} {vs : List V}
    (S : FnScope N ps scope) (hd : A.handled = none) (e0 : Env0 P w K mg base A outer s H) (hl : vs.length = ps.length) (r : Vals vs us)
    (x : InCallC s s.heap.objs.size (bindL (envOfC qual scope s.heap.objs.size f cd).kindOf (ps.zip us) fun _ => none) (cellsFrom (s.heap.objs.size + 1) scope.names []) (bindC (envOfC qual scope s.heap.objs.size f cd).kindOf (ps.zip us) fun _ => none) s1) :
    Inv (cxOf CX P w K mg base N qual scope f cd A outer s H E) [] (start N vs) H s1 := by
  have hpl : ps.length ≤ N.length := by have := congrArg List.length S.pre; rw [List.length_take] at this; omega
  obtain ⟨h1, tk, rfl, hk⟩ := x.done
  have noA : ∀ b : Addr, b ∉ (cxOf CX P w K mg base N qual scope f cd A outer s H E).ex := fun b z => absurd (show b ∈ ([] : List Addr) from z) (by simp)
  refine ⟨⟨e0.mod, S.kind, rfl, rfl, Nat.le_refl _, fun y z c h1 h2 => ?_, fun y hy => ?_, fun y c _ h => ?_, fun _ => hd, Around.frames_deeper e0.frames, .inr ⟨rfl, rfl⟩, fun b z => absurd z (noA b), e0.bs, e0.bsz, fun b _ _ => noA b, fun b z => absurd z (noA b), e0.funs, e0.frf⟩,
    rfl, e0.bare, Un.kept hk, ⟨_, x.toInCall.ns, fun i y v h1 h2 h3 => ?_⟩, fun y c h => ⟨_, x.cell y c h⟩, e0.hok.fresh (Nat.le_refl _), fun y c h => ?_, fun p hp => absurd (show p ∈ ([] : List (Addr × Obj)) from hp) (by simp), e0.hok.kept hk, ?_⟩
  · exact name_of_addr x.apart (PySem.mem_of_lookup h1) (PySem.mem_of_lookup h2)
  · have hy : scope.names.lookup y = some .cell ∨ scope.names.lookup y = some .free := hy
    rcases hy with hy | hy
    · exact cell_has hy
    · exact absurd rfl (S.nofree _ (PySem.mem_of_lookup hy))
  · exact Nat.le_of_lt (x.above y c (PySem.mem_of_lookup h))
  · have hi : i < vs.length := by
      unfold start at h2
      by_cases hi : i < vs.length
      · exact hi
      · rw [List.getElem?_append_right (by simpa using hi)] at h2
        rw [List.getElem?_replicate] at h2
        split at h2 <;> cases h2
    have ha : vs[i]? = some v := by
      unfold start at h2
      rw [List.getElem?_append_left (by simpa using hi), List.getElem?_map] at h2
      cases e : vs[i]? with
      | none => rw [e] at h2; cases h2
      | some a => rw [e] at h2; cases h2; rfl
    obtain ⟨u, hu, rv⟩ := r.get ha
    have hp : ps[i]? = some y := by
      rw [← S.pre, List.getElem?_take_of_lt (by omega)]; exact h1
    have ndP : ps.Nodup := by rw [← S.pre]; exact S.nd.sublist (List.take_sublist _ _)
    refine ⟨u, rv, ?_⟩
    rcases S.par y (List.mem_of_getElem? hp) with k | k
    · exact .inl ⟨k, bindL_get ndP hp hu k⟩
    · obtain ⟨c, e⟩ := cell_has (n := s.heap.objs.size + 1) k
      refine .inr ⟨.inl k, c, e, ?_⟩
      have q := x.cell y c e
      rw [bindC_get ndP hp hu (by show scope.names.lookup y ≠ _; rw [k]; decide)] at q
      exact q
  · exact e0.hok.fresh (Nat.le_of_lt (x.above y c (PySem.mem_of_lookup h)))
  · unfold start
    show _ = N.length
    rw [List.length_append, List.length_map, List.length_replicate]
    omega

/-- THE RULE: a def (or a method) of the text, by its body. The body's reading t is chosen for each entry; it is run at the parameters' values -/
theorem fn_of {CX : CXT} {P : Program} {w : World} {K : PySem.W.Frag} {mg : Str → Option Value} {base : Heap} {k : Nat} {f : Addr} {name qual : Str} {params : Arguments} {body : List Stmt} {scope : Scope} {dV kV doc pm cdv ct oc : Value} {an od : Option Addr}
    {osl : Array (Option Value)} {N ps : List Str} {sp : Sp} (lk : K.lookup f = some ⟨oc, od, .func (PySem.W.fnOf name qual params body scope dV kV doc pm an cdv ct), osl⟩) (hcd : PySem.W.codeIn K cdv qual = true) (S : FnScope N ps scope)
    (len : ∀ vs H Q E, sp vs H Q E → vs.length = ps.length)
    (hbody : ∀ (A : Around) (outer : List Env) (s : Shared) (H : Hp) (vs : List V) (Q : VK) (E : XK), Room k (A.deeper (envOfC qual scope s.heap.objs.size f cdv)) → sp vs H Q E →
      ∃ t, PSs (cxOf CX P w K mg base N qual scope f cdv A outer s H E) body t ∧ t { nx := fun _ H' => Q .non H', rt := Q } (start N vs) H) :
    FnOk P w K mg base CX (k + 1) f (PySem.W.fnOf name qual params body scope dV kV doc pm an cdv ct) ps sp := by
  refine ⟨len, fun A outer s H args us vs Q E hr e0 hb r hsp => ?_⟩
  have hl := len _ _ _ _ hsp
  have KX : K.In s.heap := e0.mod.kin.keeps fun b o e => (e0.bs b o e).1
  have lim : s.heap.NoLimit := e0.mod.nolimit.keeps fun b o e => (e0.bs b o e).1
  have hkind : ∀ y ∈ ps.zip us, scope.names.lookup y.1 = some .local ∨ (scope.names.lookup y.1 = some .cell ∧ ((cellsFrom (s.heap.objs.size + 1) scope.names []).lookup y.1).isSome = true) := fun ⟨n, v⟩ hy => by
    rcases S.par n (List.of_mem_zip hy).1 with q | q
    · exact .inl q
    · exact .inr ⟨q, PySem.W.cellsFrom_some _ _ _ (.inl q)⟩
  refine codeAny_call_function hr.depth (KX _ _ lk) rfl S.co S.gen rfl (PySem.W.codeRec_of KX hcd) (hb _ _ _ _ ?_)
  refine wpAny_newFunctionEnv_cells S.kind hkind fun env he s1 x => ?_
  subst he
  refine ⟨lim.keeps x.toInCall.keep, codeAny_func ?_⟩
  obtain ⟨t, ht, hq⟩ := hbody A outer s H vs Q E (hr.deeper _) hsp
  have I : Inv (cxOf CX P w K mg base N qual scope f cdv A outer s H E) [] (start N vs) H s1 := inv_start S hr.hd e0 hl r x
  refine wpAny_mono (ht [] s1 (start N vs) H _ I hq) (fun fl s' hs => ?_) fun e s' hs => hs
  have fin : ∀ {σ' : St} {H' : Hp} {v : V} {u : Value}, Inv (cxOf CX P w K mg base N qual scope f cdv A outer s H E) [] σ' H' s' → RelV v u → Q v H' → CE outer P w H s Q u s' :=
    fun {σ' H' v u} J rv q => ⟨v, H', J.os, J.bare, J.base, J.hok, rv, q⟩
  cases fl with
  | ret u =>
    obtain ⟨v, σ', H', J, rv, q⟩ := hs
    exact fin J rv q
  | next =>
    obtain ⟨σ', H', J, q⟩ := hs
    exact fin (v := V.non) (u := Value.none) J rfl q
  | brk =>
    obtain ⟨_, _, _, q⟩ := hs
    exact False.elim q
  | cont =>
    obtain ⟨_, _, _, q⟩ := hs
    exact False.elim q
end L2

namespace L2
open PySem PySem.Spec PyProof.Rows
section
variable {X : Cx} {x : Str} {p pos : Pos} {e : Expr} {es : List Expr} {t : TA} {id T : String} {r : List V → Hp → VK → Prop}

def tCB (r : List V → Hp → VK → Prop) (t : TA) : TE := fun σ H Q => t σ H fun vs H1 => r vs H1 Q
/-- f(e, ..), f a built-in function -/
theorem pe_callB (hc : CallR X (.builtin id) r) (hg : Gl X x) (hm : X.mg x = none) (hv : bootBuiltins x = some (.builtin id)) (ha : PA X (e :: es) t) (hn : x ≠ "__name__" := by decide) (hdb : (x == ("__debug__" : Str)) = false := by decide)
    (he : starEach (e :: es) X.env = (false, eval e X.env) :: starEach es X.env := by rfl) (hpl : (backTo pos (starEach es X.env)).any (·.1) = false := by rfl) : PE X (.Call (.Name x p) (e :: es) [] pos) (tCB r t) := by
  intro pins s σ H Q I h
  refine wpAny_Call_Name_kw (ld_blt I hg hm hv ?_ hn hdb)
  exact PyProof.Rows.callWith_builtin1 (thn (ha pos pins s σ H _ I h) fun us s1 ⟨vs, H1, I1, r1, q1⟩ => hc pins s1 σ H1 vs us Q I1 r1 q1) he hpl
/-- T(e, ..), T a built-in type -/
theorem pe_callTy (hc : CallR X (.type T) r) (hg : Gl X x) (hm : X.mg x = none) (hv : bootBuiltins x = some (.type T)) (ha : PA X (e :: es) t) (hn : x ≠ "__name__" := by decide) (hdb : (x == ("__debug__" : Str)) = false := by decide)
    (he : starEach (e :: es) X.env = (false, eval e X.env) :: starEach es X.env := by rfl) (hpl : (backTo pos (starEach es X.env)).any (·.1) = false := by rfl) : PE X (.Call (.Name x p) (e :: es) [] pos) (tCB r t) := by
  intro pins s σ H Q I h
  refine wpAny_Call_Name_kw (ld_blt I hg hm hv ?_ hn hdb)
  exact PyProof.Rows.callWith_type1 (thn (ha pos pins s σ H _ I h) fun us s1 ⟨vs, H1, I1, r1, q1⟩ => hc pins s1 σ H1 vs us Q I1 r1 q1) he hpl
end
end L2

namespace HT
open PySem PyProof.Rows

section
open PySem.SeqAt
open PySem.AutoSeq1 (wpAny_loadPart')
open PySem.MeetsSeq PySem.MeetsSeq2 PySem.MeetsSeq3

end

section
variable {prog : Program} {w : World} {A : Around} {E : Value → Shared → Prop} {s : Shared}

/-! ### t[a:b], not the whole -/
/-- a slice's bound as a place among n (d where it is left out) -/
def sIx (n d : Nat) : Option Int → Nat
  | none => d
  | some v => if v < 0 then (v + (n : Int)).toNat else min v.toNat n
theorem sIx_none (n d : Nat) : sIx n d none = d := rfl
theorem sIx_nat (n d k : Nat) : sIx n d (some (k : Int)) = min k n := by
  show (if (k : Int) < 0 then ((k : Int) + (n : Int)).toNat else min (k : Int).toNat n) = min k n
  rw [if_neg (by omega), Int.toNat_natCast]
theorem sIx_le (n d : Nat) (hd : d ≤ n) (o : Option Int) : sIx n d o ≤ n := by
  cases o with
  | none => exact hd
  | some v =>
    show (if v < 0 then (v + (n : Int)).toNat else min v.toNat n) ≤ n
    by_cases hv : v < 0
    · rw [if_pos hv]; omega
    · rw [if_neg hv]; exact Nat.min_le_right _ _
theorem clip_eq (v : Int) (n d : Nat) : (if v < 0 then max (v + (n : Int)) 0 else min v (n : Int)) = ((sIx n d (some v) : Nat) : Int) := by
  show (if v < 0 then max (v + (n : Int)) 0 else min v (n : Int)) = (((if v < 0 then (v + (n : Int)).toNat else min v.toNat n) : Nat) : Int)
  by_cases hv : v < 0
  · simp only [if_pos hv]; omega
  · simp only [if_neg hv]; omega
theorem adjust_gen (lo hi : Option Int) (n : Nat) : Builtin.Slice.sliceAdjust lo hi 1 (n : Int) = (((sIx n 0 lo : Nat) : Int), ((sIx n n hi : Nat) : Int)) := by
  have h1 : ¬ ((1 : Int) < 0) := by omega
  unfold Builtin.Slice.sliceAdjust
  simp only [h1, if_false]
  refine Prod.ext ?_ ?_
  · cases lo with
    | none => rfl
    | some v => exact clip_eq v n 0
  · cases hi with
    | none => rfl
    | some v => exact clip_eq v n n
theorem places_gen (i j : Nat) : Builtin.Slice.slicePlaces (i : Int) (j : Int) 1 = j - i := by
  unfold Builtin.Slice.slicePlaces
  have h1 : (1 : Int) > 0 := by omega
  simp only [h1, if_true, Int.ediv_one]
  split <;> omega
theorem slicePart_ {v : Value} {o : Option Int} {Q : Option Int → Shared → Prop} (p : IsPart v o) (h : Q o s) : wpAny (model prog w) A (Builtin.Slice.slicePartIndex v) Q E s := by
  cases p with
  | none => exact slicePart_none h
  | int i t => exact slicePart_int h
theorem sliceApplied_gen {sl : Addr} {vl vu : Value} {lo hi : Option Int} {n : Nat} {Q : Int × Int × Nat → Shared → Prop} (hs : s.heap.IsSliceOf sl vl vu .none) (pl : IsPart vl lo) (pu : IsPart vu hi)
    (h : Q (((sIx n 0 lo : Nat) : Int), 1, sIx n n hi - sIx n 0 lo) s) : wpAny (model prog w) A (Builtin.Slice.sliceApplied (.ref sl) (pure (n : Int))) Q E s := by
  obtain ⟨os, hos, hcs, hds⟩ := id hs
  unfold Builtin.Slice.sliceApplied Builtin.Slice.sliceFields
  refine wpAny_bind (wpAny_bind (wpAny_field hos hds (x := vl) rfl (wpAny_bind (wpAny_field hos hds (x := vu) rfl (wpAny_bind (wpAny_field hos hds (x := .none) rfl (wpAny_pure ?_)))))))
  refine wpAny_bind (slicePart_none ?_)
  show wpAny _ _ (if ((1 : Int) == 0) = true then _ else _) _ _ s
  rw [if_neg (by decide)]
  refine wpAny_bind (slicePart_ pl (wpAny_bind (slicePart_ pu (wpAny_bind (wpAny_pure ?_)))))
  show wpAny _ _ (match Builtin.Slice.sliceAdjust lo hi 1 (n : Int) with | (lo, hi) => pure (lo, (1 : Int), Builtin.Slice.slicePlaces lo hi 1)) _ _ s
  rw [adjust_gen lo hi n]
  show wpAny _ _ (pure (((sIx n 0 lo : Nat) : Int), (1 : Int), Builtin.Slice.slicePlaces ((sIx n 0 lo : Nat) : Int) ((sIx n n hi : Nat) : Int) 1)) _ _ s
  rw [places_gen]
  exact wpAny_pure h
theorem pick_gen (xs : Array Value) (i k : Nat) : ((List.range k).filterMap fun (m : Nat) => xs[((i : Int) + (m : Int) * 1).toNat]?).toArray = ((xs.toList.drop i).take k).toArray := by
  have e : (fun (m : Nat) => xs[((i : Int) + (m : Int) * 1).toNat]?) = fun m => xs[i + m]? := by
    funext m
    have : ((i : Int) + (m : Int) * 1).toNat = i + m := by omega
    rw [this]
  rw [e]
  have := pick_run xs i k
  rw [List.filterMap_map] at this
  have e2 : ((fun x => xs[x]?) ∘ fun x => i + x) = fun m => xs[i + m]? := rfl
  rw [e2] at this
  rw [this]

theorem getItem_tuple_cut {t sl : Addr} {items : Array Value} {vl vu : Value} {lo hi : Option Int} {Q : Value → Shared → Prop} (ht : IsTup s.heap t items) (hs : s.heap.IsSliceOf sl vl vu .none) (pl : IsPart vl lo) (pu : IsPart vu hi)
    (hw : ¬ (sIx items.size 0 lo = 0 ∧ sIx items.size items.size hi = items.size))
    (h : Q (.ref s.heap.objs.size) { s with heap := s.heap.push { cls := .type "tuple", data := .seq ((items.toList.drop (sIx items.size 0 lo)).take (sIx items.size items.size hi - sIx items.size 0 lo)).toArray } })
    (hsz : items.size ≤ sizeLine) : wpAny (model prog w) A (getItem (.ref t) (.ref sl)) Q E s := by
  have htake : sizeOk (.seq ((items.toList.drop (sIx items.size 0 lo)).take (sIx items.size items.size hi - sIx items.size 0 lo)).toArray) := by
    show ((items.toList.drop (sIx items.size 0 lo)).take (sIx items.size items.size hi - sIx items.size 0 lo)).toArray.size ≤ sizeLine
    rw [List.size_toArray, List.length_take, List.length_drop, Array.length_toList]
    omega
  have hj : sIx items.size items.size hi ≤ items.size := sIx_le _ _ (Nat.le_refl _) hi
  obtain ⟨os, hos, hcs, hds⟩ := id hs
  have hTs : s.TypeIs (.ref sl) "slice" := ⟨os, hos, hcs⟩
  unfold getItem
  try with_reducible refine wpAny_holding ?_
  first | refine wpAny_bind (wpAny_pure ?_) | skip
  refine wpAny_bind (wpAny_sequenceKey ht.typeIs (by decide) ?_)
  refine wpAny_bind (wpAny_callSpecial?_slot (name := Str.ofString "__getitem__") ht.typeIs PyProof.Rows.slot_tuple_getitem
    (wpAny_call_entry PyProof.Rows.slot_tuple_getitem ht.typeIs entry_tuple_getitem ?_ (args_tuple_getitem _ _)))
  show wpAny _ _ (Builtin.Tuple.tupleItemsOf (.ref t) >>= _) _ _ s
  refine wpAny_bind (tupleItemsOf_ ht ?_)
  refine wpAny_bind (wpAny_typeOf hTs ?_)
  rw [if_pos (by decide)]
  refine wpAny_bind (sliceApplied_gen hs pl pu ?_)
  have hno : ¬ ((((sIx items.size 0 lo : Nat) : Int) == 0 && (1 : Int) == 1 && (sIx items.size items.size hi - sIx items.size 0 lo) == items.size) = true) := by
    intro q
    rw [Bool.and_eq_true, Bool.and_eq_true] at q
    have q1 : ((sIx items.size 0 lo : Nat) : Int) = 0 := eq_of_beq q.1.1
    have q2 : sIx items.size items.size hi - sIx items.size 0 lo = items.size := eq_of_beq q.2
    exact hw ⟨by omega, by omega⟩
  show wpAny _ _ (if (((sIx items.size 0 lo : Nat) : Int) == 0 && (1 : Int) == 1 && (sIx items.size items.size hi - sIx items.size 0 lo) == items.size) = true then _ else _) _ _ s
  rw [if_neg hno, pick_gen]
  first
    | exact wpAny_bind (m := Builtin.Tuple.tupleExact _) (wpAny_newObj_type (wpAny_pure ⟨_, rfl, wpAny_pure h⟩) htake)
    | exact wpAny_bind (m := Builtin.Tuple.tupleExact _) (wpAny_newObj_type (wpAny_bind (wpAny_pure (wpAny_pure ⟨_, rfl, wpAny_pure h⟩))) htake)
    | exact wpAny_bind (wpAny_bind (m := Builtin.Tuple.tupleExact _) (wpAny_newObj_type (wpAny_pure (wpAny_pure ⟨_, rfl, wpAny_pure h⟩)) htake))
    | exact wpAny_bind (wpAny_bind (m := Builtin.Tuple.tupleExact _) (wpAny_newObj_type (wpAny_pure ⟨_, rfl, wpAny_pure h⟩) htake))
end
end HT

namespace L2
open PySem PySem.Spec PyProof.Rows

/-! ### the parts of a slice -/
abbrev TO := St → Hp → (Option Int → Hp → Prop) → Prop
/-- a slice's part (left out, or an int) -/
def PO (X : Cx) (e : Option Expr) (t : TO) : Prop :=
  ∀ (pins : List (Addr × Obj)) (s : Shared) (σ : St) (H : Hp) (Q : Option Int → Hp → Prop), Inv X pins σ H s → t σ H Q →
    wpAny (model X.prog X.w) X.A (evalPart e X.env) (fun u s' => ∃ o H', Inv X pins σ H' s' ∧ IsPart u o ∧ Q o H') X.xe s
def tNoPart : TO := fun _ H Q => Q none H
def tPart (t : TE) : TO := fun σ H Q => t σ H fun x H1 => ∃ i, x = .int i ∧ Q (some i) H1

section
variable {X : Cx} {e : Expr} {te : TE} {lo hi : Option Expr} {tl th : TO} {pos p2 : Pos}

theorem po_none : PO X none tNoPart := by
  intro pins s σ H Q I h
  rw [evalPart_none]
  exact wpAny_pure ⟨none, H, I, .none, h⟩
theorem po_some (h : PE X e te) : PO X (some e) (tPart te) := by
  intro pins s σ H Q I hw
  rw [evalPart_some]
  refine thn (h pins s σ H _ I hw) fun u s1 ⟨x, H1, I1, r1, q1⟩ => ?_
  obtain ⟨i, rfl, q⟩ := q1
  obtain ⟨t, rfl⟩ := r1
  exact ⟨some i, H1, I1, .int i t, q⟩

/-- what a slice of a value is, by values: the slice object stands at sl -/
def SlR (X : Cx) (r : V → Option Int → Option Int → Hp → VK → Prop) : Prop :=
  ∀ (pins : List (Addr × Obj)) (s : Shared) (σ : St) (H : Hp) (x : V) (v vl vu : Value) (lo hi : Option Int) (sl : Addr) (Q : VK), Inv X pins σ H s → RelV x v → s.heap.IsSliceOf sl vl vu .none → IsPart vl lo → IsPart vu hi → r x lo hi H Q →
    ∃ T id, typeLookup (.type T) "__getitem__" = pure (some (.builtin id)) ∧ s.TypeIs v T ∧ wpAny (model X.prog X.w) X.A (getItem v (.ref sl)) (EP X pins σ Q) X.xe s
theorem SlR.or {r r' : V → Option Int → Option Int → Hp → VK → Prop} (h : SlR X r) (h' : SlR X r') : SlR X (fun x lo hi H Q => r x lo hi H Q ∨ r' x lo hi H Q) := by
  intro pins s σ H x v vl vu lo hi sl Q I rx hs pl pu q
  rcases q with q | q
  · exact h pins s σ H x v vl vu lo hi sl Q I rx hs pl pu q
  · exact h' pins s σ H x v vl vu lo hi sl Q I rx hs pl pu q
def tSl (r : V → Option Int → Option Int → Hp → VK → Prop) (te : TE) (tl th : TO) : TE := fun σ H Q => te σ H fun x H1 => tl σ H1 fun l H2 => th σ H2 fun u H3 => r x l u H3 Q
/-- a[lo:hi], any a -/
theorem pe_slice {r : V → Option Int → Option Int → Hp → VK → Prop} (hr : SlR X r) (he : PE X e te) (hl : PO X lo tl) (hu : PO X hi th) : PE X (.Subscript e (.Slice lo hi none p2) pos) (tSl r te tl th) := by
  intro pins s σ H Q I h
  refine Subscript_ (thn (he pins s σ H _ I h) fun v s1 ⟨x, H1, I1, r1, q1⟩ => ?_)
  refine wpAny_Slice (thn (hl pins s1 σ H1 _ I1 q1) fun vl s2 ⟨l, H2, I2, pl, q2⟩ => thn (hu pins s2 σ H2 _ I2 q2) fun vu s3 ⟨u, H3, I3, pu, q3⟩ => ?_)
  rw [evalPart_none]
  refine wpAny_pure ?_
  have I4 : Inv X pins σ H3 { s3 with heap := s3.heap.push { cls := .type "slice", data := .fields #[vl, vu, .none] } } := I3.kept (t' := s3.toks) fun b ob q => Heap.get?_push_of_some _ q
  obtain ⟨T, id, hT, ht, hg⟩ := hr pins { s3 with heap := s3.heap.push { cls := .type "slice", data := .fields #[vl, vu, .none] } } σ H3 x v vl vu l u s3.heap.objs.size Q I4 r1 (Heap.IsSliceOf.new ..) pl pu q3
  show wpAny (model X.prog X.w) X.A (subscriptTail e (.Slice lo hi none p2) v (.ref s3.heap.objs.size)) (EP X pins σ Q) X.xe { s3 with heap := s3.heap.push { cls := .type "slice", data := .fields #[vl, vu, .none] } }
  exact tail_any (ops := [.ref s3.heap.objs.size, v]) ht hT hg (by with_unfolding_all rfl)

/-- the items of xs[lo:hi] -/
def cutV (xs : List V) (lo hi : Option Int) : List V := (xs.drop (HT.sIx xs.length 0 lo)).take (HT.sIx xs.length xs.length hi - HT.sIx xs.length 0 lo)
theorem cutV_length (xs : List V) (lo hi : Option Int) : (cutV xs lo hi).length ≤ xs.length := by
  unfold cutV
  rw [List.length_take, List.length_drop]
  omega
/-- t[lo:hi], not the whole of it (the whole would be t itself) -/
def rSlT (K : PySem.W.Frag) : V → Option Int → Option Int → Hp → VK → Prop := fun x lo hi H Q => ∃ a xs, x = .ref a ∧ SqT K H a xs ∧
  ¬ (HT.sIx xs.length 0 lo = 0 ∧ HT.sIx xs.length xs.length hi = xs.length) ∧ ∀ p, H p = none → Q (.ref p) (upd H p (.tup (cutV xs lo hi)))
theorem sl_tup : SlR X (rSlT X.K) := by
  intro pins s σ H x v vl vu lo hi sl Q I rx hs pl pu h
  obtain ⟨a, xs, rfl, hx, hw, q⟩ := h
  cases rx
  obtain ⟨its, r, ht, hz⟩ := I.tuple hx
  have hlen : its.toArray.size = xs.length := by rw [List.size_toArray]; exact r.length.symm
  refine ⟨"tuple", _, PyProof.Rows.slot_tuple_getitem.lookup, ht.typeIs, ?_⟩
  refine HT.getItem_tuple_cut ht hs pl pu (by rw [hlen]; exact hw) ?_ (by rw [hlen]; exact hz)
  rw [hlen]
  refine ⟨.ref s.heap.objs.size, _, I.laid (t' := s.toks) (o := .tup (cutV xs lo hi)) (fun b ob q => Heap.get?_push_of_some _ q) (Nat.le_refl _) ?_, rfl, q _ (I.hok.fresh (Nat.le_refl _))⟩
  exact ⟨Nat.le_trans (cutV_length xs lo hi) hz, _, (r.drop (HT.sIx xs.length 0 lo)).take (HT.sIx xs.length xs.length hi - HT.sIx xs.length 0 lo), IsTup.new _ _⟩

/-! ### t < u, t + u -/
end
end L2

namespace L2
open PySem PySem.Spec PyProof.Rows

/-! ### places -/
/-- the place that an index of any sign means -/
def ixN (n : Nat) (i : Int) : Option Nat := if 0 ≤ i then (if i < n then some i.toNat else none) else if -(n : Int) ≤ i then some (i + n).toNat else none
def atI {α : Type} (xs : List α) (i : Int) : Option α := (ixN xs.length i).bind fun j => xs[j]?
theorem ixN_seq {n : Nat} {i : Int} {j : Nat} (h : ixN n i = some j) : seqIndex? i n = some j ∧ j < n ∧ -(n : Int) ≤ i ∧ i < n := by
  unfold ixN at h
  by_cases h0 : 0 ≤ i
  · rw [if_pos h0] at h
    by_cases h1 : i < n
    · rw [if_pos h1] at h
      have e : i.toNat = j := Option.some.inj h
      exact ⟨by rw [seqIndex_of h0 h1, e], by omega, by omega, h1⟩
    · rw [if_neg h1] at h; cases h
  · rw [if_neg h0] at h
    by_cases h1 : -(n : Int) ≤ i
    · rw [if_pos h1] at h
      have e : (i + n).toNat = j := Option.some.inj h
      exact ⟨by rw [seqIndex_neg (by omega) h1, e], by omega, h1, by omega⟩
    · rw [if_neg h1] at h; cases h
theorem atI_get {α : Type} {xs : List α} {i : Int} {v : α} (h : atI xs i = some v) : ∃ j, seqIndex? i xs.length = some j ∧ xs[j]? = some v ∧ j < xs.length ∧ -(xs.length : Int) ≤ i ∧ i < xs.length := by
  unfold atI at h
  cases e : ixN xs.length i with
  | none => rw [e] at h; cases h
  | some j =>
    rw [e] at h
    obtain ⟨h1, h2, h3, h4⟩ := ixN_seq e
    exact ⟨j, h1, h, h2, h3, h4⟩
theorem atI_nat {α : Type} {xs : List α} {j : Nat} {v : α} (h : xs[j]? = some v) : atI xs (j : Int) = some v := by
  have hj : j < xs.length := (List.getElem?_eq_some_iff.mp h).1
  have e : ixN xs.length (j : Int) = some j := by
    unfold ixN
    rw [if_pos (by omega), if_pos (by omega)]; simp
  unfold atI; rw [e]; exact h
/-! ### what may be subscripted -/
/-- what stands as an index of a plain subscript -/
def PlainIx (b : Expr) : Prop := ∀ o i, subscripted b false o i = operate [o, i] (getItem o i)
/-- a subscript by values -/
def IxR (X : Cx) (r : R2) : Prop :=
  ∀ (value slice : Expr) (pins : List (Addr × Obj)) (s : Shared) (σ : St) (H : Hp) (x y : V) (v u : Value) (Q : VK), Inv X pins σ H s → RelV x v → RelV y u → r x y H Q →
    subscripted slice false v u = operate [v, u] (getItem v u) → wpAny (model X.prog X.w) X.A (subscriptTail value slice v u) (EP X pins σ Q) X.xe s
/-- a call of a builtin's method by values: the receiver, the arguments -/
def MtR (X : Cx) (id : String) (r : V → List V → Hp → VK → Prop) : Prop :=
  ∀ (pins : List (Addr × Obj)) (s : Shared) (σ : St) (H : Hp) (x : V) (xs : List V) (v : Value) (us : List Value) (Q : VK), Inv X pins σ H s → RelV x v → Vals xs us → r x xs H Q →
    wpAny (model X.prog X.w) X.A (call (.builtin id) (v :: us)) (EP X pins σ Q) X.xe s
section
variable {X : Cx} {a b : Expr} {ta tb : TE} {pos : Pos}
theorem IxR.or {r r' : R2} (h : IxR X r) (h' : IxR X r') : IxR X (fun x y H Q => r x y H Q ∨ r' x y H Q) := by
  intro value slice pins s σ H x y v u Q I rx ry q hs
  rcases q with q | q
  · exact h value slice pins s σ H x y v u Q I rx ry q hs
  · exact h' value slice pins s σ H x y v u Q I rx ry q hs
theorem MtR.or {id : String} {r r' : V → List V → Hp → VK → Prop} (h : MtR X id r) (h' : MtR X id r') : MtR X id (fun x xs H Q => r x xs H Q ∨ r' x xs H Q) := by
  intro pins s σ H x xs v us Q I rx rs q
  rcases q with q | q
  · exact h pins s σ H x xs v us Q I rx rs q
  · exact h' pins s σ H x xs v us Q I rx rs q
/-- a[b] -/
theorem pe_ix {r : R2} (hr : IxR X r) (ha : PE X a ta) (hb : PE X b tb) (hs : PlainIx b) : PE X (.Subscript a b pos) (tOp r ta tb) := by
  intro pins s σ H Q I h
  exact Subscript_ (binT ha hb I h fun v u s2 x y H2 I2 rx ry q => hr a b pins s2 σ H2 x y v u Q I2 rx ry q (hs _ _))

def rIxL (K : PySem.W.Frag) : R2 := fun x y H Q => ∃ p xs i v, x = .ref p ∧ y = .int i ∧ SqL K H p xs ∧ atI xs i = some v ∧ Q v H
def rIxT (K : PySem.W.Frag) : R2 := fun x y H Q => ∃ p xs i v, x = .ref p ∧ y = .int i ∧ SqT K H p xs ∧ atI xs i = some v ∧ Q v H
def rIxS : R2 := fun x y H Q => ∃ z i c, x = .str z ∧ y = .int i ∧ z.length ≤ sizeLine ∧ atI z.cps.toList i = some c ∧ Q (.str ⟨#[c]⟩) H
theorem ix_list : IxR X (rIxL X.K) := by
  intro value slice pins s σ H x y v u Q I rx ry h hs
  obtain ⟨p, xs, i, z, rfl, rfl, hq, he, q⟩ := h
  cases rx
  obtain ⟨t, rfl⟩ := ry
  obtain ⟨its, r, pl, hz⟩ := I.list hq
  obtain ⟨j, h1, h2, h3, h4, h5⟩ := atI_get he
  obtain ⟨w, ew, rw'⟩ := r.get h2
  have hl := r.length
  have hn := line63
  have fin : EP X pins σ Q w s := ⟨z, H, I, rw', q⟩
  by_cases h0 : 0 ≤ i
  · have hj : i.toNat = j := by
      rw [seqIndex_of h0 h5] at h1
      exact Option.some.inj h1
    exact item_listR pl.isList h0 (by omega) (by rw [hj]; simpa using ew) fin hs
  · have hj : (i + (its.toArray.size : Int)).toNat = j := by
      rw [seqIndex_neg (by omega) h4] at h1
      rw [List.size_toArray, ← hl]
      exact Option.some.inj h1
    exact subscriptTail_builtinR (x := w) pl.isList.typeIs slot_list_getitem.lookup
      (wpAny_getItem_list_neg (Q := fun r s' => r = w ∧ EP X pins σ Q r s') pl.isList (by omega) (by rw [List.size_toArray] <;> omega) (by omega) (by rw [hj]; simpa using ew) ⟨rfl, fin⟩) hs
theorem ix_tup : IxR X (rIxT X.K) := by
  intro value slice pins s σ H x y v u Q I rx ry h hs
  obtain ⟨p, xs, i, z, rfl, rfl, hq, he, q⟩ := h
  cases rx
  obtain ⟨t, rfl⟩ := ry
  obtain ⟨its, r, pl, hz⟩ := I.tuple hq
  obtain ⟨j, h1, h2, h3, h4, h5⟩ := atI_get he
  obtain ⟨w, ew, rw'⟩ := r.get h2
  have hl := r.length
  have hn := line63
  have fin : EP X pins σ Q w s := ⟨z, H, I, rw', q⟩
  exact subscriptTail_builtinR (x := w) pl.typeIs slot_tuple_getitem.lookup
    (getItem_tuple (j := j) (Q := fun r s' => r = w ∧ EP X pins σ Q r s') pl (by omega) (by omega) (by rw [List.size_toArray, ← hl]; exact h1) (by simpa using ew) ⟨rfl, fin⟩) hs
theorem ix_str : IxR X rIxS := by
  intro value slice pins s σ H x y v u Q I rx ry h hs
  obtain ⟨z, i, c, rfl, rfl, hz, he, q⟩ := h
  obtain ⟨t, rfl⟩ := rx
  obtain ⟨t', rfl⟩ := ry
  obtain ⟨j, h1, h2, h3, h4, h5⟩ := atI_get he
  have hl : z.cps.toList.length = z.length := by simp [Str.length]
  rw [hl] at h1 h4 h5
  have hn := line63
  exact tail_any (typeIs_str s z t) slot_str_getitem.lookup (getItem_str (c := c) (by
    have e1 : decide (i < -(2 ^ 63 : Int)) = false := decide_eq_false (by omega)
    have e2 : decide (i ≥ 2 ^ 63) = false := decide_eq_false (by omega)
    rw [e1, e2, Bool.or_false]) (by rw [h1]; simpa using h2) ⟨.str ⟨#[c]⟩, H, I.tok _, ⟨_, rfl⟩, q⟩) hs
/-! ### xs[i] = v, any sign -/
/-- the list's object behind a store -/
theorem mapSeq_set (its : List Value) (n j : Nat) (u : Value) : Obj.mapSeq (·.setIfInBounds j u) { cls := .type "list", data := .seq its.toArray n } = { cls := .type "list", data := .seq (its.set j u).toArray n } := by
  simp [Obj.mapSeq]
theorem Inv.lst {pins : List (Addr × Obj)} {σ : St} {H : Hp} {s : Shared} {p : Addr} {xs : List V} (I : Inv X pins σ H s) (h : H p = some (.lst xs)) :
    ∃ (its : List Value) (n : Nat), Vals xs its ∧ s.heap.get? p = some { cls := .type "list", data := .seq its.toArray n } ∧ xs.length ≤ sizeLine := by
  obtain ⟨z, its, n, r, e⟩ := I.hok p _ h
  exact ⟨its, n, r, e, z⟩
/-- the list at p is written by an update of its object -/
theorem Inv.lstUpd {pins : List (Addr × Obj)} {σ : St} {H : Hp} {s : Shared} {p : Addr} {xs ys : List V} {its its' : List Value} {n n' : Nat} {f : Obj → Obj} (I : Inv X pins σ H s) (h : H p = some (.lst xs))
    (ho : s.heap.get? p = some { cls := .type "list", data := .seq its.toArray n }) (hf : f { cls := .type "list", data := .seq its.toArray n } = { cls := .type "list", data := .seq its'.toArray n' }) (r : Vals ys its') (hz : ys.length ≤ sizeLine) (t : Nat) :
    Inv X pins σ (upd H p (.lst ys)) { s with heap := s.heap.update p f, toks := t } := by
  have e : (s.heap.update p f).get? p = some { cls := .type "list", data := .seq its'.toArray n' } := by
    rw [Heap.get?_update_self f ho (by rw [hf] <;> rfl), hf]
  refine I.write (x := p) (e := p) (by rw [h]; trivial) (.inl rfl) (fun b u hb q => (Heap.get?_update_other _ _ (Ne.symm hb)).trans q) ⟨_, e⟩ ?_
  exact ⟨hz, its', n', r, e⟩
def rSetL : V → V → V → Hp → (Hp → Prop) → Prop := fun o i v H Q => ∃ p xs k j, o = .ref p ∧ i = .int k ∧ H p = some (.lst xs) ∧ ixN xs.length k = some j ∧ Q (upd H p (.lst (xs.set j v)))
theorem set_list : PSet X rSetL := by
  intro pins s σ H o i v ov iv u Q I ro ri rv h
  obtain ⟨p, xs, k, j, rfl, rfl, hp, hj, q⟩ := h
  cases ro
  obtain ⟨t, rfl⟩ := ri
  obtain ⟨its, n, r, ho, hz⟩ := I.lst hp
  obtain ⟨h1, h2, h3, h4⟩ := ixN_seq hj
  have hl := r.length
  have hn := line63
  have I' : Inv X pins σ (upd H p (.lst (xs.set j v))) { s with heap := s.heap.update p (Obj.mapSeq (·.setIfInBounds j u)) } :=
    I.lstUpd hp ho (mapSeq_set its n j u) (r.set rv j) (by rw [List.length_set]; exact hz) s.toks
  by_cases h0 : 0 ≤ k
  · have hk : k.toNat = j := by
      rw [seqIndex_of h0 h4] at h1
      exact Option.some.inj h1
    exact PySem.W.ki_setAt ho h0 (by omega) (by rw [List.size_toArray, ← hl]; exact h4) (by rw [hk]; exact ⟨_, I', q⟩)
  · have hk : (k + (its.toArray.size : Int)).toNat = j := by
      rw [seqIndex_neg (by omega) h3] at h1
      rw [List.size_toArray, ← hl]
      exact Option.some.inj h1
    exact PySem.W.ki_setBack ho (by omega) (by rw [List.size_toArray, ← hl]; exact h3) (by omega) (by rw [hk]; exact ⟨_, I', q⟩)

/-! ### slices -/
theorem slice_bounds (lo hi : Option Int) (n : Nat) : (sliceBounds lo hi none n).1 = ((HT.sIx n 0 lo : Nat) : Int) ∧ (sliceBounds lo hi none n).2.1 = ((HT.sIx n n hi : Nat) : Int) ∧ (sliceBounds lo hi none n).2.2 = 1 := by
  refine ⟨?_, ?_, rfl⟩
  · cases lo with
    | none => simp [sliceBounds, HT.sIx]
    | some i =>
      simp only [sliceBounds, HT.sIx, Option.getD_none, show (1 : Int) > 0 by decide, if_true]
      by_cases h : i < 0
      · simp only [h, if_true] <;> omega
      · simp only [h, if_false] <;> omega
  · cases hi with
    | none => simp [sliceBounds, HT.sIx]
    | some i =>
      simp only [sliceBounds, HT.sIx, Option.getD_none, show (1 : Int) > 0 by decide, if_true]
      by_cases h : i < 0
      · simp only [h, if_true] <;> omega
      · simp only [h, if_false] <;> omega
theorem slicePick_cut (its : List Value) (lo hi : Option Int) : slicePick its.toArray lo hi none = ((its.drop (HT.sIx its.length 0 lo)).take (HT.sIx its.length its.length hi - HT.sIx its.length 0 lo)).toArray := by
  obtain ⟨h1, h2, h3⟩ := slice_bounds lo hi its.toArray.size
  unfold slicePick
  rw [h1, h2, h3]
  simp only [sliceRange_one, pick_run, List.size_toArray] <;> rfl
/-- xs[lo:hi] of a list: a new list -/
def rSlL (K : PySem.W.Frag) : V → Option Int → Option Int → Hp → VK → Prop := fun x lo hi H Q => ∃ a xs, x = .ref a ∧ SqL K H a xs ∧ ∀ p, H p = none → Q (.ref p) (upd H p (.lst (cutV xs lo hi)))
theorem sl_list : SlR X (rSlL X.K) := by
  intro pins s σ H x v vl vu lo hi sl Q I rx hs pl pu h
  obtain ⟨a, xs, rfl, hx, q⟩ := h
  cases rx
  obtain ⟨its, r, ht, hz⟩ := I.list hx
  have hlen := r.length
  refine ⟨"list", _, slot_list_getitem.lookup, ht.isList.typeIs, ?_⟩
  refine wpAny_getItem_list_slice ht.isList hs pl pu .none (by simp) ?_ (by rw [List.size_toArray] <;> omega)
  rw [slicePick_cut, ← hlen]
  refine ⟨.ref s.heap.objs.size, _, I.laid (t' := s.toks) (o := .lst (cutV xs lo hi)) (fun b ob q => Heap.get?_push_of_some _ q) (Nat.le_refl _) ?_, rfl, q _ (I.hok.fresh (Nat.le_refl _))⟩
  exact ⟨Nat.le_trans (cutV_length xs lo hi) hz, _, 0, (r.drop (HT.sIx xs.length 0 lo)).take (HT.sIx xs.length xs.length hi - HT.sIx xs.length 0 lo), Heap.get?_push_size _ rfl⟩

/-! ### in, not in: flat items -/
/-! ### len, list(x), tuple(x) of any list or tuple that is read -/
theorem call_len_seq : CallR X (.builtin "len") (fun xs H Q => ∃ p ys, xs = [.ref p] ∧ (SqL X.K H p ys ∨ SqT X.K H p ys) ∧ Q (.int ys.length) H) := by
  intro pins s σ H xs us Q I r h
  obtain ⟨p, ys, rfl, hq, q⟩ := h
  obtain ⟨u, rfl, rx⟩ := vals1 r
  cases rx
  have hn := line63
  rcases hq with hq | hq
  · obtain ⟨its, r', pl, hz⟩ := I.list hq
    have hlen := r'.length
    exact Calls.call_len_list pl.isList (by simp only [List.size_toArray] <;> omega) ⟨.int ys.length, H, I.tok _, ⟨s.toks + 1, by rw [List.size_toArray, hlen]⟩, q⟩
  · obtain ⟨its, r', pl, hz⟩ := I.tuple hq
    have hlen := r'.length
    exact len_tuple pl (by simp only [List.size_toArray] <;> omega) ⟨.int ys.length, H, I.tok _, ⟨s.toks + 1, by rw [List.size_toArray, hlen]⟩, q⟩
theorem CallR.or {f : Value} {r r' : List V → Hp → VK → Prop} (h : CallR X f r) (h' : CallR X f r') : CallR X f (fun xs H Q => r xs H Q ∨ r' xs H Q) := by
  intro pins s σ H xs us Q I rs q
  rcases q with q | q
  · exact h pins s σ H xs us Q I rs q
  · exact h' pins s σ H xs us Q I rs q
theorem call_list_of : CallR X (.type "list") (fun xs H Q => ∃ p ys, xs = [.ref p] ∧ (SqL X.K H p ys ∨ SqT X.K H p ys) ∧ ∀ l, H l = none → Q (.ref l) (upd H l (.lst ys))) := by
  intro pins s σ H xs us Q I r h
  obtain ⟨p, ys, rfl, hq, q⟩ := h
  obtain ⟨u, rfl, rx⟩ := vals1 r
  cases rx
  have fin : ∀ (its : List Value), Vals ys its → ys.length ≤ sizeLine → ∀ (h' : Heap) (c' : Nat), (∀ b o', s.heap.get? b = some o' → h'.get? b = some o') →
      h'.get? s.heap.objs.size = some { cls := .type "list", dict := none, data := .seq its.toArray c', slots := #[] } → EP X pins σ Q (.ref s.heap.objs.size) { s with heap := h' } := fun its r' hz h' c' kp e =>
    ⟨.ref s.heap.objs.size, _, I.laid (t' := s.toks) kp (Nat.le_refl _) (show ObjOk X.prog X.w _ h' _ (.lst ys) from ⟨hz, its, c', r', e⟩), rfl, q _ (I.hok.fresh (Nat.le_refl _))⟩
  rcases hq with hq | hq
  · obtain ⟨its, r', pl, hz⟩ := I.list hq
    have hlen := r'.length
    obtain ⟨o, ho, hc, n, hd⟩ := pl.isList
    exact call_list_seq p (.inl rfl) ho hc hd (fun h' c' kp e => fin its r' hz h' c' kp e) (by simp only [List.size_toArray] <;> omega)
  · obtain ⟨its, r', pl, hz⟩ := I.tuple hq
    have hlen := r'.length
    obtain ⟨o, ho, hc, n, hd⟩ := pl
    exact call_list_seq p (.inr rfl) ho hc hd (fun h' c' kp e => fin its r' hz h' c' kp e) (by simp only [List.size_toArray] <;> omega)
theorem call_tuple_of : CallR X (.type "tuple") (fun xs H Q => ∃ p ys, xs = [.ref p] ∧ ((SqL X.K H p ys ∧ ∀ l, H l = none → Q (.ref l) (upd H l (.tup ys))) ∨ (SqT X.K H p ys ∧ Q (.ref p) H))) := by
  intro pins s σ H xs us Q I r h
  obtain ⟨p, ys, rfl, h⟩ := h
  obtain ⟨u, rfl, rx⟩ := vals1 r
  cases rx
  rcases h with ⟨hq, q⟩ | ⟨hq, q⟩
  · obtain ⟨its, r', pl, hz⟩ := I.list hq
    have hlen := r'.length
    refine call_tuple_list pl.isList (fun h' kp => ?_) (by simp only [List.size_toArray] <;> omega)
    have I1 : Inv X pins σ H { s with heap := h' } := I.kept (t' := s.toks) kp
    have I2 : Inv X pins σ (upd H h'.objs.size (.tup ys)) { s with heap := h'.push { cls := .type "tuple", data := .seq its.toArray } } :=
      I1.laid (t' := s.toks) (fun b o e => Heap.get?_push_of_some _ e) (Nat.le_refl _) (show ObjOk X.prog X.w _ _ _ (.tup ys) from ⟨hz, its, r', IsTup.new _ _⟩)
    exact ⟨.ref h'.objs.size, _, I2, rfl, q _ (I1.hok.fresh (Nat.le_refl _))⟩
  · obtain ⟨its, r', pl, hz⟩ := I.tuple hq
    exact call_tuple_same pl ⟨.ref p, H, I, rfl, q⟩

/-! ### the call of a builtin's method: o.m(..) -/
/-- the value is of that builtin type -/
def tyV (K : PySem.W.Frag) (T : String) (x : V) (H : Hp) : Prop := match x with
  | .str _ => T = "str"
  | .int _ => T = "int"
  | .ref p => (T = "list" ∧ ∃ xs, SqL K H p xs) ∨ (T = "tuple" ∧ ∃ o, K.lookup p = some o ∧ o.cls = .type "tuple" ∧ o.dict = none) ∨
      (T = "dict" ∧ ((∃ kvs, H p = some (.dK kvs)) ∨ ∃ kvs, H p = some (.dT kvs))) ∨ (T = "set" ∧ ∃ S n, H p = some (.set S n))
  | _ => False
theorem tyV_is {pins : List (Addr × Obj)} {σ : St} {H : Hp} {s : Shared} {T : String} {x : V} {v : Value} (I : Inv X pins σ H s) (r : RelV x v) (ty : tyV X.K T x H) :
    s.TypeIs v T ∧ ∀ a, v = .ref a → ∃ ob, s.heap.get? a = some ob ∧ ob.dict = none := by
  cases x with
  | str z =>
    obtain ⟨t, rfl⟩ := r
    cases (show T = "str" from ty)
    exact ⟨typeIs_str s z t, fun _ e => nomatch e⟩
  | int i =>
    obtain ⟨t, rfl⟩ := r
    cases (show T = "int" from ty)
    exact ⟨typeIs_int s i t, fun _ e => nomatch e⟩
  | ref p =>
    cases r
    rcases ty with ⟨rfl, xs, hq⟩ | ⟨rfl, o, hk, hc, hd⟩ | ⟨rfl, hk⟩ | ⟨rfl, S, n, hk⟩
    · obtain ⟨its, _, pl, _⟩ := I.list hq
      refine ⟨pl.isList.typeIs, fun a e => ?_⟩
      cases e
      obtain ⟨o, n, e, c, hd, _⟩ := pl
      exact ⟨o, e, hd⟩
    · refine ⟨⟨o, I.kIn p o hk, hc⟩, fun a e => ?_⟩
      cases e
      exact ⟨o, I.kIn _ o hk, hd⟩
    · have z : ∃ o, s.heap.get? p = some o ∧ o.ExactDict := by
        rcases hk with ⟨kvs, hk⟩ | ⟨kvs, hk⟩
        · obtain ⟨_, _, _, _, o, _, _, e, ex, _⟩ := I.hok p _ hk
          exact ⟨o, e, ex⟩
        · obtain ⟨_, _, _, _, o, _, _, e, ex, _⟩ := I.hok p _ hk
          exact ⟨o, e, ex⟩
      obtain ⟨o, e, ex⟩ := z
      refine ⟨⟨o, e, ex.1⟩, fun a e2 => ?_⟩
      cases e2
      exact ⟨o, e, ex.2.1⟩
    · obtain ⟨o, _, _, _, e, ex, _⟩ := I.hok p _ hk
      refine ⟨⟨o, e, ex.1⟩, fun a e2 => ?_⟩
      cases e2
      exact ⟨o, e, ex.2.1⟩
  | _ => exact False.elim ty
def tBM0 (K : PySem.W.Frag) (T : String) (r : V → List V → Hp → VK → Prop) (to : TE) : TE := fun σ H Q => to σ H fun x H1 => tyV K T x H1 ∧ r x [] H1 Q
def tBM (K : PySem.W.Frag) (T : String) (r : V → List V → Hp → VK → Prop) (to : TE) (t : TA) : TE := fun σ H Q => to σ H fun x H1 => tyV K T x H1 ∧ t σ H1 fun xs H2 => r x xs H2 Q
variable {o e : Expr} {es : List Expr} {to : TE} {t : TA} {name : Str} {apos cpos : Pos} {T id : String} {r : V → List V → Hp → VK → Prop}
theorem pe_bm0 (pa : PlainAttrs T) (slot : Slot T name id) (hty : typeOf (.builtin id) = pure (.type "method_descriptor")) (hm : MtR X id r) (ho : PE X o to)
    (hbase : attributeBase o name X.env (eval o X.env) = eval o X.env := by rfl) (hline : (apos.endLine == cpos.line) = true := by rfl) : PE X (.Call (.Attribute o name apos) [] [] cpos) (tBM0 X.K T r to) := by
  intro pins s σ H Q I h
  refine wpAny_Call_method0_late hbase hline (thn (ho pins s σ H _ I h) fun v s1 ⟨x, H1, I1, r1, ty, q1⟩ => ?_)
  obtain ⟨h1, h2⟩ := tyV_is I1 r1 ty
  exact ⟨T, id, pa, slot, hty, h1, h2, Calls.callWith_builtin rfl (PySem.evalArgs_none (hm pins s1 σ H1 x [] v [] Q I1 r1 .nil q1))⟩
theorem pe_bm (pa : PlainAttrs T) (slot : Slot T name id) (hty : typeOf (.builtin id) = pure (.type "method_descriptor")) (hm : MtR X id r) (ho : PE X o to) (ha : PA X (e :: es) t)
    (hbase : attributeBase o name X.env (eval o X.env) = eval o X.env := by rfl)
    (hfew : ((backTo cpos (starEach (e :: es) X.env)).all (fun x => !x.1) && (backToKw cpos (keywordEach [] X.env)).all (fun x => x.1.isSome)
      && decide ((e :: es).length + ([] : List Keyword).length + (if ([] : List Keyword).isEmpty then 0 else 1) < 30)) = true := by rfl)
    (hline : (apos.endLine == cpos.line) = true := by rfl) (hs : starEach (e :: es) X.env = (false, eval e X.env) :: starEach es X.env := by rfl) (hplain : (backTo cpos (starEach es X.env)).any (·.1) = false := by rfl) :
    PE X (.Call (.Attribute o name apos) (e :: es) [] cpos) (tBM X.K T r to t) := by
  intro pins s σ H Q I h
  refine wpAny_Call_method_late hbase hfew hline rfl (thn (ho pins s σ H _ I h) fun v s1 ⟨x, H1, I1, r1, ty, q1⟩ => ?_)
  obtain ⟨h1, h2⟩ := tyV_is I1 r1 ty
  refine ⟨T, id, pa, slot, hty, h1, h2, ?_⟩
  have hA := ha cpos pins s1 σ H1 _ I1 q1
  rw [hs] at hA ⊢
  refine Calls.callWith_builtin (by show (false || (backTo cpos (starEach es X.env)).any (·.1)) = false; rw [hplain] <;> rfl) (Calls.evalArgs_plain ?_)
  exact thn hA fun us s2 ⟨vs, H2, I2, r2, q2⟩ => hm pins s2 σ H2 x vs v us Q I2 r1 r2 q2
/- xs.append(e), list.index on a module's tuple .. are MtR facts of 06m -/
end
end L2

namespace L2
open PySem PySem.Spec PyProof.Rows

def MtM (X : Cx) (id : String) (r : V → List V → Hp → VK → Prop) : Prop :=
  ∀ (pins : List (Addr × Obj)) (s : Shared) (σ : St) (H : Hp) (x : V) (xs : List V) (v : Value) (us : List Value) (Q : VK), Inv X pins σ H s → RelV x v → Vals xs us → r x xs H Q →
    wpAny (model X.prog X.w) X.A (call (.builtin id) (v :: us)) (EP X pins σ Q) X.xe s

/-! ### lists of values -/
theorem Vals.one : ∀ {x : V} {us : List Value}, Vals [x] us → ∃ u, us = [u] ∧ RelV x u
  | _, _, .cons r .nil => ⟨_, rfl, r⟩
theorem Vals.two : ∀ {x y : V} {us : List Value}, Vals [x, y] us → ∃ u v, us = [u, v] ∧ RelV x u ∧ RelV y v
  | _, _, _, .cons r (.cons q .nil) => ⟨_, _, rfl, r, q⟩
theorem Vals.zero : ∀ {us : List Value}, Vals [] us → us = []
  | _, .nil => rfl
theorem Vals.reverse {xs : List V} {us : List Value} (h : Vals xs us) : Vals xs.reverse us.reverse := by
  induction h with
  | nil => exact .nil
  | cons r t ih => rw [List.reverse_cons, List.reverse_cons]; exact Vals.append ih (.cons r .nil)
section
variable {X : Cx} {pins : List (Addr × Obj)} {σ : St} {H : Hp} {s : Shared} {l b : Addr} {xs ys zs : List V}

/-! ### the two steps: a tracked list is rewritten, a new list is laid -/
theorem Inv.lset {its its' : List Value} {n : Nat} {f : Array Value → Array Value} {t' : Nat} (I : Inv X pins σ H s) (hH : H l = some (.lst xs))
    (e : s.heap.get? l = some { cls := .type "list", data := .seq its.toArray n }) (hf : f its.toArray = its'.toArray) (hv : Vals ys its') (hz : ys.length ≤ sizeLine) :
    Inv X pins σ (upd H l (.lst ys)) { s with heap := s.heap.update l (Obj.mapSeq f), toks := t' } := by
  have q := PySem.IsL.update e f
  rw [hf] at q
  refine I.write (x := l) (e := l) (by rw [hH]; exact trivial) (.inl rfl) (fun b' u hb hu => (Heap.get?_update_other s.heap (Obj.mapSeq f) (Ne.symm hb)).trans hu) ⟨_, q⟩ ?_
  exact ⟨hz, its', _, hv, q⟩
theorem Inv.lnew {its : List Value} {t' : Nat} (I : Inv X pins σ H s) (hv : Vals ys its) (hz : ys.length ≤ sizeLine) :
    Inv X pins σ (upd H s.heap.objs.size (.lst ys)) { s with heap := s.heap.push { cls := .type "list", data := .seq its.toArray }, toks := t' } :=
  I.laid (fun _ _ q => Heap.get?_push_of_some _ q) (Nat.le_refl _) ⟨hz, its, 0, hv, Heap.get?_push_size _ rfl⟩
theorem Inv.fresh (I : Inv X pins σ H s) : H s.heap.objs.size = none := I.hok.fresh (Nat.le_refl _)
theorem Inv.lstM (I : Inv X pins σ H s) (hH : H l = some (.lst xs)) : xs.length ≤ sizeLine ∧ ∃ (its : List Value) (n : Nat), Vals xs its ∧ xs.length = its.length ∧ s.heap.get? l = some { cls := .type "list", data := .seq its.toArray n } := by
  obtain ⟨z, its, n, r, e⟩ := I.hok l _ hH
  exact ⟨z, its, n, r, r.length, e⟩

theorem notLongL {n : Nat} (h : n ≤ sizeLine) : Builtin.List.listTooLong n = false := by
  unfold Builtin.List.listTooLong
  exact decide_eq_false (by omega)
end

section
variable {X : Cx}

/-! ### methods -/
def rAppend : V → List V → Hp → VK → Prop := fun x vs H Q => ∃ l xs y, x = .ref l ∧ vs = [y] ∧ H l = some (.lst xs) ∧ xs.length < sizeLine ∧ Q .non (upd H l (.lst (xs ++ [y])))
theorem mt_append : MtM X "list.append" rAppend := by
  intro pins s σ H x vs v us Q I rx rv h
  obtain ⟨l, xs, y, rfl, rfl, hH, hz, q⟩ := h
  cases rx
  obtain ⟨u, rfl, ru⟩ := rv.one
  obtain ⟨z, its, n, r, hl, e⟩ := I.lstM hH
  refine call_meets F.slot_list_append ⟨_, e, rfl⟩ F.entry_list_append (F.args_list_append_2 _ _) (PySem.list_append l its.toArray n u (by rw [List.size_toArray]; omega)) ⟨e, ?_⟩
  refine ⟨.non, _, I.lset (its' := its ++ [u]) hH e (by simp) (r.append (.cons ru .nil)) ?_, rfl, q⟩
  rw [List.length_append, List.length_singleton]
  omega

def rExtend : V → List V → Hp → VK → Prop := fun x vs H Q => ∃ l b xs zs, x = .ref l ∧ vs = [.ref b] ∧ H l = some (.lst xs) ∧ H b = some (.lst zs) ∧ xs.length + zs.length ≤ sizeLine ∧ Q .non (upd H l (.lst (xs ++ zs)))
theorem mt_extend : MtM X "list.extend" rExtend := by
  intro pins s σ H x vs v us Q I rx rv h
  obtain ⟨l, b, xs, zs, rfl, rfl, hH, hB, hz, q⟩ := h
  cases rx
  obtain ⟨u, rfl, ru⟩ := rv.one
  cases ru
  obtain ⟨z, its, n, r, hl, e⟩ := I.lstM hH
  obtain ⟨z2, its2, n2, r2, hl2, e2⟩ := I.lstM hB
  have hsz : its.toArray.size + its2.toArray.size ≤ sizeLine := by rw [List.size_toArray, List.size_toArray]; omega
  have hlong : ¬ (!its.toArray.isEmpty && Builtin.List.listTooLong (its.toArray.size + its2.toArray.size)) = true := by
    rw [notLongL hsz, Bool.and_false]
    exact Bool.false_ne_true
  refine call_meets F.slot_list_extend ⟨_, e, rfl⟩ F.entry_list_extend (F.args_list_extend_2 _ _)
    (AutoSeq1.list_extend_list_list_0 l its.toArray n b its2.toArray n2 hlong (by rw [List.size_toArray]; omega) (by omega)) ⟨e, e2, ?_⟩
  refine ⟨.non, _, I.lset (its' := its ++ its2) hH e (by simp) (r.append r2) ?_, rfl, q⟩
  rw [List.length_append]
  omega

def rClear : V → List V → Hp → VK → Prop := fun x vs H Q => ∃ l xs, x = .ref l ∧ vs = [] ∧ H l = some (.lst xs) ∧ Q .non (upd H l (.lst []))
theorem mt_clear : MtM X "list.clear" rClear := by
  intro pins s σ H x vs v us Q I rx rv h
  obtain ⟨l, xs, rfl, rfl, hH, q⟩ := h
  cases rx
  have hus := rv.zero
  subst hus
  obtain ⟨z, its, n, r, hl, e⟩ := I.lstM hH
  refine call_meets F.slot_list_clear ⟨_, e, rfl⟩ F.entry_list_clear (F.args_list_clear_1 _) (AutoSeq1.list_clear_list_0 l its.toArray n (by rw [List.size_toArray]; omega)) ⟨e, ?_⟩
  exact ⟨.non, _, I.lset (its' := []) (ys := []) hH e rfl .nil (Nat.zero_le _), rfl, q⟩

/-! ### list + list, list += list, list * int -/
/-! ### del xs[i] -/
end

/-! ### xs[a:b] = ys -/
section
variable {prog : Program} {w : World} {A : Around} {E : Value → Shared → Prop} {s : Shared}
end

section
variable {X : Cx}
end
end L2

namespace Att
open PySem PySem.W PySem.Calls PyProof.Rows

/-! ### the script -/
theorem ints_of_wellAll {P : Params} {h : Heap} : ∀ (ns : List Int) (vs : List Value), WellAll P h vs (ns.map WData.int) → IntsAre vs ns := by
  intro ns
  induction ns with
  | nil =>
    intro vs w
    rw [List.map_nil] at w
    cases w
    exact .nil
  | cons n ns ih =>
    intro vs w
    rw [List.map_cons] at w
    cases w with
    | cons a b =>
      cases a
      exact .cons _ _ (ih _ b)

theorem script_of {l : OpenLaw} {n : Nat} (hn : l.most = some n) {P : Params} {h : Heap} {args : List WData} {vals : List Value}
    (hpre : l.row.toRowW.claim.pre args = true) (hwl : WellAll P h vals args) :
    ∃ a vs ns, vals = [Value.ref a] ∧ args = [WData.list (ns.map WData.int)] ∧ h.get? a = some { cls := .type "list", data := .seq vs.toArray } ∧ IntsAre vs ns ∧ ns.length ≤ n := by
  have hsh : WShape.hasAll [] args [.list .int] = true := (pre_splitW hpre).1
  have hc : l.pre.holds [] { args := args } = true := (pre_splitW hpre).2
  obtain ⟨d, r, rfl, h1, h2⟩ := hasAllW_cons hsh
  obtain rfl := hasAllW_nil h2
  obtain ⟨xs, rfl, h3⟩ := hasW_list h1
  obtain ⟨ns, rfl⟩ := items_int h3
  have hlen : ns.length ≤ n := by
    unfold OpenLaw.pre at hc
    have h4 : (WTm.not (.lt (.lit (.int (n : Int))) (.len (.arg 0)))).holds [] { args := [.list (ns.map .int)] } = true := by
      have h4 := (holds_andW hc).1
      rw [hn] at h4
      exact h4
    have h5 := condW_of h4 (w_not (w_lt w_lit (w_len_list (w_arg rfl))))
    rw [List.length_map] at h5
    refine Nat.le_of_not_lt fun q => ?_
    have q' : (n : Int) < ((ns.length : Nat) : Int) := by omega
    first
      | (rw [decide_eq_true q'] at h5; exact absurd h5 (by decide))
      | (simp at h5; omega)
  cases hwl with
  | cons w1 w2 =>
    cases w2
    cases w1 with
    | list ho hall => exact ⟨_, _, ns, rfl, rfl, ho, ints_of_wellAll ns _ hall, hlen⟩

theorem post_true (l : OpenLaw) (args : List WData) : l.row.toRowW.claim.post args (.bool true) args = true :=
  postW_of (r := l.row.toRowW) (X := (true == true))
    (show WShape.has [] (.bool true) .bool = true by first | rfl | decide | simp [WShape.has, WShape.arms, WShape.armsAll])
    (show (WTm.eq .res (.lit (.bool true))).value [] { args := args, res := some (.bool true), after := args } = some (.bool (true == true)) from w_eq_bool (w_res rfl) w_lit) rfl

/-! ### the attachment: holds_open's last premise (the goal 'hc' behind k_head) from a wpAny of the law's body -/
/-- the same from a codeAny of the CALL (for a layer whose function contracts speak of calls) -/
theorem attach_call {l : OpenLaw} {n : Nat} {q : Program} {loose : List Str} {XP : (Str → Option Value) → Heap → Prop} {YP : World → Heap → Prop} {d : DefRec}
    (hn : l.most = some n) (hdf : d.params.defaults = [])
    (call : ∀ (w : World) (s₀ s₁ : Shared) (mg mb : Str → Option Value) (fa : Addr) (o : Obj) (pm cd doc : Value) (a : Addr) (vs : List Value) (ns : List Int),
      Ground q loose [] XP w s₀ mg mb s₁.heap → YP w s₁.heap →
      s₁.heap.get? fa = some o → o.data = .func (docDef d.name d.params d.body d.scope pm cd doc) → s₁.heap.CodeRec cd d.name → mg d.name = some (.ref fa) →
      s₁.heap.get? a = some { cls := .type "list", data := .seq vs.toArray } → IntsAre vs ns → ns.length ≤ n → s₁.gens = #[] →
      codeAny (model l.prog w) callerA (.call (.ref fa) ⟨[.ref a], []⟩) (fun r s' => r = .ok (.ret (.bool true)) ∧ OldK s₁.heap s'.heap ∧ s'.os = s₁.os ∧ AllBare s'.gens) s₁) :
    WalkO q loose XP YP l.row.toRowW d [] (fun f vs => PySem.call f vs) := by
  intro w s₀ s₁ mg mb G Y fa o pm cd doc dV kV ho hd hcd hD hmg hg args vals as hpre hlay hrd hwl hlo
  obtain rfl : dV = .none := Dflts.none hD hdf
  obtain rfl : kV = .none := Dflts.noKw hD
  obtain ⟨a, vs, ns, rfl, rfl, hobj, hints, hlen⟩ := script_of hn hpre hwl
  refine enter_call (codeAny_mono (call w s₀ s₁ mg mb fa o pm cd doc a vs ns G Y ho (fd_plain hd) hcd hmg hobj hints hlen hg) fun r s' hq => ?_)
  obtain ⟨rfl, h2, h3, h4⟩ := hq
  exact ⟨.inl ⟨.bool true, .bool true, [], rfl, fun _ => rfl, .bool true, post_true l _, fun _ => ⟨List.Pairwise.nil, fun _ hm => (nomatch hm)⟩⟩, h2, h3, h4⟩

/-! ### rules over ANY heap (no ledger) from facts about the written part K: the library's own take a ledger (News) for what they write -/
section
variable {prog : Program} {w : World} {A : Around} {E : Value → Shared → Prop} {s : Shared} {K : Frag}

/-! the whole heap as the ledger: makes every rule that writes through a ledger a rule over any heap -/
def ledger (h : Heap) (L d : Addr) : List (Addr × Obj) := (List.range h.objs.size).filterMap fun a => if a = L ∨ a = d then none else (h.get? a).map fun o => (a, o)
end
end Att

namespace L2
open PySem PySem.Spec PyProof.Rows

theorem vals_ints : ∀ {vs : List Value} {ns : List Int}, IntsAre vs ns → Vals (ns.map V.int) vs
  | _, _, .nil => .nil
  | _, _, .cons n t h => .cons ⟨t, rfl⟩ (vals_ints h)

/-- nothing is tracked but the script, known to the object (or it is an object of the module) -/
def Only (H : Hp) : Prop := ∀ b, H b = none ∨ ∃ o xs, H b = some (.frz o (.lst xs))

/-- THE HEAD: the law's promise, at the heap behind the top. F, the promise of the law's def, may use that base is part of the heap (so K.In base, base.Ns mainGlobals mg stand in Mod) -/
theorem law_call {P : Program} {w : World} {K : PySem.W.Frag} {mg mb : Str → Option Value} {CX : CXT} {k : Nat} {fa a : Addr} {fd : FuncData} {x : Str} {sp : Sp} {s₁ : Shared} {vs : List Value} {ns : List Int}
    (KX : K.In s₁.heap) (hns : s₁.heap.Ns mainGlobals mg) (hb : s₁.heap.Ns builtinsNs mb) (hbb : ∀ x : Str, x ≠ "__name__" → mb x = bootBuiltins x) (hlim : s₁.heap.NoLimit) (hg : s₁.gens = #[])
    (ha : s₁.heap.get? a = some { cls := .type "list", data := .seq vs.toArray }) (hi : IntsAre vs ns) (hl : ns.length ≤ sizeLine) (hr : Room k callerA)
    (F : ∀ base : Heap, K.In base → base.Ns mainGlobals mg → FnOk P w K mg base CX k fa fd [x] sp) (hbind : ∀ (s : Shared) (u : Value), BindsTo s fd ⟨[u], []⟩ [(x, u)])
    (hsp : ∀ H : Hp, Only H → SqL K H a (ns.map V.int) → sp [.ref a] H (fun v _ => v = .bl true) fun _ _ _ => False)
    (hCX : ∀ H e s', CX [] H s₁ (fun _ _ _ => False) e s' → False) :
    codeAny (model P w) callerA (.call (.ref fa) ⟨[.ref a], []⟩) (fun r s' => r = .ok (.ret (.bool true)) ∧ OldK s₁.heap s'.heap ∧ s'.os = s₁.os ∧ AllBare s'.gens) s₁ := by
  have rv := vals_ints hi
  have lenV := hi.length
  -- from an abstract heap in which nothing but the script may be tracked
  have core : ∀ H : Hp, Only H → SqL K H a (ns.map V.int) → HOk P w H s₁.heap → (∀ b, H b ≠ none → b = a) → (H a ≠ none → K.lookup a = none) →
      codeAny (model P w) callerA (.call (.ref fa) ⟨[.ref a], []⟩) (fun r s' => r = .ok (.ret (.bool true)) ∧ OldK s₁.heap s'.heap ∧ s'.os = s₁.os ∧ AllBare s'.gens) s₁ := by
    intro H hO hS hok hA hK
    have base_of : ∀ {b : Addr} {o : Obj}, s₁.heap.get? b = some o → H b = none → (hidT s₁.heap H).get? b = some o := fun e n => hidT_get e n
    have noA : ∀ {b : Addr} {o : Obj} {es : Array DictEntry} {ep : Nat}, s₁.heap.get? b = some o → o.data = .dict es ep → H b = none := fun {b o es ep} e d => by
      cases q : H b with
      | none => rfl
      | some u =>
        have e' : b = a := hA b (by rw [q]; simp)
        subst e'
        rw [ha] at e; cases e
        have d' : Data.seq vs.toArray _ = Data.dict es ep := d
        cases d'
    have nsK : ∀ {b : Addr} {m : Str → Option Value}, s₁.heap.Ns b m → (hidT s₁.heap H).Ns b m := fun {b m} ⟨o, es, ep, e, d, r⟩ => ⟨o, es, ep, base_of e (noA e d), d, r⟩
    have hKb : K.In (hidT s₁.heap H) := fun b o e => base_of (KX b o e) (by
      cases q : H b with
      | none => rfl
      | some u =>
        have e' : b = a := hA b (by rw [q]; simp)
        subst e'
        rw [hK (by rw [q]; simp)] at e; cases e)
    have hM : Mod K mg (hidT s₁.heap H) := ⟨hKb, nsK hns, ⟨mb, nsK hb, hbb⟩, let ⟨mc, h1, h2⟩ := hlim; ⟨mc, nsK h1, h2⟩⟩
    have e0 : Env0 P w K mg (hidT s₁.heap H) callerA [] s₁ H := ⟨rfl, hM, fun b o e => of_hidT e, Nat.le_of_eq (hidT_size _ _), trivial, fun b hb => absurd (show b ∈ ([] : List Addr) from hb) (by simp), hok, .of_eq hg⟩
    refine codeAny_mono ((F _ hKb (nsK hns)).run callerA [] s₁ H ⟨[.ref a], []⟩ [.ref a] [.ref a] _ _ hr e0 (hbind s₁ (.ref a)) (.cons rfl .nil) (hsp H hO hS)) fun r s' h => ?_
    cases r with
    | error e => exact (hCX H e s' h).elim
    | ok fl =>
      cases fl with
      | next => exact False.elim h
      | brk => exact False.elim h
      | cont => exact False.elim h
      | ret u =>
        obtain ⟨v, H', os, bare, un, hok', r', q⟩ := h
        have q' : v = .bl true := q
        subst q'
        obtain rfl : u = Value.bool true := r'
        refine ⟨rfl, OldK.of_keep fun b o e => ?_, os, bare⟩
        cases q : H b with
        | none => exact un.keep b o e q (by intro z; exact absurd (show b ∈ ([] : List Addr) from z) (by simp)) (by simp)
        | some u =>
          rcases hO b with z | ⟨ob, xs, z⟩
          · rw [q] at z; cases z
          · have z2 := un.frzs b ob _ z
            obtain ⟨e1, _⟩ := hok b _ z
            obtain ⟨e2, _⟩ := hok' b _ z2
            rw [e] at e1; cases e1
            exact e2
  cases hk : K.lookup a with
  | some o =>
    -- the script is one of the module's own objects
    have e := KX a o hk
    rw [ha] at e
    cases e
    refine core (fun _ => none) (fun _ => .inl rfl) (.inr ⟨_, vs.toArray, _, hk, rfl, rfl, rfl, by rw [List.size_toArray, lenV]; exact hl, by simpa using rv⟩) (fun b u z => by have z' : (none : Option HO) = some u := z; cases z') (fun b z => absurd rfl z) fun z => absurd rfl z
  | none =>
    refine core (fun b => if b = a then some (.frz { cls := .type "list", data := .seq vs.toArray } (.lst (ns.map V.int))) else none) (fun b => ?_) (.inl (.inr ⟨{ cls := .type "list", data := .seq vs.toArray }, if_pos rfl⟩)) (fun b u z => ?_) (fun b z => ?_) fun _ => hk
    · by_cases hb : b = a
      · exact .inr ⟨_, _, if_pos hb⟩
      · exact .inl (if_neg hb)
    · by_cases hb : b = a
      · have z' := (if_pos hb).symm.trans z
        cases z'
        subst hb
        exact ⟨ha, by rw [List.length_map]; exact hl, vs, _, rv, ha⟩
      · have z' := (if_neg hb).symm.trans z
        cases z'
    · by_cases hb : b = a
      · exact hb
      · exact absurd (if_neg hb) z
end L2

namespace L2
open PySem PySem.Spec PyProof.Rows

abbrev KOf {K : PySem.W.Frag} {h : Heap} (_ : K.In h) : PySem.W.Frag := K

/-- the goal that k_head leaves (case hc), from the law's promise. F gives the function object fd (K's own) once, then the promise over every base -/
theorem walk_of {l : PySem.W.OpenLaw} {n k : Nat} {q : Program} {loose : List Str} {XP : (Str → Option Value) → Heap → Prop} {YP : World → Heap → Prop} {d : DefRec} {K : Params → PySem.W.Frag} {CX : World → CXT} {sp : World → Sp} {x : Str}
    (hn : l.most = some n) (hn2 : n ≤ sizeLine) (hdf : d.params.defaults = []) (hr : Room k callerA)
    (hY : ∀ (w : World) (h : Heap), YP w h → (K w.params).In h)
    (F : ∀ (w : World) (mg : Str → Option Value) (fa : Addr) (h : Heap), (K w.params).In h → h.Ns mainGlobals mg → mg d.name = some (.ref fa) →
      ∃ fd : FuncData, (∀ (s : Shared) (u : Value), BindsTo s fd ⟨[u], []⟩ [(x, u)]) ∧
        ∀ base : Heap, (K w.params).In base → base.Ns mainGlobals mg → FnOk l.prog w (K w.params) mg base (CX w) k fa fd [x] (sp w))
    (hsp : ∀ (w : World) (H : Hp) (a : Addr) (ns : List Int), ns.length ≤ n → Only H → SqL (K w.params) H a (ns.map V.int) → sp w [.ref a] H (fun v _ => v = .bl true) fun _ _ _ => False)
    (hCX : ∀ (w : World) (H : Hp) (s : Shared) (e : Value) (s' : Shared), CX w [] H s (fun _ _ _ => False) e s' → False) :
    PySem.W.WalkO q loose XP YP l.row.toRowW d [] (fun f vs => PySem.call f vs) := by
  refine Att.attach_call hn hdf fun w s₀ s₁ mg mb fa o pm cd doc a vs ns G Y ho hd hcd hmg hobj hints hlen hg => ?_
  have KX := hY w _ Y
  obtain ⟨fd, hb, hF⟩ := F w mg fa _ KX G.T.g hmg
  exact law_call KX G.T.g G.T.b G.T.builtins G.T.nolimit hg hobj hints (Nat.le_trans hlen hn2) hr hF hb (fun H hO hS => hsp w H a ns hlen hO hS) fun H e s' => hCX w H s₁ e s'
end L2

/- THE LAST THEOREM (shape; LID, My.* are yours):
   My.Adr: a structure of the addresses that your layer names (classes, functions); My.Txt K t: a structure (Prop) of the equations over K;
   My.txt_mk : {K} {implicit addresses ..} (e1 : nsIn K mainGlobals "law" = some (some (.ref f))) (e2 : K.lookup f = some ⟨oc, od, .func (fnOf "law" "law" params body scope dV kV doc pm an cdv ct), sl⟩) (e3 : codeIn K cdv "law" = true) .. : ∃ t, My.Txt K t

set_option maxRecDepth 100000 in
set_option maxHeartbeats 0 in
theorem PySem.Challenge.cw_LID_holds : PySem.Challenge.rw_LID.Holds := by
  w_on; o_law; k_head; (case hw => w_witness2)
  k_fill
  refine L2.walk_of (l := PySem.Challenge.rw_LID) (n := 63) (k := 40) (x := "script") (CX := fun w => ..) (sp := fun _ => My.sp_law) rfl (by decide) rfl ⟨rfl, by decide, by decide⟩ (fun w h Y => PySem.W.kIn_of Y) ?F ?S ?C
  case F =>
    intro w mg fa h KX G hmg
    have T : ∃ t, My.Txt (L2.KOf KX) t := by
      dsimp only [L2.KOf]                          -- K must stand as «<heap const> w.params» for k_is
      refine' My.txt_mk ?e1 ?e2 ?e3 ..
      (case e1 => PySem.W.k_is)                    -- in the order: a name -> its address -> its object -> its parts
      (case e2 => PySem.W.k_is)
      ..
    obtain ⟨t, T⟩ := T
    have e0 := hmg.symm.trans (PySem.W.mg_of KX G T.law)
    cases e0                                       -- fa is the law's own address
    exact ⟨_, fun s u => .of_eq rfl, fun base kb nb => My.law_fn T kb nb⟩     -- if «.of_eq rfl» comes too early: refine' ⟨_, ?b, fun base kb nb => My.law_fn T kb nb⟩; exact fun s u => .of_eq rfl
  case S => exact fun w H a ns hl hO hS => ..
  case C => exact ..
(the tactic k_is has no namespace: write k_is) -/

/-! SHORT WORDS over the layer: a def of the text, its body, what a loop and a test want. -/
namespace L2
open PySem PySem.Spec PyProof.Rows

/-! ### the text by places -/
def defArgs (s : Stmt) : Arguments := match s with
  | .FunctionDef _ a _ _ _ _ _ _ _ _ => a
  | _ => { posonlyargs := [], args := [], vararg := none, kwonlyargs := [], kw_defaults := [], kwarg := none, defaults := [] }
def defBody (s : Stmt) : List Stmt := match s with
  | .FunctionDef _ _ b _ _ _ _ _ _ _ => b
  | _ => []
def defScope (s : Stmt) : Scope := match s with
  | .FunctionDef _ _ _ _ _ _ sc _ _ _ => sc
  | _ => { kind := .function, names := [], isGenerator := false, isCoroutine := false }

/-! ### no exception leaves a def -/
abbrev CX0 : CXT := fun _ _ _ _ _ _ => False
abbrev E0 : XK := fun _ _ _ => False
theorem pass0 {X : Cx} : Passes CX0 X E0 := fun _ _ _ _ _ _ _ h => h.elim

/-! ### a def (or method) of the text as it stands behind the top -/
structure Fun (K : PySem.W.Frag) (x qual : Str) (st : Stmt) (f : Addr) (fd : FuncData) : Prop where
  ex : ∃ (oc : Value) (od : Option Addr) (kV doc pm : Value) (an : Option Addr) (cdv ct : Value) (osl : Array (Option Value)),
    fd = PySem.W.fnOf x qual (defArgs st) (defBody st) (defScope st) .none kV doc pm an cdv ct ∧ K.lookup f = some ⟨oc, od, .func fd, osl⟩ ∧ PySem.W.codeIn K cdv qual = true
  kp : PySem.W.keepIn K (.ref f) = true
section
variable {P : Program} {w : World} {K : PySem.W.Frag} {mg : Str → Option Value} {base : Heap}
/-- THE RULE for a def: its body as a term of rules, and the reading of that term -/
theorem Fun.ok {x qual : Str} {st : Stmt} {f : Addr} {fd : FuncData} {N ps : List Str} {k : Nat} {sp : Sp} (F : Fun K x qual st f fd) (S : FnScope N ps (defScope st)) (len : ∀ vs H Q E, sp vs H Q E → vs.length = ps.length)
    (hbody : ∀ (cdv : Value) (A : Around) (outer : List Env) (s : Shared) (H : Hp) (vs : List V) (Q : VK) (E : XK), Room k (A.deeper (envOfC qual (defScope st) s.heap.objs.size f cdv)) → sp vs H Q E →
      ∃ t, PSs (cxOf CX0 P w K mg base N qual (defScope st) f cdv A outer s H E).nox (defBody st) t ∧ t { nx := fun _ H' => Q .non H', rt := Q } (start N vs) H) : FnOk P w K mg base CX0 (k + 1) f fd ps sp := by
  obtain ⟨oc, od, kV, doc, pm, an, cdv, ct, osl, rfl, lk, hcd⟩ := F.ex
  refine fn_of lk hcd S len fun A outer s H vs Q E hr hsp => ?_
  obtain ⟨t, h, q⟩ := hbody cdv A outer s H vs Q E hr hsp
  exact ⟨t, h.nox, q⟩
/-- how its arguments bind (no defaults): h is «fun _ _ _ _ _ _ us hl => match us, hl with | [_, _], _ => rfl», one _ a parameter -/
theorem Fun.binds {x qual : Str} {st : Stmt} {f : Addr} {fd : FuncData} {ps : List Str} (F : Fun K x qual st f fd)
    (h : ∀ (kV doc pm : Value) (an : Option Addr) (cdv ct : Value) (us : List Value), us.length = ps.length → bindArgs (PySem.W.fnOf x qual (defArgs st) (defBody st) (defScope st) .none kV doc pm an cdv ct) ⟨us, []⟩ = pure (ps.zip us)) : Binds K fd ps [] := by
  obtain ⟨oc, od, kV, doc, pm, an, cdv, ct, osl, rfl, lk, hcd⟩ := F.ex
  exact .all (h kV doc pm an cdv ct)
theorem fun_mk {x qual : Str} {st : Stmt} {f : Addr} {oc : Value} {od an : Option Addr} {osl : Array (Option Value)} {kV doc pm cdv ct : Value} (l : K.lookup f = some ⟨oc, od, .func (PySem.W.fnOf x qual (defArgs st) (defBody st) (defScope st) .none kV doc pm an cdv ct), osl⟩)
    (c : PySem.W.codeIn K cdv qual = true) (k : PySem.W.keepIn K (.ref f) = true) : Fun K x qual st f (PySem.W.fnOf x qual (defArgs st) (defBody st) (defScope st) .none kV doc pm an cdv ct) := ⟨⟨oc, od, kV, doc, pm, an, cdv, ct, osl, rfl, l, c⟩, k⟩
end
/-! ### expressions in short: the name that stands in the i-th slot -/
section
variable {X : Cx}
theorem pv (i : Nat) {x : Str} {pos : Pos} (hN : X.N[i]? = some x := by rfl) (hv : Vis X.env.scope x := by first | exact Or.inl rfl | exact Or.inr (Or.inl rfl) | exact Or.inr (Or.inr rfl)) (hd : (x == ("__debug__" : Str)) = false := by decide)
    (hcd : (x == ("__classdict__" : Str)) = false := by decide) : PE X (.Name x pos) (tVar i) := pe_var hN hv hd hcd
end

/-! ### tests -/
theorem iteF {A B : Prop} (h : B) : if false = true then A else B := by
  rw [if_neg Bool.false_ne_true]
  exact h
theorem iteT {A B : Prop} (h : A) : if true = true then A else B := by
  rw [if_pos rfl]
  exact h
theorem ite2 {c A B : Prop} [Decidable c] (h1 : c → A) (h2 : ¬ c → B) : if c then A else B := by
  by_cases h : c
  · rw [if_pos h]
    exact h1 h
  · rw [if_neg h]
    exact h2 h
/-! ### heaps -/
/-- all that was tracked is as it was -/
def Same (H H' : Hp) : Prop := ∀ b o, H b = some o → H' b = some o
theorem Same.refl (H : Hp) : Same H H := fun _ _ h => h
theorem Same.trans {H H1 H2 : Hp} (a : Same H H1) (b : Same H1 H2) : Same H H2 := fun c o h => b c o (a c o h)
theorem Same.free {H H' : Hp} (e : Same H H') {l : Addr} (h : H' l = Option.none) : H l = Option.none := by
  cases q : H l with
  | none => rfl
  | some o =>
    rw [e l o q] at h
    cases h
theorem Same.seq {K : PySem.W.Frag} {H H' : Hp} {a : Addr} {xs : List V} (e : Same H H') (h : SqL K H a xs) : SqL K H' a xs := by
  rcases h with (h | ⟨o, h⟩) | h
  · exact .inl (.inl (e _ _ h))
  · exact .inl (.inr ⟨o, e _ _ h⟩)
  · exact .inr h

end L2

set_option Elab.async false
set_option linter.all false
set_option maxRecDepth 100000
namespace L2
open PySem PySem.Spec PyProof.Rows

/-! ### wide ints -/
def Wd (i : Int) : Prop := i.natAbs < 2 ^ 5000
theorem Wd.bits {i : Int} (h : Wd i) : Builtin.Int.intBits i ≤ 2 ^ 20 :=
  Nat.le_trans (PyProof.Rows.intBits_le h) (by decide)
theorem Wd.log {i : Int} (h : Wd i) : i.natAbs.log2 < 9000 := by
  by_cases e : i.natAbs = 0
  · rw [e]; decide
  · have h1 : i.natAbs.log2 < 5000 := (Nat.log2_lt e).mpr h
    omega
section
variable {X : Cx}
theorem op_fdivW : OpR X (binaryOp .FloorDiv) (rI (fun _ j => 0 < j ∧ Wd j) fun i j => .int (i / j)) := opI fun i j _ _ _ _ _ hc q => by
  have h1 : (0 : Int) < j := hc.1
  exact floordiv_int (by omega) (by rw [Int.fdiv_eq_ediv_of_nonneg i (by omega)]; exact q) (.inl (PyProof.noPylong_of_log2 hc.2.log))
theorem op_fdivNW : OpR X (binaryOp .FloorDiv) (rI (fun _ j => j ≠ 0 ∧ Wd j) fun i j => .int (i.fdiv j)) := opI fun _ _ _ _ _ _ _ hc q => floordiv_int hc.1 q (.inl (PyProof.noPylong_of_log2 hc.2.log))
end

/-! ### isinstance -/
/-- the name of a value's type -/
def TyN (K : PySem.W.Frag) (H : Hp) (x : V) (T : String) : Prop :=
  match x with
  | .non => T = "NoneType"
  | .bl _ => T = "bool"
  | .int _ => T = "int"
  | .str _ => T = "str"
  | .ref a => (T = "list" ∧ ∃ xs, SqL K H a xs) ∨ (T = "tuple" ∧ ∃ xs, SqT K H a xs)
  | _ => False
def tyIs (T n : String) : Bool := T == n || (T == "bool" && n == "int")
def tyNames : List String := ["NoneType", "bool", "int", "str", "list", "tuple"]
def tyWords : List String := ["bool", "int", "str", "list", "tuple"]
theorem kit_ty {K : PySem.W.Frag} {T n : String} (h1 : T ∈ tyNames) (h2 : n ∈ tyWords) : PySem.W.kitOne K (.type T) (.type n) = some (tyIs T n) := by
  have all : tyNames.all (fun T => tyWords.all fun n => PySem.W.kitOne [] (.type T) (.type n) == some (tyIs T n)) = true := by decide +kernel
  have a1 := List.all_eq_true.mp all T h1
  have a2 := List.all_eq_true.mp a1 n h2
  have e : PySem.W.kitOne K (.type T) (.type n) = PySem.W.kitOne [] (.type T) (.type n) := by
    unfold PySem.W.kitOne PySem.W.kitCls PySem.W.subIn
    rfl
  rw [e]
  exact beq_iff_eq.mp a2
section
variable {X : Cx}
theorem TyN.mem {K : PySem.W.Frag} {H : Hp} {x : V} {T : String} (h : TyN K H x T) : T ∈ tyNames := by
  cases x with
  | non => cases (show T = "NoneType" from h); decide
  | bl b => cases (show T = "bool" from h); decide
  | int b => cases (show T = "int" from h); decide
  | str b => cases (show T = "str" from h); decide
  | ref a => rcases (show (T = "list" ∧ ∃ xs, SqL K H a xs) ∨ (T = "tuple" ∧ ∃ xs, SqT K H a xs) from h) with ⟨e, _⟩ | ⟨e, _⟩ <;> cases e <;> decide
  | _ => exact (show False from h).elim
theorem kit_of {pins : List (Addr × Obj)} {s : Shared} {σ : St} {H : Hp} {x : V} {u : Value} {T : String} (I : Inv X pins σ H s) (rx : RelV x u) (ty : TyN X.K H x T) :
    ∃ P : Heap → Prop, PySem.W.KitX X.K u (.type T) P ∧ P s.heap ∧ u ≠ .builtin "__main__.__loader__#opaque" := by
  cases x with
  | non => cases (show T = "NoneType" from ty); cases (show u = Value.none from rx); exact ⟨_, PySem.W.kitx_none, True.intro, fun z => nomatch z⟩
  | bl b => cases (show T = "bool" from ty); cases (show u = Value.bool b from rx); exact ⟨_, PySem.W.kitx_bool, True.intro, fun z => nomatch z⟩
  | int b => cases (show T = "int" from ty); obtain ⟨t, q⟩ := (show ∃ t, u = Value.int b t from rx); cases q; exact ⟨_, PySem.W.kitx_int, True.intro, fun z => nomatch z⟩
  | str b => cases (show T = "str" from ty); obtain ⟨t, q⟩ := (show ∃ t, u = Value.str b t from rx); cases q; exact ⟨_, PySem.W.kitx_str, True.intro, fun z => nomatch z⟩
  | ref a =>
    cases (show u = Value.ref a from rx)
    rcases (show (T = "list" ∧ ∃ xs, SqL X.K H a xs) ∨ (T = "tuple" ∧ ∃ xs, SqT X.K H a xs) from ty) with ⟨e, xs, hx⟩ | ⟨e, xs, hx⟩
    · cases e
      obtain ⟨its, r, ⟨o, n, h1, h2, _⟩, _⟩ := I.list hx
      exact ⟨_, PySem.W.kitx_list, ⟨o, h1, h2⟩, fun z => nomatch z⟩
    · cases e
      obtain ⟨its, r, ⟨o, h1, h2, _⟩, _⟩ := I.tuple hx
      exact ⟨_, PySem.W.kitx_tuple, ⟨o, h1, h2⟩, fun z => nomatch z⟩
  | _ => exact (show False from ty).elim
def rIsi (K : PySem.W.Frag) : List V → Hp → VK → Prop := fun xs H Q => ∃ x T n b, xs = [x, .ty n] ∧ TyN K H x T ∧ n ∈ tyWords ∧ tyIs T n = b ∧ Q (.bl b) H
theorem call_isi : CallR X (.builtin "isinstance") (rIsi X.K) := by
  intro pins s σ H xs us Q I r h
  obtain ⟨x, T, n, b, rfl, ty, hn, rfl, q⟩ := h
  obtain ⟨u, c, rfl, rx, rc⟩ := vals2 r
  cases (show c = Value.type n from rc)
  obtain ⟨P, Z, p, hx⟩ := kit_of I rx ty
  exact PySem.W.kia_one Z I.kIn p (kit_ty ty.mem hn) hx fun tk => ⟨.bl (tyIs T n), H, I.tok _, rfl, q⟩
/-- isinstance(x, (A, B)) -/
def rIsiT (K : PySem.W.Frag) : List V → Hp → VK → Prop := fun xs H Q => ∃ (x : V) (T : String) (p : Addr) (ns : List String) (b : Bool), xs = [x, .ref p] ∧ H p = some (.tup (ns.map V.ty)) ∧ TyN K H x T ∧ (∀ n ∈ ns, n ∈ tyWords) ∧ ns.any (tyIs T) = b ∧ Q (.bl b) H
theorem kit_tys {K : PySem.W.Frag} {T : String} (h1 : T ∈ tyNames) : ∀ {ns : List String}, (∀ n ∈ ns, n ∈ tyWords) → PySem.W.kitAny K (.type T) (ns.map Value.type) = some (ns.any (tyIs T))
  | [], _ => rfl
  | n :: r, h => by
    have e := kit_ty (K := K) h1 (h n (List.mem_cons_self ..))
    have ih := kit_tys (K := K) h1 (ns := r) fun m hm => h m (List.mem_cons_of_mem _ hm)
    rw [List.map_cons, PySem.W.kitAny, e, List.any_cons]
    cases tyIs T n with
    | true => rfl
    | false => simpa using ih
theorem vals_ty : ∀ {ns : List String} {us : List Value}, Vals (ns.map V.ty) us → us = ns.map Value.type
  | [], _, .nil => rfl
  | n :: r, _, .cons q t => by
    cases (show _ = Value.type n from q)
    rw [vals_ty t]; rfl
theorem call_isiT : CallR X (.builtin "isinstance") (rIsiT X.K) := by
  intro pins s σ H xs us Q I r h
  obtain ⟨x, T, p, ns, b, rfl, hp, ty, hn, rfl, q⟩ := h
  obtain ⟨u, c, rfl, rx, rc⟩ := vals2 r
  cases (show c = Value.ref p from rc)
  obtain ⟨P, Z, pp, hx⟩ := kit_of I rx ty
  obtain ⟨_, its, rv, ⟨cls, dd, dt, sl⟩, h1, h2, n, h3⟩ := (show ObjOk X.prog X.w H s.heap p (.tup (ns.map V.ty)) from I.hok p _ hp)
  simp only at h2 h3
  subst h2 h3
  have e := vals_ty rv
  subst e
  exact PySem.W.kia_tup Z I.kIn pp h1 (kit_tys ty.mem hn) hx fun tk => ⟨.bl _, H, I.tok _, rfl, q⟩
end

/-! ### data, and == of data -/
mutual
/-- the value x stands for the datum d -/
def RD (K : PySem.W.Frag) (H : Hp) : V → PyData → Prop
  | x, .none => x = .non
  | x, .bool b => x = .bl b
  | x, .int i => x = .int i
  | x, .str y => x = .str y
  | x, .list ds => ∃ a xs, x = .ref a ∧ SqL K H a xs ∧ RDs K H xs ds
  | x, .tuple ds => ∃ a xs, x = .ref a ∧ SqT K H a xs ∧ RDs K H xs ds
  | _, .dict _ => False
def RDs (K : PySem.W.Frag) (H : Hp) : List V → List PyData → Prop
  | xs, [] => xs = []
  | xs, d :: ds => ∃ y ys, xs = y :: ys ∧ RD K H y d ∧ RDs K H ys ds
end
section
variable {X : Cx}
mutual
theorem RD.reads {pins : List (Addr × Obj)} {s : Shared} {σ : St} {H : Hp} (I : Inv X pins σ H s) : ∀ {x : V} {u : Value} (d : PyData), RelV x u → RD X.K H x d → ∃ as, Reads s.heap u d as
  | x, u, .none, r, h => by cases (show x = .non from by simpa [RD] using h); cases (show u = Value.none from r); exact ⟨_, .none⟩
  | x, u, .bool b, r, h => by cases (show x = .bl b from by simpa [RD] using h); cases (show u = Value.bool b from r); exact ⟨_, .bool b⟩
  | x, u, .int i, r, h => by cases (show x = .int i from by simpa [RD] using h); obtain ⟨t, q⟩ := (show ∃ t, u = Value.int i t from r); cases q; exact ⟨_, .int i t⟩
  | x, u, .str y, r, h => by cases (show x = .str y from by simpa [RD] using h); obtain ⟨t, q⟩ := (show ∃ t, u = Value.str y t from r); cases q; exact ⟨_, .str y t⟩
  | x, u, .list ds, r, h => by
    rw [RD] at h
    obtain ⟨a, xs, rfl, hx, hd⟩ := h
    cases (show u = Value.ref a from r)
    obtain ⟨its, rv, ⟨o, n, h1, h2, h3, h4⟩, _⟩ := I.list hx
    obtain ⟨as, q⟩ := RDs.reads I ds rv hd
    exact ⟨_, .list h1 h2 h4 (by simpa using q)⟩
  | x, u, .tuple ds, r, h => by
    rw [RD] at h
    obtain ⟨a, xs, rfl, hx, hd⟩ := h
    cases (show u = Value.ref a from r)
    obtain ⟨its, rv, ⟨o, h1, h2, n, h4⟩, _⟩ := I.tuple hx
    obtain ⟨as, q⟩ := RDs.reads I ds rv hd
    exact ⟨_, .tuple h1 h2 h4 (by simpa using q)⟩
  | x, u, .dict _, r, h => by simp [RD] at h
theorem RDs.reads {pins : List (Addr × Obj)} {s : Shared} {σ : St} {H : Hp} (I : Inv X pins σ H s) : ∀ {xs : List V} {us : List Value} (ds : List PyData), Vals xs us → RDs X.K H xs ds → ∃ as, ReadsAll s.heap us ds as
  | xs, us, [], r, h => by
    cases (show xs = [] from by simpa [RDs] using h)
    cases r
    exact ⟨_, .nil⟩
  | xs, us, d :: ds, r, h => by
    rw [RDs] at h
    obtain ⟨y, ys, rfl, h1, h2⟩ := h
    cases r with
    | cons ra rb =>
      obtain ⟨as, q⟩ := RD.reads I d ra h1
      obtain ⟨bs, q'⟩ := RDs.reads I ds rb h2
      exact ⟨_, .cons q q'⟩
end
def rEqD (K : PySem.W.Frag) : R2 := fun x y H Q => ∃ d e, RD K H x d ∧ RD K H y e ∧ SeqAt.shaped d = true ∧ SeqAt.shaped e = true ∧ Q (.bl (PyData.eqv d e)) H
def rNeD (K : PySem.W.Frag) : R2 := fun x y H Q => ∃ d e, RD K H x d ∧ RD K H y e ∧ SeqAt.shaped d = true ∧ SeqAt.shaped e = true ∧ Q (.bl (!PyData.eqv d e)) H
theorem op_eqD (hu : X.A.units + 64 < cLine) : OpR X (compareOp .Eq) (rEqD X.K) := by
  intro pins s σ H x y v u Q I rx ry h
  obtain ⟨d, e, hd, he, sd, se, q⟩ := h
  obtain ⟨as, ra⟩ := RD.reads I d rx hd
  obtain ⟨bs, rb⟩ := RD.reads I e ry he
  exact eq_dataH ra rb sd se hu ⟨.bl _, H, I, rfl, q⟩
theorem op_neD (hu : X.A.units + 64 < cLine) : OpR X (compareOp .NotEq) (rNeD X.K) := by
  intro pins s σ H x y v u Q I rx ry h
  obtain ⟨d, e, hd, he, sd, se, q⟩ := h
  obtain ⟨as, ra⟩ := RD.reads I d rx hd
  obtain ⟨bs, rb⟩ := RD.reads I e ry he
  exact ne_dataH ra rb sd se hu ⟨.bl _, H, I, rfl, q⟩
end
end L2


set_option Elab.async false
set_option linter.all false
set_option maxRecDepth 100000
namespace L2
open PySem PySem.Spec PyProof.Rows

/-! ### a new object -/
theorem Same.new {H : Hp} {t : Addr} {o : HO} (ht : H t = none) : Same H (upd H t o) := fun b o' e => by rw [upd_ne (ne_of_none e ht)]; exact e
structure Nw (H H' : Hp) (p : Addr) (o : HO) : Prop where
  no : H p = none
  at' : H' p = some o
  same : Same H H'
  eq : H' = upd H p o
theorem Nw.of {H : Hp} {p : Addr} {o : HO} (h : H p = none) : Nw H (upd H p o) p o := ⟨h, upd_same, .new h, rfl⟩
/-! ### the builtins are not hidden by the text -/
def bltNames : List Str := ["len", "abs", "min", "max", "range", "isinstance", "int", "bool", "str", "tuple", "list", "any", "all", "sum", "zip", "enumerate", "sorted", "reversed", "ord", "chr", "divmod", "repr", "dict", "set"]
def Blt (mg : Str → Option Value) : Prop := ∀ x ∈ bltNames, mg x = none
theorem Blt.at {mg : Str → Option Value} (B : Blt mg) (x : Str) (h : x ∈ bltNames := by decide) : mg x = none := B x h

/-! ### a def of the text, and its promise, in one word -/
structure FA (K : PySem.W.Frag) (mg : Str → Option Value) (x : Str) (st : Stmt) : Prop where
  ex : ∃ f fd, mg x = some (.ref f) ∧ Fun K x x st f fd
def FnHas (P : Program) (w : World) (K : PySem.W.Frag) (mg : Str → Option Value) (base : Heap) (x : Str) (k : Nat) (sp : Sp) : Prop :=
  ∃ f fd ps, FnOk P w K mg base CX0 k f fd ps sp ∧ mg x = some (.ref f) ∧ PySem.W.keepIn K (.ref f) = true ∧ Binds K fd ps []
section
variable {P : Program} {w : World} {K : PySem.W.Frag} {mg : Str → Option Value} {base : Heap}
theorem fa_mk {h : Heap} {x : Str} {st : Stmt} {f : Addr} {oc : Value} {od an : Option Addr} {osl : Array (Option Value)} {kV doc pm cdv ct : Value} (X : K.In h) (G : h.Ns mainGlobals mg)
    (a : PySem.W.nsIn K mainGlobals x = some (some (.ref f)))
    (l : K.lookup f = some ⟨oc, od, .func (PySem.W.fnOf x x (defArgs st) (defBody st) (defScope st) .none kV doc pm an cdv ct), osl⟩)
    (c : PySem.W.codeIn K cdv x = true) (k : PySem.W.keepIn K (.ref f) = true) : FA K mg x st :=
  ⟨f, _, PySem.W.mg_of X G a, fun_mk l c k⟩
theorem FA.has {x : Str} {st : Stmt} {N ps : List Str} {k : Nat} {sp : Sp} (F : FA K mg x st) (S : FnScope N ps (defScope st)) (len : ∀ vs H Q E, sp vs H Q E → vs.length = ps.length)
    (hb : ∀ (kV doc pm : Value) (an : Option Addr) (cdv ct : Value) (us : List Value), us.length = ps.length → bindArgs (PySem.W.fnOf x x (defArgs st) (defBody st) (defScope st) .none kV doc pm an cdv ct) ⟨us, []⟩ = pure (ps.zip us))
    (hbody : ∀ (f : Addr) (cdv : Value) (A : Around) (outer : List Env) (s : Shared) (H : Hp) (vs : List V) (Q : VK) (E : XK), Room k (A.deeper (envOfC x (defScope st) s.heap.objs.size f cdv)) → sp vs H Q E →
      ∃ t, PSs (cxOf CX0 P w K mg base N x (defScope st) f cdv A outer s H E).nox (defBody st) t ∧ t { nx := fun _ H' => Q .non H', rt := Q } (start N vs) H) : FnHas P w K mg base x (k + 1) sp := by
  obtain ⟨f, fd, hm, F⟩ := F.ex
  exact ⟨f, fd, ps, F.ok S len fun cdv A outer s H vs Q E => hbody f cdv A outer s H vs Q E, hm, F.kp, F.binds hb⟩
theorem FnHas.imp {x : Str} {k : Nat} {sp sp' : Sp} (F : FnHas P w K mg base x k sp) (h : ∀ vs H Q E, sp' vs H Q E → sp vs H Q E) : FnHas P w K mg base x k sp' := by
  obtain ⟨f, fd, ps, F, r⟩ := F
  exact ⟨f, fd, ps, F.imp h, r⟩
end
section
variable {X : Cx} {k : Nat} {x : Str} {p pos : Pos} {e : Expr} {es : List Expr} {t : TA} {sp : Sp}
def tFn (sp : Sp) (t : TA) : TE := fun σ H Q => t σ H fun vs H1 => sp vs H1 Q E0
theorem pe_fn (F : FnHas X.prog X.w X.K X.mg X.base x k sp) (hr : Room k X.A) (hg : Gl X x) (ha : PA X (e :: es) t) (hdb : (x == ("__debug__" : Str)) = false := by decide)
    (he : starEach (e :: es) X.env = (false, eval e X.env) :: starEach es X.env := by rfl) (hpl : (backTo pos (starEach es X.env)).any (·.1) = false := by rfl) :
    PE X (.Call (.Name x p) (e :: es) [] pos) (tFn sp t) := by
  obtain ⟨f, fd, ps, F, hm, hk, hb⟩ := F
  have h := pe_call (pos := pos) (p := p) F hr hg hm hk hb .nil pass0 ha hdb he hpl
  intro pins s σ H Q I hq
  refine h pins s σ H Q I ?_
  have e1 : (fun (vs : List V) H1 => sp (vs ++ []) H1 Q E0) = fun vs H1 => sp vs H1 Q E0 := by
    funext vs H1; rw [List.append_nil]
  show t σ H fun vs H1 => sp (vs ++ []) H1 Q E0
  rw [e1]
  exact hq
/-- a product, by what the machine asks -/
theorem op_mulG : OpR X (binaryOp .Mult) (rI (fun i j => IntMulOk i j) fun i j => .int (i * j)) := opI fun _ _ _ _ _ _ _ hc q => mul_int q hc
theorem op_eqI : OpR X (compareOp .Eq) (rI0 fun i j => .bl (decide (i = j))) := opB0 fun _ _ _ _ _ _ _ q => eq_int (by rw [Bool.beq_eq_decide_eq]; exact q)
theorem op_neI : OpR X (compareOp .NotEq) (rI0 fun i j => .bl (!decide (i = j))) := opB0 fun _ _ _ _ _ _ _ q => ne_int (by rw [bne, Bool.beq_eq_decide_eq]; exact q)
theorem op_eqA (hu : X.A.units + 64 < cLine) : OpR X (compareOp .Eq) (fun x y H Q => rI0 (fun i j => .bl (decide (i = j))) x y H Q ∨ rEqD X.K x y H Q) := op_eqI.or (op_eqD hu)
theorem op_neA (hu : X.A.units + 64 < cLine) : OpR X (compareOp .NotEq) (fun x y H Q => rI0 (fun i j => .bl (!decide (i = j))) x y H Q ∨ rNeD X.K x y H Q) := op_neI.or (op_neD hu)
mutual
theorem eqv_refl : ∀ d : PyData, d.canLay0 = true → PyData.eqv d d = true
  | .none, _ => by simp [PyData.eqv]
  | .bool b, _ => by simp [PyData.eqv]
  | .int i, _ => by simp [PyData.eqv]
  | .str x, _ => by simp [PyData.eqv]
  | .list ds, h => by simp only [PyData.eqv]; exact eqvAll_refl ds (by simpa [PyData.canLay0] using h)
  | .tuple ds, h => by simp only [PyData.eqv]; exact eqvAll_refl ds (by simpa [PyData.canLay0] using h)
  | .dict _, h => by simp [PyData.canLay0] at h
theorem eqvAll_refl : ∀ ds : List PyData, PyData.canLayAll0 ds = true → PyData.eqvAll ds ds = true
  | [], _ => by simp [PyData.eqvAll]
  | d :: ds, h => by
    simp only [PyData.canLayAll0, Bool.and_eq_true] at h
    simp only [PyData.eqvAll, Bool.and_eq_true]
    exact ⟨eqv_refl d h.1, eqvAll_refl ds h.2⟩
end
theorem rd_bl {K : PySem.W.Frag} {H : Hp} (b : Bool) : RD K H (.bl b) (.bool b) := by simp [RD]
theorem rd_int {K : PySem.W.Frag} {H : Hp} (i : Int) : RD K H (.int i) (.int i) := by simp [RD]
theorem rd_str {K : PySem.W.Frag} {H : Hp} (x : Str) : RD K H (.str x) (.str x) := by simp [RD]
theorem rd_non {K : PySem.W.Frag} {H : Hp} : RD K H .non .none := by simp [RD]
theorem rd_tup {K : PySem.W.Frag} {H : Hp} {p : Addr} {xs : List V} {ds : List PyData} (h : SqT K H p xs) (r : RDs K H xs ds) : RD K H (.ref p) (.tuple ds) := by rw [RD]; exact ⟨p, xs, rfl, h, r⟩
theorem rd_lst {K : PySem.W.Frag} {H : Hp} {p : Addr} {xs : List V} {ds : List PyData} (h : SqL K H p xs) (r : RDs K H xs ds) : RD K H (.ref p) (.list ds) := by rw [RD]; exact ⟨p, xs, rfl, h, r⟩
theorem rds_nil {K : PySem.W.Frag} {H : Hp} : RDs K H [] [] := by simp [RDs]
theorem rds_cons {K : PySem.W.Frag} {H : Hp} {x : V} {xs : List V} {d : PyData} {ds : List PyData} (h : RD K H x d) (r : RDs K H xs ds) : RDs K H (x :: xs) (d :: ds) := by rw [RDs]; exact ⟨x, xs, rfl, h, r⟩
/-- a word between two statements -/
def tMid (t : TS) : TS := fun D σ H => ∃ Mid : St → Hp → Prop, t { D with nx := Mid } σ H ∧ ∀ σ' H', Mid σ' H' → D.nx σ' H'
theorem ps_mid {st : Stmt} {t : TS} (h : PS X st t) : PS X st (tMid t) := by
  intro pins s σ H D I hq
  obtain ⟨Mid, q, m⟩ := hq
  refine thn (h pins s σ H _ I q) fun f s1 q1 => ?_
  cases f with
  | next => obtain ⟨σ', H', I', q'⟩ := q1; exact ⟨σ', H', I', m _ _ q'⟩
  | brk => exact q1
  | cont => exact q1
  | ret u => exact q1
end
end L2
namespace L2
open PySem PySem.Spec PyProof.Rows
def NoG (K : PySem.W.Frag) (xs : List Str) : Prop := ∀ x ∈ xs, PySem.W.nsIn K mainGlobals x = some none
theorem NoG.nil {K : PySem.W.Frag} : NoG K [] := fun _ h => nomatch h
theorem NoG.cons {K : PySem.W.Frag} {x : Str} {xs : List Str} (a : PySem.W.nsIn K mainGlobals x = some none) (r : NoG K xs) : NoG K (x :: xs) := fun y hy => by
  rcases List.mem_cons.mp hy with e | e
  · rw [e]; exact a
  · exact r y e
theorem blt_mk {K : PySem.W.Frag} {mg : Str → Option Value} {h : Heap} (X : K.In h) (G : h.Ns mainGlobals mg) (a : NoG K bltNames) : Blt mg := fun x hx =>
  PySem.W.mg_none_of X G (a x hx)
/-- the law's own promise, from all that the top has written -/
theorem law_walk {l : PySem.W.OpenLaw} {q : Program} {loose : List Str} {XP : (Str → Option Value) → Heap → Prop} {YP : World → Heap → Prop} {d : DefRec} {K : Params → PySem.W.Frag} {k : Nat} {x : Str} {st : Stmt} (hn : l.most = some 63) (hdf : d.params.defaults = [])
    (hr : Room k callerA) (hY : ∀ (w : World) (h : Heap), YP w h → (K w.params).In h) (All : PySem.W.Frag → (Str → Option Value) → Prop)
    (F : ∀ (w : World) (mg : Str → Option Value) (h : Heap), (K w.params).In h → h.Ns mainGlobals mg → All (K w.params) mg)
    (L : ∀ (K : PySem.W.Frag) (mg : Str → Option Value), All K mg → FA K mg d.name st)
    (hb : ∀ (kV doc pm : Value) (an : Option Addr) (cdv ct u : Value), bindArgs (PySem.W.fnOf d.name d.name (defArgs st) (defBody st) (defScope st) .none kV doc pm an cdv ct) ⟨[u], []⟩ = pure [(x, u)])
    (ok : ∀ (P : Program) (w : World) (K : PySem.W.Frag) (mg : Str → Option Value) (base : Heap) (f : Addr) (fd : FuncData), All K mg → Fun K d.name d.name st f fd → FnOk P w K mg base CX0 k f fd [x]
      (fun vs H Q _ => ∃ (a : Addr) (ns : List Int), vs = [.ref a] ∧ SqL K H a (ns.map V.int) ∧ ns.length ≤ 63 ∧ ∀ H', Q (.bl true) H')) :
    PySem.W.WalkO q loose XP YP l.row.toRowW d [] (fun f vs => PySem.call f vs) :=
  L2.walk_of (n := 63) (k := k) (x := x) (CX := fun _ => CX0) (sp := fun w => fun vs H Q _ => ∃ (a : Addr) (ns : List Int), vs = [.ref a] ∧ SqL (K w.params) H a (ns.map V.int) ∧ ns.length ≤ 63 ∧ ∀ H', Q (.bl true) H') hn (by decide) hdf hr hY
    (fun w mg fa h KX G hmg => by
      have A := F w mg h KX G
      obtain ⟨f, fd, hm, Fn⟩ := (L _ _ A).ex
      have e : fa = f := by
        rw [hmg] at hm
        injection (Option.some.inj hm)
      subst e
      refine ⟨fd, fun s u => ?_, fun base _ _ => ok l.prog w _ mg base fa fd A Fn⟩
      obtain ⟨oc, od, kV, doc, pm, an, cdv, ct, osl, rfl, lk, hcd⟩ := Fn.ex
      exact .of_eq (hb kV doc pm an cdv ct u))
    (fun _ _ a ns hl _ hS => ⟨a, ns, rfl, hS, hl, fun _ => rfl⟩) fun _ _ _ _ _ z => z
end L2


set_option Elab.async false
set_option linter.all false
set_option maxRecDepth 100000
namespace L2
open PySem PySem.Spec PyProof.Rows

/-! ### a list comprehension of one clause -/
/-- the closure of a block -/
theorem closure_ok {env : Env} : ∀ (ns : List (Str × NameKind)) (cs : List (Str × Addr)), (∀ x ∈ ns, x.2 = .free → ∃ c, env.cells.lookup x.1 = some c) → (∀ x c, cs.lookup x = some c → env.cells.lookup x = some c) →
    ∃ cl, (forIn ns cs (fun x r => if (x.2 == NameKind.free) = true then do let a ← cellOf env x.1; pure (ForInStep.yield ((x.1, a) :: r)) else pure (ForInStep.yield r)) : Sem (List (Str × Addr))) = pure cl ∧
      (∀ x c, cl.lookup x = some c → env.cells.lookup x = some c) ∧ (∀ x c, cs.lookup x = some c → ∃ c', cl.lookup x = some c') ∧ ∀ x ∈ ns, x.2 = .free → ∃ c, cl.lookup x.1 = some c
  | [], cs, _, h2 => ⟨cs, rfl, h2, fun x c e => ⟨c, e⟩, fun _ h => nomatch h⟩
  | (n, k) :: r, cs, h1, h2 => by
    by_cases hk : k = .free
    · subst hk
      obtain ⟨c, hc⟩ := h1 (n, .free) (.head _) rfl
      have e1 : cellOf env n = pure c := by
        unfold cellOf
        rw [show env.cells.lookup n = some c from hc]
      obtain ⟨cl, a1, a2, a3, a4⟩ := closure_ok r ((n, c) :: cs) (fun x hx => h1 x (.tail _ hx)) (fun x d e => by
        rw [List.lookup_cons] at e
        cases z : x == n with
        | true =>
          rw [z] at e
          cases e
          rw [beq_iff_eq.mp z]; exact hc
        | false => rw [z] at e; exact h2 x d e)
      refine ⟨cl, ?_, a2, fun x d e => ?_, fun x hx hf => ?_⟩
      · rw [List.forIn_cons]
        show (do let r' ← (if (NameKind.free == NameKind.free) = true then do let a ← cellOf env n; pure (ForInStep.yield ((n, a) :: cs)) else pure (ForInStep.yield cs)); _) = _
        rw [if_pos (by rfl), e1]
        exact a1
      · by_cases z : x == n
        · exact a3 x c (by rw [List.lookup_cons, z])
        · exact a3 x d (by rw [List.lookup_cons, Bool.eq_false_iff.mpr z]; exact e)
      · rcases List.mem_cons.mp hx with rfl | hx
        · exact a3 n c (by rw [List.lookup_cons, beq_self_eq_true])
        · exact a4 x hx hf
    · obtain ⟨cl, a1, a2, a3, a4⟩ := closure_ok r cs (fun x hx => h1 x (.tail _ hx)) h2
      refine ⟨cl, ?_, a2, a3, fun x hx hf => ?_⟩
      · rw [List.forIn_cons]
        show (do let r' ← (if (k == NameKind.free) = true then do let a ← cellOf env n; pure (ForInStep.yield ((n, a) :: cs)) else pure (ForInStep.yield cs)); _) = _
        rw [if_neg (by simpa using hk)]
        exact a1
      · rcases List.mem_cons.mp hx with rfl | hx
        · exact absurd hf hk
        · exact a4 x hx hf
theorem closureFor_ok {env : Env} {scope : Scope} (h1 : ∀ x ∈ scope.names, x.2 = .free → ∃ c, env.cells.lookup x.1 = some c) :
    ∃ cl, closureFor scope env = pure cl ∧ (∀ x c, cl.lookup x = some c → env.cells.lookup x = some c) ∧ ∀ x ∈ scope.names, x.2 = .free → ∃ c, cl.lookup x.1 = some c := by
  obtain ⟨cl, a1, a2, _, a4⟩ := closure_ok (env := env) scope.names [] h1 (fun x c e => nomatch e)
  refine ⟨cl, ?_, a2, a4⟩
  unfold closureFor
  show (forIn scope.names ([] : List (Str × Addr)) (fun (x : Str × NameKind) r => match x with | (name, kind) => if (kind == NameKind.free) = true then do let a ← cellOf env name; pure (ForInStep.yield ((name, a) :: r)) else pure (ForInStep.yield r)) >>= fun r => (pure r : Sem (List (Str × Addr)))) = pure cl
  have ef : (fun (x : Str × NameKind) (r : List (Str × Addr)) => match x with | (name, kind) => (if (kind == NameKind.free) = true then do let a ← cellOf env name; pure (ForInStep.yield ((name, a) :: r)) else pure (ForInStep.yield r) : Sem (ForInStep (List (Str × Addr)))))
      = fun x r => if (x.2 == NameKind.free) = true then do let a ← cellOf env x.1; pure (ForInStep.yield ((x.1, a) :: r)) else pure (ForInStep.yield r) := by
    funext x r
    obtain ⟨n, k⟩ := x
    rfl
  rw [ef, a1]
  rfl

theorem lookup_relabel_free {env : Env} (hk : env.scope.kind = .function) {x : Str} (hx : env.kindOf x = some .cell) : ∀ {names : List (Str × NameKind)}, names.lookup x = some .free →
    (names.map fun (n, k) => if (k == NameKind.free && env.scope.kind == .function && env.kindOf n == some .cell) then (n, NameKind.cell) else (n, k)).lookup x = some .cell
  | [], h => nomatch h
  | (n, k) :: r, h => by
    have ih := @lookup_relabel_free env hk x hx r
    show List.lookup x ((if (k == NameKind.free && env.scope.kind == .function && env.kindOf n == some .cell) = true then (n, NameKind.cell) else (n, k)) :: _) = _
    cases z : x == n with
    | true =>
      simp only [List.lookup_cons, z] at h
      cases h
      have e := beq_iff_eq.mp z
      subst e
      rw [if_pos (by rw [hk, hx]; rfl), List.lookup_cons, z]
    | false =>
      simp only [List.lookup_cons, z] at h
      split <;> (simp only [List.lookup_cons, z]; exact ih h)

/-- the block's context -/
def compCx (X : Cx) (N : List Str) (scope : Scope) (cl : List (Str × Addr)) (s : Shared) (H : Hp) (fp : List Addr) (pins : List (Addr × Obj)) : Cx :=
  { prog := X.prog, w := X.w, K := X.K, mg := X.mg, base := X.base, A := X.A, N := N, s₀ := s, H₀ := H, env := compEnvC scope cl s.heap.objs.size X.env, outer := X.stack, stack := X.stack, ex := fp, fn := fun _ => false, calm := X.calm,
    pn := X.pn ++ pins, xe := fun _ _ => False }
/-- the names that stand outside: the block's slot, the place outside -/
def stC (js : List (Option Nat)) (σ : St) : St := js.map fun | none => none | some j => (σ[j]?).join
def chkC (X : Cx) (N : List Str) (js : List (Option Nat)) (scope : Scope) : Bool :=
  N.length == js.length && (N.zip js).all fun p => match p.2 with | none => true | some j => X.N[j]? == some p.1 && scope.names.lookup p.1 == some NameKind.free && X.env.kindOf p.1 == some NameKind.cell
def chkS (X : Cx) (scope : Scope) : Bool := scope.kind == .function && X.env.scope.kind == .function && scope.names.all fun x => match x.2 with
  | .free => X.env.kindOf x.1 == some NameKind.cell
  | .cell => false
  | .local => scope.names.lookup x.1 == some NameKind.local
  | _ => true

section
variable {X : Cx} {pins : List (Addr × Obj)} {σ : St} {H : Hp} {s : Shared}
theorem lookup_mem {α β : Type} [BEq α] [LawfulBEq α] : ∀ {l : List (α × β)} {x : α} {b : β}, l.lookup x = some b → (x, b) ∈ l
  | [], _, _, h => nomatch h
  | (n, k) :: r, x, b, h => by
    rw [List.lookup_cons] at h
    cases z : x == n with
    | true => rw [z] at h; cases h; rw [beq_iff_eq.mp z]; exact .head _
    | false => rw [z] at h; exact .tail _ (lookup_mem h)
theorem relabel_inv {env : Env} {x : Str} {k : NameKind} : ∀ {names : List (Str × NameKind)}, (names.map fun (n, k) => if (k == NameKind.free && env.scope.kind == .function && env.kindOf n == some .cell) then (n, NameKind.cell) else (n, k)).lookup x = some k →
    names.lookup x = some k ∨ (k = .cell ∧ names.lookup x = some .free)
  | [], h => nomatch h
  | (n, k') :: r, h => by
    have ih := @relabel_inv env x k r
    have h' : List.lookup x ((if (k' == NameKind.free && env.scope.kind == .function && env.kindOf n == some .cell) = true then (n, NameKind.cell) else (n, k')) :: (r.map fun (n, k) => if (k == NameKind.free && env.scope.kind == .function && env.kindOf n == some .cell) then (n, NameKind.cell) else (n, k))) = some k := h
    cases z : x == n with
    | true =>
      split at h'
      · rename_i hc
        simp only [List.lookup_cons, z] at h'
        cases h'
        rw [Bool.and_eq_true, Bool.and_eq_true] at hc
        have e : k' = .free := beq_iff_eq.mp hc.1.1
        subst e
        exact .inr ⟨rfl, by rw [List.lookup_cons, z]⟩
      · simp only [List.lookup_cons, z] at h'
        cases h'
        exact .inl (by rw [List.lookup_cons, z])
    | false =>
      rw [List.lookup_cons, z]
      refine ih ?_
      split at h'
      · simpa only [List.lookup_cons, z] using h'
      · simpa only [List.lookup_cons, z] using h'
/-- the block's entry -/
theorem Inv.comp {N : List Str} {js : List (Option Nat)} {scope : Scope} {cl : List (Str × Addr)} {fp : List Addr} {h' : Heap} {tk : Nat} (I : Inv X pins σ H s) (hN : chkC X N js scope = true) (hS : chkS X scope = true)
    (c1 : ∀ x c, cl.lookup x = some c → X.env.cells.lookup x = some c) (c2 : ∀ x ∈ scope.names, x.2 = .free → ∃ c, cl.lookup x.1 = some c) (hf : ∀ b ∈ fp, FpOk X pins H b) (hfl : ∀ b ∈ fp, b < s.heap.objs.size)
    (hn : h'.Ns s.heap.objs.size fun _ => none) (hk : ∀ b o, s.heap.get? b = some o → h'.get? b = some o) : Inv (compCx X N scope cl s H fp pins) [] (stC js σ) H { s with heap := h', toks := tk } := by
  unfold chkS at hS
  rw [Bool.and_eq_true, Bool.and_eq_true] at hS
  obtain ⟨⟨s1, s2⟩, s3⟩ := hS
  have hkind : scope.kind = .function := beq_iff_eq.mp s1
  have hkindX : X.env.scope.kind = .function := beq_iff_eq.mp s2
  unfold chkC at hN
  rw [Bool.and_eq_true] at hN
  obtain ⟨n1, n2⟩ := hN
  have hlen : N.length = js.length := beq_iff_eq.mp n1
  have inC : ∀ x k, (relabel scope X.env).names.lookup x = some k → scope.names.lookup x = some k ∨ (k = .cell ∧ scope.names.lookup x = some .free) := fun x k e => relabel_inv e
  have noCell : ∀ x, scope.names.lookup x ≠ some .cell := fun x e => by
    have := List.all_eq_true.mp s3 _ (lookup_mem e)
    exact Bool.false_ne_true this
  have fs_sub : ∀ b ∈ (compCx X N scope cl s H fp pins).fs, b ∈ X.env.locals :: X.fs := I.stkSub
  have ok : (compCx X N scope cl s H fp pins).Ok := {
    mod := I.ok.mod
    kind := hkind
    glob := I.ok.glob
    blt := I.ok.blt
    above := Nat.le_refl _
    inj := fun x y c e1 e2 => I.ok.inj x y c (c1 x c e1) (c1 y c e2)
    has := fun x hx => by
      have fr : scope.names.lookup x = some .free → ∃ c, cl.lookup x = some c := fun e => c2 (x, .free) (lookup_mem e) rfl
      rcases hx with e | e
      · rcases inC x _ e with e | ⟨_, e⟩
        · exact absurd e (noCell x)
        · exact fr e
      · rcases inC x _ e with e | ⟨z, _⟩
        · exact fr e
        · cases z
    cab := fun x c e => nomatch e
    hd := I.ok.hd
    frames := I.ok.frames
    stk := .inl rfl
    exf := fun b hb => ⟨Nat.ne_of_lt (hfl b hb), fun x c e => (hf b hb).2.2.2.2.1 x c (c1 x c e)⟩
    bs := I.bs
    bsz := Nat.le_trans I.ok.bsz I.sz
    noex := fun b o e hb => by
      rcases (hf b hb).2.2.2.1 with z | z
      · exact I.ok.noex b o e z
      · exact absurd (Nat.lt_of_lt_of_le (Heap.lt_size e) (Nat.le_trans I.ok.bsz z)) (Nat.lt_irrefl _)
    exfs := fun b hb z => by
      obtain ⟨_, q1, q2, _⟩ := hf b hb
      rcases List.mem_cons.mp (fs_sub b z) with e | e
      · exact q1 e
      · exact q2 e
    funs := I.stack
    frf := I.stkFree }
  refine ⟨ok, rfl, I.bare, Un.kept hk, ⟨_, hn, fun i x v e1 e2 e3 => ?_⟩, fun x c e => ?_, I.hok.fresh (Nat.le_refl _), fun x c e => I.freeC x c (c1 x c e), fun p hp => ?_, I.hok.kept hk, ?_⟩
  · have e2' : (js.map fun | none => none | some j => (σ[j]?).join)[i]? = some (some v) := e2
    rw [List.getElem?_map] at e2'
    cases hj : js[i]? with
    | none => rw [hj] at e2'; cases e2'
    | some o =>
      rw [hj] at e2'
      cases o with
      | none => cases e2'
      | some j =>
        have hz : (N.zip js)[i]? = some (x, some j) := by
          rw [List.getElem?_zip_eq_some]; exact ⟨e1, hj⟩
        have chk := List.all_eq_true.mp n2 _ (List.mem_of_getElem? hz)
        simp only [Bool.and_eq_true, beq_iff_eq] at chk
        obtain ⟨⟨h1, h2⟩, h3⟩ := chk
        have e3' : (σ[j]?).join = some v := by simpa using e2'
        have hσ : σ[j]? = some (some v) := by
          cases q : σ[j]? with
          | none => rw [q] at e3'; cases e3'
          | some o =>
            rw [q] at e3'
            have : o = some v := by simpa using e3'
            rw [this]
        obtain ⟨m, hm, hl⟩ := I.loc
        obtain ⟨u, r, l⟩ := hl j x v h1 hσ (.inr (.inl h3))
        refine ⟨u, r, ?_⟩
        rcases l with ⟨k, _⟩ | ⟨_, c, hc, hcell⟩
        · rw [h3] at k; cases k
        · obtain ⟨c', hc'⟩ := c2 (x, .free) (lookup_mem h2) rfl
          have := c1 x c' hc'
          rw [hc] at this; cases this
          refine .inr ⟨.inl (lookup_relabel_free hkindX h3 h2), c, hc', ?_⟩
          obtain ⟨ob, ho, hd⟩ := hcell
          exact ⟨ob, hk _ _ ho, hd⟩
  · obtain ⟨v, ob, ho, hd⟩ := I.cell x c (c1 x c e)
    exact ⟨v, ob, hk _ _ ho, hd⟩
  · have hp' : p ∈ X.pn ++ pins := by simpa [compCx] using hp
    obtain ⟨a1, a2, a3, a4, a5⟩ := I.pin p hp'
    refine ⟨hk _ _ a1, a2, Nat.ne_of_lt (Heap.lt_size a1), fun z => ?_, a5⟩
    rcases List.mem_cons.mp (fs_sub p.1 z) with e | e
    · exact a3 e
    · exact a4 e
  · show (js.map _).length = N.length
    rw [List.length_map, hlen]
end

/-- the loop of a block, whatever its target -/
theorem compLoop_gen {prog : Program} {w : World} {A : Around} {R : Result → Shared → Prop} {s : Shared} {elt target iter : Expr} {ifs : List Expr} {scope : Scope} {pos : Pos} {it acc : Value} {env : Env} (I : Nat → Shared → Prop)
    (turn : ∀ n s, I n s → wpAny (model prog w) A (pyNext it) (fun r s₁ => match r with
      | none => R (.ok .next) s₁
      | some v => wpAny (model prog w) A (letOwnedTupleGo target it v) (fun _ s₁ => wpAny (model prog w) A (assign target env v) (fun _ s₂ =>
          wpAny (model prog w) A (forIn ifs true fun c r => if r = true then do let ok ← isTrue c env (eval c env); pure (ForInStep.yield ok) else pure (ForInStep.yield r)) (fun ok s₃ =>
            if ok = true then wpAny (model prog w) A (eval elt env) (fun x s₄ =>
              wpAny (model prog w) A (call (.builtin "list.append") [acc, x]) (fun _ s₅ => ∃ m, m < n ∧ I m s₅) (fun _ _ => False) s₄) (fun _ _ => False) s₃
            else ∃ m, m < n ∧ I m s₃) (fun _ _ => False) s₂) (fun _ _ => False) s₁) (fun _ _ => False) s₁) (fun _ _ => False) s)
    (n : Nat) (h : I n s) : codeAny (model prog w) A (.compLoop (.ListComp elt [⟨target, iter, ifs, 0⟩] scope pos) 0 it acc env) R s := by
  refine codeAny_loop rfl I (fun n s hI => ?_) n h
  show wpAny _ A ((compTurn (.ListComp elt [⟨target, iter, ifs, 0⟩] scope pos) 0 it acc env).onRaise (fun x => do noteFrame x env; theTreesLotGoes x)) _ _ s
  refine wpAny_noted ?_
  rw [compTurn_list]
  refine wpAny_bind (wpAny_standAt (wpAny_bind (wpAny_mono (turn n s hI) (fun r s₁ h₁ => ?_) fun _ _ h' => h'.elim)))
  cases r with
  | none => exact wpAny_pure h₁
  | some v =>
    refine wpAny_bind (wpAny_mono h₁ (fun _ s₁' h₁ => ?_) fun _ _ h' => h'.elim)
    refine wpAny_bind (wpAny_mono h₁ (fun _ s₂ h₂ => wpAny_bind (wpAny_mono h₂ (fun ok s₃ h₃ => ?_) fun _ _ h' => h'.elim)) fun _ _ h' => h'.elim)
    cases ok with
    | false => exact wpAny_pure ⟨rfl, h₃⟩
    | true =>
      exact wpAny_bind (wpAny_bind (wpAny_mono h₃ (fun x s₄ h₄ => wpAny_bind (wpAny_mono h₄ (fun _ s₅ h₅ => wpAny_pure (wpAny_pure ⟨rfl, h₅⟩)) fun _ _ h' => h'.elim)) fun _ _ h' => h'.elim))

/-- a block's tests -/
def PTs (X : Cx) (ifs : List Expr) (t : TT) : Prop :=
  ∀ (pins : List (Addr × Obj)) (s : Shared) (σ : St) (H : Hp) (Q : Bool → Hp → Prop), Inv X pins σ H s → t σ H Q →
    wpAny (model X.prog X.w) X.A (forIn ifs true fun c r => if r = true then do let ok ← isTrue c X.env (eval c X.env); pure (ForInStep.yield ok) else pure (ForInStep.yield r)) (TP X pins σ Q) X.xe s
def tYes : TT := fun _ H Q => Q true H
theorem pts_nil {X : Cx} : PTs X [] tYes := fun _ _ _ H _ I h => wpAny_tests_nil ⟨H, I, h⟩
def CompW (J : It) (g : TG) (tt : TT) (te : TE) (Q : VK) (D : Addr) (σ : St) (H : Hp) : Prop := ∃ W : Nat → Nat → St → Hp → Prop, (∃ m, W 0 m σ H) ∧ ∀ i m σ' H', W i m σ' H' →
  (J.stop i H' ∧ Q (.ref D) H') ∨ (J.go i H' ∧ ∀ x H2, J.yld i H' x H2 → g x σ' H2 fun σ3 H3 => tt σ3 H3 fun ok H4 => if ok = true then
    te σ3 H4 fun y H5 => ∃ ys, H5 D = some (.lst ys) ∧ ys.length < sizeLine ∧ ∃ m', m' < m ∧ W (i + 1) m' σ3 (upd H5 D (.lst (ys ++ [y])))
    else ∃ m', m' < m ∧ W (i + 1) m' σ3 H4)
def tComp (js : List (Option Nat)) (wi : TI) (g : TG) (tt : TT) (te : TE) : TE := fun σ H Q => wi σ H fun J H1 => ∀ D H2, Nw H1 H2 D (.lst []) → CompW J g tt te Q D (stC js σ) H2

theorem HOk.but {P : Program} {w : World} {H : Hp} {h h' : Heap} {C : Addr} (ok : HOk P w H h) (hn : H C = none) (hs : Heap.SameBut C h h') : HOk P w H h' := fun b ob e => by
  refine (ok b ob e).stay (fun c w' hc q => (hs.2 c ?_).trans q) (fun _ q => q) fun _ _ q => q
  rintro rfl
  rcases hc with rfl | hc
  · rw [hn] at e; cases e
  · rw [hn] at hc; cases hc

set_option maxHeartbeats 1000000 in
theorem pe_comp {X : Cx} {N : List Str} {js : List (Option Nat)} {elt tg iter : Expr} {ifs : List Expr} {scope : Scope} {pos : Pos} {wi : TI} {g : TG} {tt : TT} {te : TE} (hc : X.calm = true) (hN : chkC X N js scope = true) (hS : chkS X scope = true)
    (hi : PI X tg iter wi) (hg : ∀ cl s H fp pins, PG (compCx X N scope cl s H fp pins) tg g) (ht : ∀ cl s H fp pins, PTs (compCx X N scope cl s H fp pins) ifs tt) (he : ∀ cl s H fp pins, PE (compCx X N scope cl s H fp pins) elt te)
    (hs : ∀ x, foldedSetIterable iter X.env x = pure x := by intro _; rfl) : PE X (.ListComp elt [⟨tg, iter, ifs, 0⟩] scope pos) (tComp js wi g tt te) := by
  intro pins s σ H Q I h
  have hS' := hS
  unfold chkS at hS'
  rw [Bool.and_eq_true, Bool.and_eq_true] at hS'
  obtain ⟨⟨k1, k2⟩, k3⟩ := hS'
  have hkind : scope.kind = .function := beq_iff_eq.mp k1
  have hfree : ∀ x ∈ scope.names, x.2 = .free → ∃ c, X.env.cells.lookup x.1 = some c := fun x hx e => by
    have := List.all_eq_true.mp k3 x hx
    rw [e] at this
    exact I.ok.has x.1 (.inl (beq_iff_eq.mp this))
  have hcell : ∀ x ∈ scope.names, x.2 ≠ .cell := fun x hx e => by
    have := List.all_eq_true.mp k3 x hx
    rw [e] at this
    exact Bool.false_ne_true this
  have hnames : ∀ x ∈ scope.names, x.2 = .local → scope.names.lookup x.1 = some .local := fun x hx e => by
    have := List.all_eq_true.mp k3 x hx
    rw [e] at this
    exact beq_iff_eq.mp this
  obtain ⟨cl, hclos, c1, c2⟩ := closureFor_ok hfree
  rw [eval_ListComp]
  refine wpAny_comprehension_free (use := none) rfl hs hclos hkind hnames (thn (hi pins s σ H _ I h) fun v s1 h1 => thn h1 fun itv s2 h2 => ?_)
  obtain ⟨it, fp, tn, J, H2, e, I2, T, st2, f2, h2⟩ := h2
  subst e
  have hD : H2 s2.heap.objs.size = none := I2.hok.fresh (Nat.le_refl _)
  obtain ⟨W, ⟨m0, w0⟩, turn⟩ := h2 _ _ (Nw.of hD)
  refine wpAny_newObj_type (wpAny_newFunctionEnv hcell (by intro y hy; simp at hy) (fun h₁ hns₁ hsb₁ => ?_) hkind)
  have fpl : ∀ b ∈ fp, b < s2.heap.objs.size := fun b hb => by
    obtain ⟨o, e, _⟩ := T.obj _ _ st2 b hb
    exact Heap.lt_size e
  have I3 : Inv X pins σ (upd H2 s2.heap.objs.size (.lst [])) { s2 with heap := s2.heap.push { cls := .type "list", dict := none, data := .seq ([] : List Value).toArray } } := I2.lnew (its := []) (t' := s2.toks) .nil (Nat.zero_le _)
  generalize hH3 : s2.heap.push { cls := .type "list", dict := none, data := .seq ([] : List Value).toArray } = h3 at I3 hns₁ hsb₁
  have sz3 : h3.objs.size = s2.heap.objs.size + 1 := by rw [← hH3, Heap.size_push]
  have keep23 : ∀ b o, s2.heap.get? b = some o → h3.get? b = some o := fun b o e => by rw [← hH3]; exact Heap.get?_push_of_some _ e
  have f3 : ∀ b ∈ fp, FpOk X pins (upd H2 s2.heap.objs.size (.lst [])) b := fun b hb => ⟨by rw [upd_ne (Nat.ne_of_lt (fpl b hb))]; exact (f2 b hb).1, (f2 b hb).2⟩
  have keep31 : ∀ b o, h3.get? b = some o → h₁.get? b = some o := fun b o e => (hsb₁.2 b (Nat.ne_of_lt (Heap.lt_size e))).trans (Heap.get?_push_of_some _ e)
  have I4 : Inv (compCx X N scope cl { s2 with heap := h3 } (upd H2 s2.heap.objs.size (.lst [])) fp pins) [] (stC js σ) (upd H2 s2.heap.objs.size (.lst [])) { s2 with heap := h₁, toks := s2.toks + ([] : List (Str × Value)).length } :=
    I3.comp (s := { s2 with heap := h3 }) hN hS c1 c2 f3 (fun b hb => by show b < h3.objs.size; rw [sz3]; exact Nat.lt_succ_of_lt (fpl b hb)) (by simpa using hns₁) keep31
  have st4 : tn 0 h₁ := T.keep _ _ _ st2 fun b _ o e => keep31 b o (keep23 b o e)
  -- the loop
  have loop : codeAny (model X.prog X.w) X.A (.compLoop (.ListComp elt [⟨tg, iter, ifs, 0⟩] scope pos) 0 (.ref it) (.ref s2.heap.objs.size) (compEnvC scope cl h3.objs.size X.env))
      (compPost (model X.prog X.w) X.A X.xe none (EP X pins σ Q) (.ref s2.heap.objs.size) h3.objs.size) { s2 with heap := h₁, toks := s2.toks + ([] : List (Str × Value)).length } := by
    refine compLoop_gen (fun n s' => ∃ i σ' H', Inv (compCx X N scope cl { s2 with heap := h3 } (upd H2 s2.heap.objs.size (.lst [])) fp pins) [] σ' H' s' ∧ tn i s'.heap ∧ (∀ b ∈ fp, H' b = none) ∧ W i n σ' H') ?_ m0
      ⟨0, _, _, I4, st4, fun b hb => (f3 b hb).1, w0⟩
    rintro n s5 ⟨i, σ5, H5, I5, st5, fr5, w5⟩
    have stat : ∀ {H' : Hp}, (∀ b ∈ fp, H' b = none) → ∀ b ∈ fp, FpOk (compCx X N scope cl { s2 with heap := h3 } (upd H2 s2.heap.objs.size (.lst [])) fp pins) [] H' b := fun {H'} hn b hb => by
      obtain ⟨_, q1, q2, q3, q4, q5⟩ := f3 b hb
      refine ⟨hn b hb, fun z => ?_, I4.ok.exfs b hb, .inl hb, fun x c e => q4 x c (c1 x c e), fun p hp => q5 p (by simpa [compCx] using hp)⟩
      have hlt : b < h3.objs.size := by rw [sz3]; exact Nat.lt_succ_of_lt (fpl b hb)
      exact Nat.ne_of_lt hlt z
    rcases turn i n σ5 H5 w5 with ⟨stop, qn⟩ | ⟨go, step⟩
    · refine thn (T.done (compCx X N scope cl { s2 with heap := h3 } (upd H2 s2.heap.objs.size (.lst [])) fp pins) rfl rfl rfl hc i [] s5 σ5 H5 _ I5 (stat fr5) st5 stop) fun r s6 ⟨hr, I6⟩ => ?_
      subst hr
      obtain ⟨m, hm, _⟩ := I6.loc
      refine ⟨m, hm, fun h7 hs7 => ?_⟩
      have u0 : Un (frs X.stack) fp (upd H2 s2.heap.objs.size (.lst [])) H5 h3 s6.heap := I6.base
      have ne : ∀ b o, h3.get? b = some o → b ≠ h3.objs.size := fun b o e => Nat.ne_of_lt (Heap.lt_size e)
      have u : Un (frs X.stack) fp (upd H2 s2.heap.objs.size (.lst [])) H5 h3 h7 := ⟨fun b o e n hb hx => (hs7.2 b (ne b o e)).trans (u0.keep b o e n hb hx),
        fun b o e n hb hx => let ⟨sl, q⟩ := u0.slot b o e n hb hx; ⟨sl, (hs7.2 b (ne b o e)).trans q⟩, u0.free, fun b o e hx => let ⟨o', q⟩ := u0.there b o e hx; ⟨o', (hs7.2 b (ne b o e)).trans q⟩, u0.tups, u0.frzs, u0.tbls⟩
      have I7 : Inv X pins σ H5 { s6 with heap := h7 } := I3.call' (s' := { s6 with heap := h7 }) (ch := fp) I6.os u (I6.hok.but I6.free hs7) I6.bare fun b hb => ⟨(f3 b hb).2.2.2.1, (f3 b hb).2.1, (f3 b hb).2.2.2.2.1, (f3 b hb).2.2.2.2.2⟩
      exact ⟨.ref s2.heap.objs.size, H5, I7, rfl, qn⟩
    · refine thn (T.item (compCx X N scope cl { s2 with heap := h3 } (upd H2 s2.heap.objs.size (.lst [])) fp pins) rfl rfl rfl hc i [] s5 σ5 H5 _ I5 (stat fr5) st5 go) fun r s6 ⟨u, hr, h6⟩ => ?_
      subst hr
      refine thn h6 fun _ s7 ⟨x, H7, I7, r7, y7, st7, fr7⟩ => ?_
      have I7' := I7.pinned (stat fr7) (T.obj _ _ st7)
      refine thn (hg _ _ _ _ _ _ s7 σ5 H7 x u _ I7' r7 (step x H7 y7)) fun _ s8 ⟨σ8, H8, I8, q8⟩ => ?_
      refine thn (ht _ _ _ _ _ _ s8 σ8 H8 _ I8 q8) fun ok s9 ⟨H9, I9, q9⟩ => ?_
      have again : ∀ {s' : Shared} {σ7 : St} {H7 : Hp}, Inv (compCx X N scope cl { s2 with heap := h3 } (upd H2 s2.heap.objs.size (.lst [])) fp pins) ([] ++ pinsAt fp s7.heap) σ7 H7 s' → (∃ m', m' < n ∧ W (i + 1) m' σ7 H7) →
          ∃ m, m < n ∧ ∃ i σ' H', Inv (compCx X N scope cl { s2 with heap := h3 } (upd H2 s2.heap.objs.size (.lst [])) fp pins) [] σ' H' s' ∧ tn i s'.heap ∧ (∀ b ∈ fp, H' b = none) ∧ W i m σ' H' := fun {s' σ7 H7} J7 n7 => by
        obtain ⟨m', hm, w7⟩ := n7
        refine ⟨m', hm, i + 1, σ7, H7, J7.unpinned, T.keep _ _ _ st7 fun b hb o e => (J7.pin (b, o) (List.mem_append_right _ (List.mem_append_right _ (mem_pinsAt hb e)))).1, fun b hb => ?_, w7⟩
        obtain ⟨o, e, d⟩ := T.obj _ _ st7 b hb
        exact (J7.pin (b, o) (List.mem_append_right _ (List.mem_append_right _ (mem_pinsAt hb e)))).2.1
      cases ok with
      | false =>
        rw [if_neg Bool.false_ne_true] at q9 ⊢
        exact again I9 q9
      | true =>
        rw [if_pos rfl] at q9 ⊢
        refine thn (he _ _ _ _ _ _ s9 σ8 H9 _ I9 q9) fun yv s10 ⟨y, H10, I10, r10, ys, hys, hz, w10⟩ => ?_
        refine thn (mt_append _ s10 σ8 H10 (.ref s2.heap.objs.size) [y] (.ref s2.heap.objs.size) [yv] (fun _ H11 => ∃ m', m' < n ∧ W (i + 1) m' σ8 H11) I10 rfl (.cons r10 .nil) ⟨_, ys, y, rfl, rfl, hys, hz, w10⟩) fun _ s11 ⟨v11, H11, I11, r11, q11⟩ => ?_
        exact again I11 q11
  exact codeAny_compStart_list loop (T.self _ 0 _ _ _ st4 loop)
end L2


set_option Elab.async false
set_option linter.all false
set_option maxRecDepth 100000
namespace L2
open PySem PySem.Spec PyProof.Rows
theorem bools_are : ∀ {bs : List Bool} {us : List Value}, Vals (bs.map V.bl) us → us = bs.map Value.bool
  | [], _, .nil => rfl
  | b :: r, _, .cons q t => by
    cases (show _ = Value.bool b from q)
    rw [bools_are t]; rfl
section
variable {X : Cx}
theorem call_all_list (hc : X.calm = true) : CallR X (.builtin "all") (fun xs H Q => ∃ (l : Addr) (bs : List Bool), xs = [.ref l] ∧ SqL X.K H l (bs.map V.bl) ∧ Q (.bl (bs.all id)) H) := by
  intro pins s σ H xs us Q I r h
  obtain ⟨l, bs, rfl, hl, q⟩ := h
  obtain ⟨u, rfl, ru⟩ := vals1 r
  cases (show u = Value.ref l from ru)
  obtain ⟨its, rv, pl, hz⟩ := I.list hl
  have e := bools_are rv
  subst e
  have hl' := pl.isList
  have hlt : l < s.heap.objs.size := by obtain ⟨_, e, _⟩ := hl'; exact Heap.lt_size e
  have hh := I.ok.hd hc
  refine call_all_walk (wpAny_pyIter_list hl' ?_)
  refine ⟨s.heap.objs.size, [s.heap.objs.size, l], [s.heap.objs.size], (bs.map Value.bool).toArray.size, _, _, fun i => (bs[i]?).getD true, rfl, Walks.list (A := X.A.in1) hh _ l (Nat.ne_of_lt hlt) (bs.map Value.bool).toArray,
    ⟨⟨_, Heap.get?_push_size _ rfl, rfl, rfl⟩, hl'.push _⟩, fun i v s' Q' E' hP hQ => ?_, fun h' tk hk => ?_⟩
  · have hP' : (bs.map Value.bool)[i]? = some v := by simpa using hP
    rw [List.getElem?_map] at hP'
    cases e : bs[i]? with
    | none => rw [e] at hP'; cases hP'
    | some b =>
      rw [e] at hP'
      cases hP'
      simp only [e, Option.getD_some] at hQ
      exact wpAny_truthy_bool hQ
  · have e : ((List.range (bs.map Value.bool).toArray.size).all fun i => (bs[i]?).getD true) = bs.all id := by
      rw [List.size_toArray, List.length_map]; exact LSm.range_all bs
    rw [e]
    exact ⟨.bl _, H, I.kept (LSm.kept_iter hk), rfl, q⟩
end
/-! ### forms of a comprehension that one uses -/
/-- by hand: the measure is the rest of n turns; go or stop is shown by the word -/
theorem comp_by {J : It} {g : TG} {tt : TT} {te : TE} {Q : VK} {D : Addr} {σ : St} {H : Hp} (n : Nat) (Pv : Nat → St → Hp → Prop) (h0 : Pv 0 σ H)
    (hs : ∀ i σ H, i < n → Pv i σ H → J.go i H ∧ ∀ x H2, J.yld i H x H2 → g x σ H2 fun σ3 H3 => tt σ3 H3 fun ok H4 => if ok = true then te σ3 H4 fun y H5 => ∃ ys, H5 D = some (.lst ys) ∧ ys.length < sizeLine ∧ ∃ m', m' < n - i ∧ m' = n - (i + 1) ∧ i + 1 ≤ n ∧ Pv (i + 1) σ3 (upd H5 D (.lst (ys ++ [y])))
      else ∃ m', m' < n - i ∧ m' = n - (i + 1) ∧ i + 1 ≤ n ∧ Pv (i + 1) σ3 H4)
    (hd : ∀ σ H, Pv n σ H → J.stop n H ∧ Q (.ref D) H) :
    CompW J g tt te Q D σ H := by
  refine ⟨fun i m σ H => m = n - i ∧ i ≤ n ∧ Pv i σ H, ⟨n, by simp, Nat.zero_le _, h0⟩, ?_⟩
  rintro i m σ H ⟨rfl, hi, p⟩
  by_cases hlt : i < n
  · exact .inr (hs i σ H hlt p)
  · have e : i = n := by omega
    subst e
    exact .inl (hd σ H p)
end L2
namespace L2
open PySem PySem.Spec PyProof.Rows
/-! ### the same rules, over K by its name -/
section
variable {X : Cx} {tg : Expr}
theorem ixK (K : PySem.W.Frag) (h : X.K = K) : IxR X (fun x y H Q => rIxL K x y H Q ∨ rIxT K x y H Q) := by subst h; exact ix_list.or ix_tup
def rSlA (K : PySem.W.Frag) : V → Option Int → Option Int → Hp → VK → Prop := fun x lo hi H Q => ∃ a xs, x = .ref a ∧ ((SqL K H a xs ∧ ∀ p H', Nw H H' p (.lst (cutV xs lo hi)) → Q (.ref p) H') ∨
  (SqT K H a xs ∧ ¬ (HT.sIx xs.length 0 lo = 0 ∧ HT.sIx xs.length xs.length hi = xs.length) ∧ ∀ p H', Nw H H' p (.tup (cutV xs lo hi)) → Q (.ref p) H'))
theorem slK (K : PySem.W.Frag) (h : X.K = K) : SlR X (rSlA K) := by
  subst h
  intro pins s σ H x v vl vu lo hi sl Q I rx hs pl pu hq
  obtain ⟨a, xs, e, hq⟩ := hq
  rcases hq with ⟨h1, k⟩ | ⟨h1, h2, k⟩
  · exact sl_list pins s σ H x v vl vu lo hi sl Q I rx hs pl pu ⟨a, xs, e, h1, fun p hp => k p _ (.of hp)⟩
  · exact sl_tup pins s σ H x v vl vu lo hi sl Q I rx hs pl pu ⟨a, xs, e, h1, h2, fun p hp => k p _ (.of hp)⟩
theorem lenK (K : PySem.W.Frag) (h : X.K = K) : CallR X (.builtin "len") (fun xs H Q => ∃ p ys, xs = [.ref p] ∧ (SqL K H p ys ∨ SqT K H p ys) ∧ Q (.int ys.length) H) := by subst h; exact call_len_seq
theorem isiK (K : PySem.W.Frag) (h : X.K = K) : CallR X (.builtin "isinstance") (fun xs H Q => rIsi K xs H Q ∨ rIsiT K xs H Q) := by subst h; exact call_isi.or call_isiT
theorem eqK (K : PySem.W.Frag) (h : X.K = K) (hu : X.A.units + 64 < cLine) : OpR X (compareOp .Eq) (fun x y H Q => rI0 (fun i j => .bl (decide (i = j))) x y H Q ∨ rEqD K x y H Q) := by subst h; exact op_eqA hu
theorem neK (K : PySem.W.Frag) (h : X.K = K) (hu : X.A.units + 64 < cLine) : OpR X (compareOp .NotEq) (fun x y H Q => rI0 (fun i j => .bl (!decide (i = j))) x y H Q ∨ rNeD K x y H Q) := by subst h; exact op_neA hu
theorem allK (K : PySem.W.Frag) (h : X.K = K) (hc : X.calm = true) : CallR X (.builtin "all") (fun xs H Q => ∃ (l : Addr) (bs : List Bool), xs = [.ref l] ∧ SqL K H l (bs.map V.bl) ∧ Q (.bl (bs.all id)) H) := by subst h; exact call_all_list hc
theorem listK (K : PySem.W.Frag) (h : X.K = K) : CallR X (.type "list") (fun xs H Q => ∃ p ys, xs = [.ref p] ∧ (SqL K H p ys ∨ SqT K H p ys) ∧ ∀ l H', Nw H H' l (.lst ys) → Q (.ref l) H') := by
  subst h
  intro pins s σ H xs us Q I r hq
  obtain ⟨p, ys, e, h1, k⟩ := hq
  exact call_list_of pins s σ H xs us Q I r ⟨p, ys, e, h1, fun l hl => k l _ (.of hl)⟩
theorem tupleK (K : PySem.W.Frag) (h : X.K = K) : CallR X (.type "tuple") (fun xs H Q => ∃ p ys, xs = [.ref p] ∧ ((SqL K H p ys ∧ ∀ l H', Nw H H' l (.tup ys) → Q (.ref l) H') ∨ (SqT K H p ys ∧ Q (.ref p) H))) := by
  subst h
  intro pins s σ H xs us Q I r hq
  obtain ⟨p, ys, e, h1⟩ := hq
  exact call_tuple_of pins s σ H xs us Q I r ⟨p, ys, e, h1.imp (fun ⟨a, k⟩ => ⟨a, fun l hl => k l _ (.of hl)⟩) id⟩
def tTupA (t : TA) : TE := fun σ H Q => t σ H fun xs H1 => xs.length ≤ sizeLine ∧ ∀ p H', Nw H1 H' p (.tup xs) → Q (.ref p) H'
def tLstA (t : TA) : TE := fun σ H Q => t σ H fun xs H1 => xs.length ≤ sizeLine ∧ ∀ p H', Nw H1 H' p (.lst xs) → Q (.ref p) H'
theorem pe_tupA {es : List Expr} {t : TA} {pos : Pos} {x1} (h : PA X es t) : PE X (.Tuple es x1 pos) (tTupA t) := by
  intro pins s σ H Q I hq
  refine wpAny_Tuple_spliced (thn (h pos pins s σ H _ I hq) fun us s1 ⟨xs, H1, I1, r, z, q⟩ => ⟨by rw [← r.length]; exact z, ?_⟩)
  have hf : H1 s1.heap.objs.size = none := I1.hok.fresh (Nat.le_refl _)
  refine ⟨.ref s1.heap.objs.size, upd H1 s1.heap.objs.size (.tup xs), I1.laid (t' := s1.toks) (fun b u e => Heap.get?_push_of_some _ e) (Nat.le_refl _) ?_, rfl, q _ _ (.of hf)⟩
  exact ⟨z, us, r, ⟨_, Heap.get?_push_size _ rfl, rfl, _, rfl⟩⟩
theorem pe_lstA {es : List Expr} {t : TA} {pos : Pos} (h : PA X es t) : PE X (.List es pos) (tLstA t) := by
  intro pins s σ H Q I hq
  refine wpAny_List_spliced (thn (h pos pins s σ H _ I hq) fun us s1 ⟨xs, H1, I1, r, z, q⟩ => ⟨by rw [← r.length]; exact z, ?_⟩)
  have hf : H1 s1.heap.objs.size = none := I1.hok.fresh (Nat.le_refl _)
  refine ⟨.ref s1.heap.objs.size, upd H1 s1.heap.objs.size (.lst xs), I1.laid (t' := s1.toks) (fun b u e => Heap.get?_push_of_some _ e) (Nat.le_refl _) ?_, rfl, q _ _ (.of hf)⟩
  exact ⟨z, us, 0, r, Heap.get?_push_size _ rfl⟩
theorem piL (K : PySem.W.Frag) (h : X.K = K) {l : Expr} {tl : TE} (hl : PE X l tl) : PI X tg l (iList K tl) := by subst h; exact pi_list hl
theorem piT (K : PySem.W.Frag) (h : X.K = K) {l : Expr} {tl : TE} (hl : PE X l tl) : PI X tg l (iTup K tl) := by subst h; exact pi_tup hl
theorem pgT (K : PySem.W.Frag) (h : X.K = K) {es : List Expr} {k : Nat} {t : TGs} {n : Nat} {pos : Pos} (hc : X.calm = true) (hg : PGs X es t) (hn : (assignEach es X.env).length = n := by rfl) (hst : (assignEach es X.env).findIdx? (·.1) = none := by rfl) :
    PG X (.Tuple es k pos) (gTup K n t) := by subst h; exact pg_tup hc hg hn hst
theorem peApp (K : PySem.W.Frag) (h : X.K = K) {o e : Expr} {to : TE} {t : TA} {apos cpos : Pos} (ho : PE X o to) (ha : PA X [e] t)
    (hbase : attributeBase o "append" X.env (eval o X.env) = eval o X.env := by rfl)
    (hfew : ((backTo cpos (starEach [e] X.env)).all (fun x => !x.1) && (backToKw cpos (keywordEach [] X.env)).all (fun x => x.1.isSome)
      && decide ([e].length + ([] : List Keyword).length + (if ([] : List Keyword).isEmpty then 0 else 1) < 30)) = true := by rfl)
    (hline : (apos.endLine == cpos.line) = true := by rfl) (hs : starEach [e] X.env = (false, eval e X.env) :: starEach [] X.env := by rfl) (hplain : (backTo cpos (starEach [] X.env)).any (·.1) = false := by rfl) :
    PE X (.Call (.Attribute o "append" apos) [e] [] cpos) (tBM K "list" rAppend to t) := by subst h; exact pe_bm PySem.F.plainAttrs_list PySem.F.slot_list_append PySem.F.type_list_append mt_append ho ha hbase hfew hline hs hplain
theorem yesN {j : Nat} {x : V} {σ : St} {H : Hp} {A B : St → Hp → Prop} (h : A (σ.set j (some x)) H) : gName j x σ H fun σ3 H3 => tYes σ3 H3 fun ok H4 => if ok = true then A σ3 H4 else B σ3 H4 := by
  show if true = true then A (σ.set j (some x)) H else B (σ.set j (some x)) H
  rw [if_pos rfl]; exact h
theorem yes {σ : St} {H : Hp} {Q : Bool → Hp → Prop} (h : Q true H) : tYes σ H Q := h
end
end L2


set_option Elab.async false
set_option linter.all false
set_option maxRecDepth 100000
namespace L2
open PySem PySem.Spec PyProof.Rows

/-! ### data goes on -/
theorem SqL.go {K : PySem.W.Frag} {H H' : Hp} {a : Addr} {xs : List V} (s : Same H H') (h : SqL K H a xs) : SqL K H' a xs := h.imp (fun r => r.imp (s _ _) fun ⟨o, e⟩ => ⟨o, s _ _ e⟩) id
theorem SqT.go {K : PySem.W.Frag} {H H' : Hp} {a : Addr} {xs : List V} (s : Same H H') (h : SqT K H a xs) : SqT K H' a xs := h.imp (fun r => r.imp (s _ _) fun ⟨o, e⟩ => ⟨o, s _ _ e⟩) id
mutual
theorem RD.mono {K : PySem.W.Frag} {H H' : Hp} (s : Same H H') : ∀ {x : V} (d : PyData), RD K H x d → RD K H' x d
  | x, .none, h => by simpa [RD] using h
  | x, .bool b, h => by simpa [RD] using h
  | x, .int i, h => by simpa [RD] using h
  | x, .str y, h => by simpa [RD] using h
  | x, .list ds, h => by
    rw [RD] at h ⊢
    obtain ⟨a, xs, e, h1, h2⟩ := h
    exact ⟨a, xs, e, h1.go s, RDs.mono s ds h2⟩
  | x, .tuple ds, h => by
    rw [RD] at h ⊢
    obtain ⟨a, xs, e, h1, h2⟩ := h
    exact ⟨a, xs, e, h1.go s, RDs.mono s ds h2⟩
  | x, .dict _, h => by simp [RD] at h
theorem RDs.mono {K : PySem.W.Frag} {H H' : Hp} (s : Same H H') : ∀ {xs : List V} (ds : List PyData), RDs K H xs ds → RDs K H' xs ds
  | xs, [], h => by simpa [RDs] using h
  | xs, d :: ds, h => by
    rw [RDs] at h ⊢
    obtain ⟨y, ys, e, h1, h2⟩ := h
    exact ⟨y, ys, e, RD.mono s d h1, RDs.mono s ds h2⟩
end
section
variable {K : PySem.W.Frag} {H H' : Hp}
theorem RDs.nil_inv {xs : List V} (h : RDs K H xs []) : xs = [] := by simpa [RDs] using h
theorem RDs.cons_inv {xs : List V} {d : PyData} {ds : List PyData} (h : RDs K H xs (d :: ds)) : ∃ y ys, xs = y :: ys ∧ RD K H y d ∧ RDs K H ys ds := by rw [RDs] at h; exact h
theorem RD.tup_inv {x : V} {ds : List PyData} (h : RD K H x (.tuple ds)) : ∃ a xs, x = .ref a ∧ SqT K H a xs ∧ RDs K H xs ds := by rw [RD] at h; exact h
theorem RD.lst_inv {x : V} {ds : List PyData} (h : RD K H x (.list ds)) : ∃ a xs, x = .ref a ∧ SqL K H a xs ∧ RDs K H xs ds := by rw [RD] at h; exact h
theorem RD.int_inv {x : V} {i : Int} (h : RD K H x (.int i)) : x = .int i := by rw [RD] at h; exact h
theorem RD.bl_inv {x : V} {i : Bool} (h : RD K H x (.bool i)) : x = .bl i := by rw [RD] at h; exact h
theorem RD.str_inv {x : V} {i : Str} (h : RD K H x (.str i)) : x = .str i := by rw [RD] at h; exact h
theorem RD.non_inv {x : V} (h : RD K H x .none) : x = .non := by rw [RD] at h; exact h
theorem RDs.length : ∀ {xs : List V} {ds : List PyData}, RDs K H xs ds → xs.length = ds.length
  | xs, [], h => by rw [h.nil_inv]; rfl
  | xs, d :: ds, h => by
    obtain ⟨y, ys, rfl, _, h2⟩ := h.cons_inv
    rw [List.length_cons, List.length_cons, RDs.length h2]
theorem RDs.append : ∀ {xs ys : List V} {ds es : List PyData}, RDs K H xs ds → RDs K H ys es → RDs K H (xs ++ ys) (ds ++ es)
  | xs, ys, [], es, h, g => by rw [h.nil_inv]; exact g
  | xs, ys, d :: ds, es, h, g => by
    obtain ⟨y, zs, rfl, h1, h2⟩ := h.cons_inv
    exact rds_cons h1 (RDs.append h2 g)
theorem RDs.take : ∀ (n : Nat) {xs : List V} {ds : List PyData}, RDs K H xs ds → RDs K H (xs.take n) (ds.take n)
  | 0, xs, ds, h => by rw [List.take_zero, List.take_zero]; exact rds_nil
  | n + 1, xs, [], h => by rw [h.nil_inv]; exact rds_nil
  | n + 1, xs, d :: ds, h => by
    obtain ⟨y, zs, rfl, h1, h2⟩ := h.cons_inv
    exact rds_cons h1 (RDs.take n h2)
theorem RDs.drop : ∀ (n : Nat) {xs : List V} {ds : List PyData}, RDs K H xs ds → RDs K H (xs.drop n) (ds.drop n)
  | 0, xs, ds, h => h
  | n + 1, xs, [], h => by rw [h.nil_inv]; exact rds_nil
  | n + 1, xs, d :: ds, h => by
    obtain ⟨y, zs, rfl, h1, h2⟩ := h.cons_inv
    exact RDs.drop n h2
theorem RDs.get : ∀ (n : Nat) {xs : List V} {ds : List PyData} {d : PyData}, RDs K H xs ds → ds[n]? = some d → ∃ x, xs[n]? = some x ∧ RD K H x d
  | n, xs, [], d, h, e => by simp at e
  | 0, xs, d' :: ds, d, h, e => by
    obtain ⟨y, zs, rfl, h1, h2⟩ := h.cons_inv
    have e' : d' = d := by simpa using e
    subst e'
    exact ⟨y, rfl, h1⟩
  | n + 1, xs, d' :: ds, d, h, e => by
    obtain ⟨y, zs, rfl, h1, h2⟩ := h.cons_inv
    exact RDs.get n h2 (by simpa using e)
theorem RDs.get' (n : Nat) {xs : List V} {ds : List PyData} {x : V} (h : RDs K H xs ds) (e : xs[n]? = some x) : ∃ d, ds[n]? = some d ∧ RD K H x d := by
  have hl : n < ds.length := by rw [← h.length]; exact (List.getElem?_eq_some_iff.mp e).1
  obtain ⟨y, e1, r⟩ := h.get n (List.getElem?_eq_getElem hl)
  rw [e] at e1
  cases e1
  exact ⟨_, List.getElem?_eq_getElem hl, r⟩
/-- the name of a datum's type -/
def tyD : PyData → String
  | .none => "NoneType"
  | .bool _ => "bool"
  | .int _ => "int"
  | .str _ => "str"
  | .list _ => "list"
  | .tuple _ => "tuple"
  | .dict _ => "dict"
theorem RD.ty {x : V} : ∀ {d : PyData}, RD K H x d → TyN K H x (tyD d)
  | .none, h => by rw [h.non_inv]; rfl
  | .bool b, h => by rw [h.bl_inv]; rfl
  | .int b, h => by rw [h.int_inv]; rfl
  | .str b, h => by rw [h.str_inv]; rfl
  | .list ds, h => by obtain ⟨a, xs, rfl, h1, _⟩ := h.lst_inv; exact .inl ⟨rfl, xs, h1⟩
  | .tuple ds, h => by obtain ⟨a, xs, rfl, h1, _⟩ := h.tup_inv; exact .inr ⟨rfl, xs, h1⟩
  | .dict _, h => by simp [RD] at h
/-! ### good data -/
structure OkD (n : Nat) (d : PyData) : Prop where
  lay : d.canLay0 = true
  dep : d.depth ≤ n
def OkDs (n : Nat) (ds : List PyData) : Prop := ∀ d ∈ ds, OkD n d
theorem OkD.le {n m : Nat} {d : PyData} (h : OkD n d) (l : n ≤ m) : OkD m d := ⟨h.lay, Nat.le_trans h.dep l⟩
theorem OkDs.le {n m : Nat} {d : List PyData} (h : OkDs n d) (l : n ≤ m) : OkDs m d := fun x hx => (h x hx).le l
theorem okds_iff {n : Nat} : ∀ {ds : List PyData}, OkDs n ds ↔ (PyData.canLayAll0 ds = true ∧ PyData.depthAll ds ≤ n)
  | [] => ⟨fun _ => ⟨rfl, Nat.zero_le _⟩, fun _ _ h => nomatch h⟩
  | d :: ds => by
    have ih := okds_iff (n := n) (ds := ds)
    simp only [PyData.canLayAll0, PyData.depthAll, Bool.and_eq_true]
    constructor
    · intro h
      have h1 := h d (.head _)
      have h2 := ih.mp fun x hx => h x (.tail _ hx)
      exact ⟨⟨h1.lay, h2.1⟩, Nat.max_le.mpr ⟨h1.dep, h2.2⟩⟩
    · rintro ⟨⟨a, b⟩, c⟩ x hx
      have c' := Nat.max_le.mp c
      rcases List.mem_cons.mp hx with rfl | hx
      · exact ⟨a, c'.1⟩
      · exact ih.mpr ⟨b, c'.2⟩ x hx
theorem OkDs.tup {n : Nat} {ds : List PyData} (h : OkDs n ds) : OkD (n + 1) (.tuple ds) := ⟨by simpa [PyData.canLay0] using (okds_iff.mp h).1, by simpa [PyData.depth] using (okds_iff.mp h).2⟩
theorem OkDs.lst {n : Nat} {ds : List PyData} (h : OkDs n ds) : OkD (n + 1) (.list ds) := ⟨by simpa [PyData.canLay0] using (okds_iff.mp h).1, by simpa [PyData.depth] using (okds_iff.mp h).2⟩
theorem OkD.tup_inv {n : Nat} {ds : List PyData} (h : OkD (n + 1) (.tuple ds)) : OkDs n ds := okds_iff.mpr ⟨by simpa [PyData.canLay0] using h.lay, by simpa [PyData.depth] using h.dep⟩
theorem OkD.lst_inv {n : Nat} {ds : List PyData} (h : OkD (n + 1) (.list ds)) : OkDs n ds := okds_iff.mpr ⟨by simpa [PyData.canLay0] using h.lay, by simpa [PyData.depth] using h.dep⟩
theorem OkD.int {n : Nat} (i : Int) : OkD n (.int i) := ⟨rfl, Nat.zero_le _⟩
theorem OkD.bl {n : Nat} (i : Bool) : OkD n (.bool i) := ⟨rfl, Nat.zero_le _⟩
theorem OkD.non {n : Nat} : OkD n .none := ⟨rfl, Nat.zero_le _⟩
theorem OkDs.nil {n : Nat} : OkDs n [] := fun _ h => nomatch h
theorem OkDs.cons {n : Nat} {d : PyData} {ds : List PyData} (h : OkD n d) (g : OkDs n ds) : OkDs n (d :: ds) := fun x hx => by
  rcases List.mem_cons.mp hx with rfl | hx
  · exact h
  · exact g x hx
theorem OkDs.app {n : Nat} {ds es : List PyData} (h : OkDs n ds) (g : OkDs n es) : OkDs n (ds ++ es) := fun x hx => (List.mem_append.mp hx).elim (h x) (g x)
theorem OkD.shaped {n : Nat} {d : PyData} (h : OkD n d) (l : n ≤ 64) : SeqAt.shaped d = true := by
  unfold SeqAt.shaped
  rw [h.lay, Bool.true_and]
  exact decide_eq_true (Nat.le_trans h.dep l)
theorem OkD.refl {n : Nat} {d : PyData} (h : OkD n d) : PyData.eqv d d = true := eqv_refl d h.lay
/-! ### data beside one object -/
def del (H : Hp) (p : Addr) : Hp := fun b => if b = p then none else H b
theorem del_some {H : Hp} {p b : Addr} {o : HO} : del H p b = some o ↔ b ≠ p ∧ H b = some o := by
  unfold del
  by_cases e : b = p
  · rw [if_pos e]; simp [e]
  · rw [if_neg e]; simp [e]
theorem del_same {H : Hp} {p : Addr} : Same (del H p) H := fun b o e => (del_some.mp e).2
def SD (p : Addr) (H H' : Hp) : Prop := Same (del H p) (del H' p)
theorem Same.sd {p : Addr} (s : Same H H') : SD p H H' := fun b o e => del_some.mpr ⟨(del_some.mp e).1, s _ _ (del_some.mp e).2⟩
theorem SD.refl {p : Addr} : SD p H H := fun _ _ e => e
theorem SD.trans {p : Addr} {H1 : Hp} (a : SD p H H') (b : SD p H' H1) : SD p H H1 := fun c o e => b c o (a c o e)
theorem Nw.del {p q : Addr} {o : HO} (h : Nw H H' q o) (hp : H p ≠ none) : L2.del H' p q = some o := del_some.mpr ⟨fun e => hp (e ▸ h.no), h.at'⟩
structure AD (K : PySem.W.Frag) (p : Addr) (n : Nat) (H : Hp) (v : V) (d : PyData) : Prop where
  rd : RD K (del H p) v d
  ok : OkD n d
structure ADs (K : PySem.W.Frag) (p : Addr) (n : Nat) (H : Hp) (vs : List V) (ds : List PyData) : Prop where
  rds : RDs K (del H p) vs ds
  ok : OkDs n ds
variable {p : Addr} {n m : Nat} {v : V} {vs : List V} {d : PyData} {ds es : List PyData}
theorem AD.rd' (h : AD K p n H v d) : RD K H v d := RD.mono del_same _ h.rd
theorem AD.ty (h : AD K p n H v d) : TyN K H v (tyD d) := h.rd'.ty
theorem AD.go (h : AD K p n H v d) (s : SD p H H') : AD K p n H' v d := ⟨RD.mono s _ h.rd, h.ok⟩
theorem ADs.go (h : ADs K p n H vs ds) (s : SD p H H') : ADs K p n H' vs ds := ⟨RDs.mono s _ h.rds, h.ok⟩
theorem AD.le (h : AD K p n H v d) (l : n ≤ m) : AD K p m H v d := ⟨h.rd, h.ok.le l⟩
theorem ADs.nil : ADs K p n H [] [] := ⟨rds_nil, .nil⟩
theorem ADs.cons (h : AD K p n H v d) (g : ADs K p n H vs ds) : ADs K p n H (v :: vs) (d :: ds) := ⟨rds_cons h.rd g.rds, .cons h.ok g.ok⟩
theorem ADs.one (h : AD K p n H v d) : ADs K p n H [v] [d] := .cons h .nil
theorem AD.int (i : Int) : AD K p n H (.int i) (.int i) := ⟨rd_int i, .int i⟩
theorem AD.bl (i : Bool) : AD K p n H (.bl i) (.bool i) := ⟨rd_bl i, .bl i⟩
theorem ADs.get (h : ADs K p n H vs ds) (i : Nat) (e : ds[i]? = some d) : ∃ x, vs[i]? = some x ∧ AD K p n H x d := by
  obtain ⟨x, e1, r⟩ := h.rds.get i e
  exact ⟨x, e1, r, h.ok d (List.mem_of_getElem? e)⟩
end
/-! ### t + u, t[a:b] of data -/
section
variable {X : Cx}
end
end L2
namespace HT
open PySem PySem.Spec PyProof.Rows
section
variable {prog : Program} {w : World} {A : Around} {E : Value → Shared → Prop} {s : Shared}
end
end HT
namespace L2
open PySem PySem.Spec PyProof.Rows
section
variable {X : Cx}
end
/-! ### a display of literals -/
def fr (H H' : Hp) : Hp := fun b => match H b with | none => H' b | some _ => none
theorem fr_some {H H' : Hp} {b : Addr} {o : HO} : fr H H' b = some o ↔ H b = none ∧ H' b = some o := by
  unfold fr
  cases H b <;> simp
theorem fr_same {H H' : Hp} : Same (fr H H') H' := fun b o e => (fr_some.mp e).2
theorem fr_right {H H1 H2 : Hp} (s : Same H1 H2) : Same (fr H H1) (fr H H2) := fun b o e => fr_some.mpr ⟨(fr_some.mp e).1, s _ _ (fr_some.mp e).2⟩
theorem fr_left {H H1 H2 : Hp} (s : Same H H1) : Same (fr H1 H2) (fr H H2) := fun b o e => fr_some.mpr ⟨s.free (fr_some.mp e).1, (fr_some.mp e).2⟩
def tLit (K : PySem.W.Frag) (d : PyData) : TE := fun _ H Q => ∀ v H', Same H H' → RD K (fr H H') v d → Q v H'
def tLits (K : PySem.W.Frag) (ds : List PyData) : TA := fun _ H Q => ∀ vs H', Same H H' → RDs K (fr H H') vs ds → Q vs H'
def litAll (f : Expr → Option PyData) : List Expr → Option (List PyData)
  | [] => some []
  | e :: es => match f e, litAll f es with
    | some d, some ds => some (d :: ds)
    | _, _ => none
def lit : Nat → Expr → Option PyData
  | 0, _ => none
  | _ + 1, .Constant .none _ _ => some .none
  | _ + 1, .Constant (.bool b) _ _ => some (.bool b)
  | _ + 1, .Constant (.int i) _ _ => some (.int i)
  | _ + 1, .Constant (.str x) _ _ => some (.str x)
  | n + 1, .Tuple es _ _ => match litAll (lit n) es with
    | some ds => if ds.length ≤ 1000 then some (.tuple ds) else none
    | none => none
  | n + 1, .List es _ => match litAll (lit n) es with
    | some ds => if ds.length ≤ 1000 then some (.list ds) else none
    | none => none
  | n + 1, .UnaryOp .USub a _ => match lit n a with
    | some (.int i) => some (.int (-i))
    | _ => none
  | n + 1, .BinOp a .Pow b _ => match lit n a, lit n b with
    | some (.int i), some (.int j) => if 0 ≤ j ∧ j ≤ 1000000 ∧ i.natAbs < 2 ^ 64 then some (.int (i ^ j.toNat)) else none
    | _, _ => none
  | _, _ => none
section
variable {X : Cx}
theorem star_plain {e : Expr} {es : List Expr} {env : Env} (h : ∀ a b, e ≠ .Starred a b) : starEach (e :: es) env = (false, eval e env) :: starEach es env := by
  cases e <;> first | rfl | exact absurd rfl (h _ _)
theorem lit_plain {n : Nat} {e : Expr} {d : PyData} (h : lit n e = some d) : ∀ a b, e ≠ .Starred a b := by
  intro a b z
  subst z
  cases n <;> simp [lit] at h
theorem pa_lit (K : PySem.W.Frag) (f : Expr → Option PyData) (hp : ∀ e d, f e = some d → ∀ a b, e ≠ .Starred a b) (hf : ∀ e d, f e = some d → PE X e (tLit K d)) : ∀ (es : List Expr) (ds : List PyData), litAll f es = some ds → PA X es (tLits K ds)
  | [], ds, h => by
    cases h
    intro pos pins s σ H Q I hq
    exact pa_nil pos pins s σ H Q I (hq [] H (Same.refl H) rds_nil)
  | e :: es, ds, h => by
    rw [litAll] at h
    split at h
    · rename_i d ds' e1 e2
      cases h
      intro pos pins s σ H Q I hq
      refine pa_cons (hf e d e1) (pa_lit K f hp hf es ds' e2) (star_plain (hp e d e1)) pos pins s σ H Q I ?_
      intro v H1 s1 r1 vs H2 s2 r2
      exact hq (v :: vs) H2 (s1.trans s2) (rds_cons (RD.mono (fr_right s2) _ r1) (RDs.mono (fr_left s1) _ r2))
    · cases h
theorem pe_lit (K : PySem.W.Frag) (hK : X.K = K) : ∀ (n : Nat) (e : Expr) (d : PyData), lit n e = some d → PE X e (tLit K d)
  | 0, e, d, h => by simp [lit] at h
  | n + 1, e, d, h => by
    have hA := pa_lit (X := X) K (lit n) (fun e d h => lit_plain h) (fun e d h => pe_lit K hK n e d h)
    unfold lit at h
    split at h
    case h_1 => cases ‹Nat.succ n = 0›
    case h_2 => cases h; intro pins s σ H Q I hq; exact pe_non pins s σ H Q I (hq .non H (Same.refl H) rd_non)
    case h_3 => cases h; intro pins s σ H Q I hq; exact pe_bl pins s σ H Q I (hq (.bl _) H (Same.refl H) (rd_bl _))
    case h_4 => cases h; intro pins s σ H Q I hq; exact pe_int pins s σ H Q I (hq (.int _) H (Same.refl H) (rd_int _))
    case h_5 => cases h; intro pins s σ H Q I hq; exact pe_str pins s σ H Q I (hq (.str _) H (Same.refl H) (rd_str _))
    case h_6 =>
      rename_i m es _ _ hm
      cases hm
      split at h
      · rename_i ds e1
        by_cases hl : ds.length ≤ 1000
        · rw [if_pos hl] at h
          cases h
          intro pins s σ H Q I hq
          refine pe_tupA (hA es ds e1) pins s σ H Q I ?_
          intro vs H1 s1 r1
          refine ⟨by rw [r1.length]; exact Nat.le_trans hl (by decide), fun p H' nw => ?_⟩
          refine hq _ _ (s1.trans nw.same) (rd_tup (SqT.of (fr_some.mpr ⟨s1.free nw.no, nw.at'⟩)) (RDs.mono (fr_right nw.same) _ r1))
        · rw [if_neg hl] at h; cases h
      · cases h
    case h_7 =>
      rename_i m es _ hm
      cases hm
      split at h
      · rename_i ds e1
        by_cases hl : ds.length ≤ 1000
        · rw [if_pos hl] at h
          cases h
          intro pins s σ H Q I hq
          refine pe_lstA (hA es ds e1) pins s σ H Q I ?_
          intro vs H1 s1 r1
          refine ⟨by rw [r1.length]; exact Nat.le_trans hl (by decide), fun p H' nw => ?_⟩
          refine hq _ _ (s1.trans nw.same) (rd_lst (SqL.of (fr_some.mpr ⟨s1.free nw.no, nw.at'⟩)) (RDs.mono (fr_right nw.same) _ r1))
        · rw [if_neg hl] at h; cases h
      · cases h
    case h_8 =>
      rename_i m a _ hm
      cases hm
      split at h
      · rename_i i e1
        cases h
        intro pins s σ H Q I hq
        refine pe_un un_neg (pe_lit K hK n a _ e1) pins s σ H Q I ?_
        intro v H1 s1 r1
        exact ⟨i, r1.int_inv, hq _ _ s1 (rd_int _)⟩
      · cases h
    case h_9 =>
      rename_i m a b _ hm
      cases hm
      split at h
      · rename_i i j e1 e2
        by_cases hc : 0 ≤ j ∧ j ≤ 1000000 ∧ i.natAbs < 2 ^ 64
        · rw [if_pos hc] at h
          cases h
          intro pins s σ H Q I hq
          refine pe_op op_pow (pe_lit K hK n a _ e1) (pe_lit K hK n b _ e2) pins s σ H Q I ?_
          intro v H1 s1 r1 v2 H2 s2 r2
          exact ⟨i, j, r1.int_inv, r2.int_inv, hc, hq _ _ (s1.trans s2) (rd_int _)⟩
        · rw [if_neg hc] at h; cases h
      · cases h
    case h_10 => cases h
end
end L2
namespace L2
theorem atI_of {α : Type} {xs : List α} {i : Int} {v : α} (h0 : 0 ≤ i) (h : xs[i.toNat]? = some v) : atI xs i = some v := by
  have hl : i.toNat < xs.length := (List.getElem?_eq_some_iff.mp h).1
  unfold atI ixN
  rw [if_pos h0, if_pos (by omega)]
  exact h
end L2
namespace L2
open PySem PySem.Spec PyProof.Rows
theorem smallN (n : Nat) (h : n ≤ 1000) : n ≤ sizeLine := Nat.le_trans h (by decide)
end L2
namespace L2
open PySem PySem.Spec PyProof.Rows
/-- the same word, shut -/
structure PEb (X : Cx) (e : Expr) (t : TE) : Prop where
  out : PE X e t
theorem pe_litB {X : Cx} (K : PySem.W.Frag) (hK : X.K = K) (n : Nat) (e : Expr) (d : PyData) (h : lit n e = some d) : PEb X e (tLit K d) := ⟨pe_lit K hK n e d h⟩
end L2


set_option Elab.async false
set_option linter.all false
set_option maxRecDepth 100000
namespace L2
open PySem PySem.Spec PyProof.Rows

/-! ### constants of the text -/
def GV (mg : Str → Option Value) (x : Str) (v : V) : Prop := ∃ u, mg x = some u ∧ RelV v u
def GT (K : PySem.W.Frag) (mg : Str → Option Value) (x : Str) (vs : List V) : Prop := ∃ a, GV mg x (.ref a) ∧ ∀ H, SqT K H a vs
theorem pe_gv {X : Cx} {x : Str} {v : V} {pos : Pos} (hg : Gl X x) (h : GV X.mg x v) (hd : (x == ("__debug__" : Str)) = false := by decide) : PE X (.Name x pos) (tC v) := by
  obtain ⟨u, hm, r⟩ := h
  exact pe_glob hg hm r hd
section
variable {K : PySem.W.Frag} {mg : Str → Option Value} {h : Heap}
theorem gv_int {x : Str} {i : Int} {t : Tok} (X : K.In h) (G : h.Ns mainGlobals mg) (a : PySem.W.nsIn K mainGlobals x = some (some (.int i t))) : GV mg x (.int i) := ⟨_, PySem.W.mg_of X G a, t, rfl⟩
theorem gt_mk {x : Str} {vs : List V} {b : Addr} {its : Array Value} {n : Nat} {od : Option Addr} {osl : Array (Option Value)} (X : K.In h) (G : h.Ns mainGlobals mg) (a : PySem.W.nsIn K mainGlobals x = some (some (.ref b)))
    (l : K.lookup b = some ⟨.type "tuple", od, .seq its n, osl⟩) (hz : its.size ≤ sizeLine) (r : Vals vs its.toList) : GT K mg x vs :=
  ⟨b, ⟨_, PySem.W.mg_of X G a, rfl⟩, fun H => .inr ⟨_, its, n, l, rfl, rfl, hz, r⟩⟩
end
section
variable {X : Cx}
end
/-! ### truths, one for each item -/
end L2


set_option Elab.async false
set_option linter.all false
set_option maxRecDepth 100000
namespace L2
open PySem PySem.Spec PyProof.Rows
section
variable {X : Cx}
/-! ### list + list -/
def rCatL (K : PySem.W.Frag) : R2 := fun x y H Q => ∃ a b xs ys, x = .ref a ∧ y = .ref b ∧ SqL K H a xs ∧ SqL K H b ys ∧ xs.length + ys.length ≤ sizeLine ∧ ∀ p H', Nw H H' p (.lst (xs ++ ys)) → Q (.ref p) H'
theorem catL (K : PySem.W.Frag) (hK : X.K = K) : OpR X (binaryOp .Add) (rCatL K) := by
  subst hK
  intro pins s σ H x y v u Q I rx ry h
  obtain ⟨a, b, xs, ys, rfl, rfl, ha, hb, hz, q⟩ := h
  cases rx
  cases ry
  obtain ⟨its, r1, p1, _⟩ := I.list ha
  obtain ⟨its2, r2, p2, _⟩ := I.list hb
  obtain ⟨⟨cls, dd, data, sl⟩, n, ho, hc, hdd, hd⟩ := id p1
  obtain ⟨⟨cls2, dd2, data2, sl2⟩, n2, ho2, hc2, hdd2, hd2⟩ := id p2
  simp only at hc hd hc2 hd2
  subst hc hd hc2 hd2
  have e : its.toArray ++ its2.toArray = (its ++ its2).toArray := by simp
  refine concat_meets ⟨_, ho, rfl⟩ ⟨_, ho2, rfl⟩ noFill_list_add seq_list_add PySem.F.slot_list_add PySem.F.entry_list_add (PySem.F.args_list_add_2 _ _) (list_addW a b its.toArray its2.toArray n n2 dd dd2 sl sl2 (by rw [List.size_toArray, List.size_toArray, ← r1.length, ← r2.length]; exact hz)) ⟨ho, ho2, ?_⟩
  rw [e]
  have nw : Nw H (upd H s.heap.objs.size (.lst (xs ++ ys))) s.heap.objs.size (.lst (xs ++ ys)) := .of (I.hok.fresh (Nat.le_refl _))
  refine ⟨.ref s.heap.objs.size, _, I.laid (t' := s.toks) (o := .lst (xs ++ ys)) (fun b ob q => Heap.get?_push_of_some _ q) (Nat.le_refl _) ?_, rfl, q _ _ nw⟩
  exact ⟨by rw [List.length_append]; exact hz, _, 0, r1.append r2, Heap.get?_push_size _ rfl⟩
/-! ### in, not in: data -/
open Classical in
/-! ### a list taken apart -/
theorem draw_listL {prog : Program} {w : World} {A : Around} {E : Value → Shared → Prop} {it t : Addr} {items : Array Value} (hne : t ≠ it) : ∀ (n i : Nat) (s : Shared) (Q : List Value → Shared → Prop), s.heap.IsListIter it t i → s.heap.IsList t items → i + n ≤ items.size →
    (∀ h', h'.IsListIter it t (i + n) → Heap.SameBut it s.heap h' → Q ((items.toList.drop i).take n) { s with heap := h' }) → wpAny (model prog w) A (draw (.ref it) n) Q E s
  | 0, i, s, Q, hit, _, _, hQ => by
    show wpAny _ _ (pure []) Q E s
    exact wpAny_pure (by simpa using hQ s.heap hit (Heap.SameBut.refl ..))
  | n + 1, i, s, Q, hit, ht, hle, hQ => by
    have hlt : i < items.size := by omega
    show wpAny _ _ (pyNext (.ref it) >>= _) Q E s
    refine wpAny_bind (wpAny_pyNext_list_item hit ht (x := items[i]) (by simp [hlt]) fun h₁ hit₁ hs₁ => ?_)
    refine wpAny_bind (wpAny_holding (draw_listL hne n (i + 1) _ _ hit₁ (ht.extBut hs₁.extBut hne) (by omega) fun h₂ hit₂ hs₂ => wpAny_pure ?_))
    have hd : items.toList.drop i = items[i] :: items.toList.drop (i + 1) := by simp [List.drop_eq_getElem_cons, hlt]
    have := hQ h₂ (by rw [show i + (n + 1) = i + 1 + n by omega]; exact hit₂) (hs₁.trans hs₂)
    rw [hd, List.take_succ_cons] at this
    exact this
theorem unpackItems_list {prog : Program} {w : World} {A : Around} {E : Value → Shared → Prop} {s : Shared} {t : Addr} {items : Array Value} {Q : List Value → Shared → Prop} (hh : A.handled = none) (ht : s.heap.IsList t items)
    (hQ : ∀ h', Heap.ExtBut s.heap.objs.size s.heap h' → Q items.toList { s with heap := h' }) : wpAny (model prog w) A (unpackItems (.ref t) items.size none) Q E s := by
  have hlt : t ≠ s.heap.objs.size := by obtain ⟨o, ho, _⟩ := ht; exact Nat.ne_of_lt (Heap.lt_size ho)
  unfold unpackItems
  refine wpAny_bind ?_
  · unfold notIterableAtAll
    refine wpAny_bind (wpAny_specialOf ht.typeIs slot_list_iter.lookup ?_)
    refine wpAny_pure ?_
    simp only [Bool.false_eq_true, if_false]
    refine wpAny_bind (wpAny_holding (wpAny_pyIter_list ht ?_))
    refine wpAny_bind (wpAny_holding (draw_listL hlt items.size 0 _ _ ⟨_, Heap.get?_push_size _ rfl, rfl, rfl⟩ (ht.push _) (by omega) fun h₁ hit₁ hs₁ => ?_))
    have hall : List.take items.size (List.drop 0 items.toList) = items.toList := by
      rw [List.drop_zero]; exact List.take_of_length_le (by simp)
    rw [hall]
    rw [if_neg (by simp)]
    have ht₁ : h₁.IsList t items := (ht.push _).extBut hs₁.extBut hlt
    refine wpAny_bind (wpAny_holding (wpAny_pyNext_list_end hh hit₁ ht₁ (by simp) fun h₂ he₂ => ?_))
    simp only [Option.isSome_none, Bool.false_eq_true, if_false]
    refine wpAny_pure (hQ h₂ fun b o hb e => he₂ b o hb (hs₁.extBut b o hb (Heap.get?_push_of_some _ e)))
theorem assign_Tuple_list {prog : Program} {w : World} {A : Around} {E : Value → Shared → Prop} {s : Shared} {env : Env} {elts : List Expr} {x1} {pos : Pos} {t : Addr} {items : Array Value} {Q : Unit → Shared → Prop} (hh : A.handled = none) (ht : s.heap.IsList t items)
    (hn : (assignEach elts env).length = items.size) (hstar : (assignEach elts env).findIdx? (·.1) = none)
    (h : ∀ h', Heap.ExtBut s.heap.objs.size s.heap h' → wpAny (model prog w) A (assignInOrder ((assignEach elts env).map (·.2)) items.toList) Q E { s with heap := h' }) :
    wpAny (model prog w) A (assign (.Tuple elts x1 pos) env (.ref t)) Q E s := by
  rw [assign_Tuple]
  refine wpAny_bind (wpAny_standAt ?_)
  unfold unpack
  rw [hn, hstar]
  exact wpAny_bind (wpAny_holding (unpackItems_list hh ht h))
def gLst (K : PySem.W.Frag) (n : Nat) (t : TGs) : TG := fun v σ H Q => ∃ a xs, v = .ref a ∧ SqL K H a xs ∧ xs.length = n ∧ t xs σ H Q
theorem pgL (K : PySem.W.Frag) (hK : X.K = K) {es : List Expr} {k : Nat} {t : TGs} {n : Nat} {pos : Pos} (hc : X.calm = true) (h : PGs X es t)
    (hn : (assignEach es X.env).length = n := by rfl) (hst : (assignEach es X.env).findIdx? (·.1) = none := by rfl) : PG X (.Tuple es k pos) (gLst K n t) := by
  subst hK
  intro pins s σ H v u Q I r hw
  obtain ⟨a, xs, e1, hq, hl, hw⟩ := hw
  subst e1
  cases r
  obtain ⟨its, rv, ht, hz⟩ := I.list hq
  refine assign_Tuple_list (I.ok.hd hc) ht.isList (by simp [hn, ← hl, rv.length]) hst fun h' hx => ?_
  have I1 : Inv X pins σ H { s with heap := h' } := I.kept (t' := s.toks) fun b o e => hx b o (Nat.ne_of_lt (Heap.lt_size e)) e
  exact h pins _ σ H xs _ Q I1 (by simpa using rv) hw
/-! ### a list or a tuple turned about -/
end
end L2
namespace L2
end L2


set_option Elab.async false
set_option linter.all false
set_option maxRecDepth 100000
namespace L2
open PySem PySem.Spec PyProof.Rows
/-! ### zip of two rows, each a list or a tuple -/
def ItO (b : Bool) (h : Heap) (it l : Addr) (k : Nat) : Prop := match b with | true => h.IsListIter it l k | false => h.IsTupleIter it l k
def SqO (b : Bool) (h : Heap) (l : Addr) (xs : Array Value) : Prop := match b with | true => h.IsList l xs | false => h.IsTuple l xs
def cnO (b : Bool) : String := match b with | true => "list_iterator" | false => "tuple_iterator"
theorem ItO.to {b : Bool} {h g : Heap} {it l : Addr} {k : Nat} (x : ItO b h it l k) (e : ∀ o, h.get? it = some o → g.get? it = some o) : ItO b g it l k := by
  cases b <;> (obtain ⟨o, ho, r⟩ := x; exact ⟨o, e o ho, r⟩)
theorem SqO.to {b : Bool} {h g : Heap} {l : Addr} {xs : Array Value} (x : SqO b h l xs) (e : ∀ o, h.get? l = some o → g.get? l = some o) : SqO b g l xs := by
  cases b <;> (obtain ⟨o, ho, r⟩ := x; exact ⟨o, e o ho, r⟩)
theorem ItO.ob {b : Bool} {h : Heap} {it l : Addr} {k : Nat} (x : ItO b h it l k) : ∃ o, h.get? it = some o ∧ o.cls = .type (cnO b) ∧ ∀ v, o.data ≠ .cell v := by
  cases b <;> (obtain ⟨o, ho, c, d⟩ := x; exact ⟨o, ho, c, fun v z => by rw [d] at z; cases z⟩)
section
variable {prog : Program} {w : World} {A : Around} {E : Value → Shared → Prop} {s : Shared}
theorem newO {b : Bool} {l : Addr} {xs : Array Value} {Q : Value → Shared → Prop} (x : SqO b s.heap l xs)
    (q : Q (.ref s.heap.objs.size) { s with heap := s.heap.push { cls := .type (cnO b), data := .fields #[.ref l, .int 0 0] } }) : wpAny (model prog w) A (pyIter (.ref l)) Q E s := by
  cases b
  · exact wpAny_pyIter_tuple x q
  · exact wpAny_pyIter_list x q
theorem nx_tup {it t : Addr} {k : Nat} {ts : Array Value} {x : Value} {Q : Value → Shared → Prop} (hi : s.heap.IsTupleIter it t k) (ht : s.heap.IsTuple t ts) (hx : ts[k]? = some x)
    (q : ∀ g, g.IsTupleIter it t (k + 1) → Heap.SameBut it s.heap g → Q x { s with heap := g }) : wpAny (model prog w) A (Builtin.SmallTypes.nextOf (.ref it)) Q E s := by
  obtain ⟨oi, hoi, ci, di⟩ := id hi
  obtain ⟨ot, hot, _, nt, dt⟩ := ht
  unfold Builtin.SmallTypes.nextOf
  refine wpAny_bind (wpAny_callSpecial?_slot (name := Str.ofString "__next__") hi.typeIs PySem.F.slot_tuple_iterator_next (wpAny_call_entry PySem.F.slot_tuple_iterator_next hi.typeIs PySem.F.entry_tuple_iterator_next ?_ (PySem.F.args_tuple_iterator_next_1 _)))
  show wpAny _ _ (field (.ref it) 0 >>= _) _ _ s; refine wpAny_bind (wpAny_field hoi di (x := .ref t) rfl ?_)
  show wpAny _ _ (if (Value.ref t == Value.none) = true then _ else _) _ _ s; rw [if_neg (show ¬ ((Value.ref t == Value.none) = true) from Bool.false_ne_true)]
  show wpAny _ _ (field (.ref it) 1 >>= _) _ _ s; refine wpAny_bind (wpAny_field hoi di (x := .int k 0) rfl ?_)
  show wpAny _ _ (seqItems? (.ref t) >>= _) _ _ s; refine wpAny_bind (wpAny_seqItems hot dt ?_)
  simp only [Int.toNat_natCast, hx]
  refine wpAny_bind (wpAny_setField hoi di (by simp) (wpAny_pure ⟨x, rfl, wpAny_pure (q _ ?_ (Heap.SameBut.update ..))⟩))
  exact ⟨_, Heap.get?_update_self _ hoi (Obj.isFreed_of_fields (Obj.data_mapFields di _)), (Obj.cls_mapFields ..).trans ci, by rw [Obj.data_mapFields di]; simp [rawInt]⟩
theorem en_tup {it t : Addr} {k : Nat} {ts : Array Value} {Q : Value → Shared → Prop} (hh : A.handled = none) (hi : s.heap.IsTupleIter it t k) (ht : s.heap.IsTuple t ts) (hx : ts[k]? = none)
    (q : ∀ g e, Heap.ExtBut it s.heap g → (∃ o, g.get? e = some o ∧ o.cls = .type "StopIteration") → E (.ref e) { s with heap := g }) : wpAny (model prog w) A (Builtin.SmallTypes.nextOf (.ref it)) Q E s := by
  obtain ⟨oi, hoi, ci, di⟩ := id hi
  obtain ⟨ot, hot, _, nt, dt⟩ := ht
  unfold Builtin.SmallTypes.nextOf
  refine wpAny_bind (wpAny_callSpecial?_slot (name := Str.ofString "__next__") hi.typeIs PySem.F.slot_tuple_iterator_next (wpAny_call_entry PySem.F.slot_tuple_iterator_next hi.typeIs PySem.F.entry_tuple_iterator_next ?_ (PySem.F.args_tuple_iterator_next_1 _)))
  show wpAny _ _ (field (.ref it) 0 >>= _) _ _ s; refine wpAny_bind (wpAny_field hoi di (x := .ref t) rfl ?_)
  show wpAny _ _ (if (Value.ref t == Value.none) = true then _ else _) _ _ s; rw [if_neg (show ¬ ((Value.ref t == Value.none) = true) from Bool.false_ne_true)]
  show wpAny _ _ (field (.ref it) 1 >>= _) _ _ s; refine wpAny_bind (wpAny_field hoi di (x := .int k 0) rfl ?_)
  show wpAny _ _ (seqItems? (.ref t) >>= _) _ _ s; refine wpAny_bind (wpAny_seqItems hot dt ?_)
  simp only [Int.toNat_natCast, hx]
  refine wpAny_bind (wpAny_rule (wpAny_bind (wpAny_setField hoi di (by simp) ?_)))
  show wpAny _ _ (newExc (.type "StopIteration") [] >>= _) _ _ _; refine wpAny_bind ?_; simp only [newExc, newTuple]
  refine wpAny_bind (wpAny_newObj_type ?_ (by size_fits)); refine wpAny_bind (m := firstArgMember _ _) (wpAny_of_eq (a := Value.none) (by first | rfl | (simp only [firstArgMember]; rfl)) ?_)
  refine wpAny_newObj_type ?_ (by size_fits); simp only [raiseNew]; refine wpAny_bind (wpAny_handled ?_)
  first | rw [show A.in1.handled = none from hh] | rw [hh]
  exact wpAny_bind (wpAny_pure (wpAny_throw (q _ _ (((Heap.SameBut.update ..).extBut.push _).push _) ⟨_, Heap.get?_push_size _ rfl, rfl⟩)))
theorem nxO {b : Bool} {it l : Addr} {k : Nat} {xs : Array Value} {x : Value} {Q : Value → Shared → Prop} (hi : ItO b s.heap it l k) (hl : SqO b s.heap l xs) (hx : xs[k]? = some x)
    (q : ∀ g, ItO b g it l (k + 1) → Heap.SameBut it s.heap g → Q x { s with heap := g }) : wpAny (model prog w) A (Builtin.SmallTypes.nextOf (.ref it)) Q E s := by
  cases b
  · exact nx_tup hi hl hx q
  · exact wpAny_nextOf_list_item hi hl hx q
theorem enO {b : Bool} {it l : Addr} {k : Nat} {xs : Array Value} {Q : Value → Shared → Prop} (hh : A.handled = none) (hi : ItO b s.heap it l k) (hl : SqO b s.heap l xs) (hx : xs[k]? = none)
    (q : ∀ g e, Heap.ExtBut it s.heap g → (∃ o, g.get? e = some o ∧ o.cls = .type "StopIteration") → E (.ref e) { s with heap := g }) : wpAny (model prog w) A (Builtin.SmallTypes.nextOf (.ref it)) Q E s := by
  cases b
  · exact en_tup hh hi hl hx q
  · exact wpAny_nextOf_list_end hh hi hl hx q
/-- what of a zip does not change under a step at another place -/
structure Zp (b1 b2 : Bool) (h : Heap) (z TI TO i1 i2 l1 l2 : Addr) (f0 : Value) (k : Nat) : Prop where
  zz : IsZip h z TI TO f0
  ti : IsPair h TI (.ref i1) (.ref i2)
  to : ∃ a b, IsPair h TO a b
  n1 : ItO b1 h i1 l1 k
  n2 : ItO b2 h i2 l2 k
theorem ownFree {z TI TO : Addr} {Q : Bool → Shared → Prop} (hz : IsZip s.heap z TI TO .none) (q : Q true s) : wpAny (model prog w) A (Builtin.SmallTypes.ownedTupleIsFree (.ref z)) Q E s := by
  unfold Builtin.SmallTypes.ownedTupleIsFree
  exact wpAny_bind (wpAny_field hz rfl (x := .none) rfl (wpAny_pure q))
theorem zpItem {b1 b2 : Bool} {z TI TO i1 i2 l1 l2 : Addr} {k : Nat} {xs ys : Array Value} {x y : Value} {Q : Value → Shared → Prop} (D : ZipApart z TI TO i1 i2 l1 l2) (Z : Zp b1 b2 s.heap z TI TO i1 i2 l1 l2 .none k)
    (hl1 : SqO b1 s.heap l1 xs) (hl2 : SqO b2 s.heap l2 ys) (hx : xs[k]? = some x) (hy : ys[k]? = some y)
    (q : ∀ g, Zp b1 b2 g z TI TO i1 i2 l1 l2 (rawInt s.heap.objs.size) (k + 1) → IsPair g s.heap.objs.size x y → (∀ c o, c ≠ z → c ≠ TO → c ≠ i1 → c ≠ i2 → s.heap.get? c = some o → g.get? c = some o) → Q (.ref s.heap.objs.size) { s with heap := g }) :
    wpAny (model prog w) A (Builtin.«zip.__next__» ⟨[.ref z], []⟩) (fun r s' => ∃ v, r = .done (.ret v) ∧ Q v s') E s := by
  obtain ⟨hz, hTI, ⟨a, b, hTO⟩, h1, h2⟩ := Z
  show wpAny _ _ (field (.ref z) 2 >>= _) _ _ _; refine wpAny_bind (wpAny_field hz rfl (x := .bool false) rfl ?_); show wpAny _ _ (field (.ref z) 3 >>= _) _ _ _
  refine wpAny_bind (wpAny_field hz rfl (x := .ref TI) rfl (wpAny_bind (wpAny_seqItems hTI rfl ?_)))
  show wpAny _ _ (Builtin.SmallTypes.ownedTupleIsFree (.ref z) >>= _) _ _ _; refine wpAny_bind (ownFree hz ?_); simp only [if_true]
  refine wpAny_bind (wpAny_rule (wpAny_bind (wpAny_field hz rfl (x := .ref TO) rfl (wpAny_bind (wpAny_setField_rec hz (by simp) fun g1 z1 e1 => ?_)))))
  replace z1 : IsZip g1 z TI TO .ellipsis := z1
  refine wpAny_bind ?_; simp only [List.zipIdx_cons, List.zipIdx_nil, List.forIn_cons, List.forIn_nil]; refine wpAny_bind (wpAny_bind (wpAny_onRaise ?_))
  show wpAny _ _ (Builtin.SmallTypes.nextOf (.ref i1) >>= _) _ _ _
  refine wpAny_bind (nxO (h1.to fun o e => e1.extBut _ _ D.i1z e) (hl1.to fun o e => e1.extBut _ _ D.l1z e) hx fun g2 n1 e2 => wpAny_pure ?_)
  have t2 : IsPair g2 TO a b := e2.extBut _ _ D.TOi1 (e1.extBut _ _ D.TOz hTO)
  refine wpAny_bind (wpAny_seqItems t2 rfl (wpAny_bind (wpAny_updateSeq_pair t2 fun g3 t3 e3 => ?_)))
  replace t3 : IsPair g3 TO x b := t3
  refine wpAny_bind (wpAny_letGo (wpAny_pure ?_)); refine wpAny_bind (wpAny_bind (wpAny_onRaise ?_)); show wpAny _ _ (Builtin.SmallTypes.nextOf (.ref i2) >>= _) _ _ _
  refine wpAny_bind (nxO (h2.to fun o e => e3.extBut _ _ D.TOi2.symm (e2.extBut _ _ D.i12.symm (e1.extBut _ _ D.i2z e))) (hl2.to fun o e => e3.extBut _ _ D.l2TO (e2.extBut _ _ D.l2i1 (e1.extBut _ _ D.l2z e))) hy fun g4 n2 e4 => wpAny_pure ?_)
  have t4 : IsPair g4 TO x b := e4.extBut _ _ D.TOi2 t3
  refine wpAny_bind (wpAny_seqItems t4 rfl (wpAny_bind (wpAny_updateSeq_pair t4 fun g5 t5 e5 => ?_)))
  replace t5 : IsPair g5 TO x y := t5
  refine wpAny_bind (wpAny_letGo (wpAny_pure (wpAny_pure ?_))); refine wpAny_bind (wpAny_seqItems t5 rfl (wpAny_bind (wpAny_newTuple ?_)))
  have sz : g5.objs.size = s.heap.objs.size := by rw [e5.1, e4.1, e3.1, e2.1, e1.1]
  have z5 : IsZip g5 z TI TO .ellipsis := e5.extBut _ _ D.TOz.symm (e4.extBut _ _ D.i2z.symm (e3.extBut _ _ D.TOz.symm (e2.extBut _ _ D.i1z.symm z1)))
  have kp : ∀ c o, c ≠ z → c ≠ TO → c ≠ i1 → c ≠ i2 → s.heap.get? c = some o → g5.get? c = some o := fun c o c1 c2 c3 c4 e => e5.extBut _ _ c2 (e4.extBut _ _ c4 (e3.extBut _ _ c2 (e2.extBut _ _ c3 (e1.extBut _ _ c1 e))))
  have m1 : ItO b1 g5 i1 l1 (k + 1) := n1.to fun o e => e5.extBut _ _ D.TOi1.symm (e4.extBut _ _ D.i12 (e3.extBut _ _ D.TOi1.symm e))
  have m2 : ItO b2 g5 i2 l2 (k + 1) := n2.to fun o e => e5.extBut _ _ D.TOi2.symm e
  have zlt : z < g5.objs.size := Heap.lt_size z5
  show wpAny _ _ (Builtin.SmallTypes.ownedTupleHandOut (.ref z) (.ref g5.objs.size) >>= _) _ _ _; refine wpAny_bind ?_; unfold Builtin.SmallTypes.ownedTupleHandOut
  have z6 : IsZip (g5.push { cls := .type "tuple", data := .seq #[x, y] }) z TI TO .ellipsis := Heap.get?_push_of_some _ z5
  refine wpAny_bind (wpAny_setField_rec z6 (by simp) fun g7 z7 e7 => ?_)
  replace z7 : IsZip g7 z TI TO (rawInt g5.objs.size) := z7
  refine wpAny_setField_rec z7 (by simp) fun g8 z8 e8 => ?_
  replace z8 : IsZip g8 z TI TO (rawInt g5.objs.size) := z8
  have up : ∀ c o, c ≠ z → g5.get? c = some o → g8.get? c = some o := fun c o c1 e => e8.extBut _ _ c1 (e7.extBut _ _ c1 (Heap.get?_push_of_some _ e))
  have t8 : IsPair g8 g5.objs.size x y := e8.extBut _ _ (Nat.ne_of_gt zlt) (e7.extBut _ _ (Nat.ne_of_gt zlt) (Heap.get?_push_size _ rfl))
  rw [sz] at z8 t8
  refine wpAny_pure ⟨_, rfl, ?_⟩
  show Q (.ref g5.objs.size) _
  rw [sz]
  exact q g8 ⟨z8, up _ _ D.TIz (kp _ _ D.TIz D.TITO D.TIi1 D.TIi2 hTI), ⟨_, _, up _ _ D.TOz t5⟩, m1.to fun o e => up _ o D.i1z e, m2.to fun o e => up _ o D.i2z e⟩ t8 fun c o c1 c2 c3 c4 e => up c o c1 (kp c o c1 c2 c3 c4 e)
theorem zpEnd {b1 b2 : Bool} {z TI TO i1 i2 l1 l2 : Addr} {k : Nat} {xs ys : Array Value} {Q : Fin → Shared → Prop} (hh : A.handled = none) (D : ZipApart z TI TO i1 i2 l1 l2) (Z : Zp b1 b2 s.heap z TI TO i1 i2 l1 l2 .none k)
    (hl1 : SqO b1 s.heap l1 xs) (hl2 : SqO b2 s.heap l2 ys) (hend : xs[k]? = none ∨ ys[k]? = none)
    (q : ∀ g e, (∀ c o, c ≠ z → c ≠ TO → c ≠ i1 → c ≠ i2 → s.heap.get? c = some o → g.get? c = some o) → (∃ o, g.get? e = some o ∧ o.cls = .type "StopIteration") → E (.ref e) { s with heap := g }) :
    wpAny (model prog w) A (Builtin.«zip.__next__» ⟨[.ref z], []⟩) Q E s := by
  obtain ⟨hz, hTI, ⟨a, b, hTO⟩, h1, h2⟩ := Z
  show wpAny _ _ (field (.ref z) 2 >>= _) _ _ _; refine wpAny_bind (wpAny_field hz rfl (x := .bool false) rfl ?_); show wpAny _ _ (field (.ref z) 3 >>= _) _ _ _
  refine wpAny_bind (wpAny_field hz rfl (x := .ref TI) rfl (wpAny_bind (wpAny_seqItems hTI rfl ?_)))
  show wpAny _ _ (Builtin.SmallTypes.ownedTupleIsFree (.ref z) >>= _) _ _ _; refine wpAny_bind (ownFree hz ?_); simp only [if_true]
  refine wpAny_bind (wpAny_rule (wpAny_bind (wpAny_field hz rfl (x := .ref TO) rfl (wpAny_bind (wpAny_setField_rec hz (by simp) fun g1 z1 e1 => ?_)))))
  replace z1 : IsZip g1 z TI TO .ellipsis := z1
  refine wpAny_bind ?_; simp only [List.zipIdx_cons, List.zipIdx_nil, List.forIn_cons, List.forIn_nil]; refine wpAny_bind (wpAny_bind (wpAny_onRaise ?_))
  show wpAny _ _ (Builtin.SmallTypes.nextOf (.ref i1) >>= _) _ _ _
  have j1 := h1.to fun o e => e1.extBut _ _ D.i1z e
  have k1 := hl1.to fun o e => e1.extBut _ _ D.l1z e
  cases hx : xs[k]? with
  | none =>
    refine wpAny_bind (enO hh j1 k1 hx fun g2 er e2 ⟨oe, hoe, hce⟩ => ?_)
    have z2 : IsZip g2 z TI TO .ellipsis := e2 _ _ D.i1z.symm z1
    have nz : er ≠ z := fun v => by subst v; rw [z2] at hoe; cases hoe; simp at hce
    refine wpAny_setField_rec z2 (by simp) fun g3 _ e3 => q g3 er (fun c o c1 _ c3 _ v => e3.extBut _ _ c1 (e2 _ _ c3 (e1.extBut _ _ c1 v))) ⟨oe, e3.extBut _ _ nz hoe, hce⟩
  | some x =>
    have hy : ys[k]? = none := by rcases hend with h | h; rw [hx] at h; cases h; exact h
    refine wpAny_bind (nxO j1 k1 hx fun g2 n1 e2 => wpAny_pure ?_)
    have t2 : IsPair g2 TO a b := e2.extBut _ _ D.TOi1 (e1.extBut _ _ D.TOz hTO)
    refine wpAny_bind (wpAny_seqItems t2 rfl (wpAny_bind (wpAny_updateSeq_pair t2 fun g3 t3 e3 => ?_)))
    refine wpAny_bind (wpAny_letGo (wpAny_pure ?_)); refine wpAny_bind (wpAny_bind (wpAny_onRaise ?_)); show wpAny _ _ (Builtin.SmallTypes.nextOf (.ref i2) >>= _) _ _ _
    refine wpAny_bind (enO hh (h2.to fun o e => e3.extBut _ _ D.TOi2.symm (e2.extBut _ _ D.i12.symm (e1.extBut _ _ D.i2z e))) (hl2.to fun o e => e3.extBut _ _ D.l2TO (e2.extBut _ _ D.l2i1 (e1.extBut _ _ D.l2z e))) hy fun g4 er e4 ⟨oe, hoe, hce⟩ => ?_)
    have z4 : IsZip g4 z TI TO .ellipsis := e4 _ _ D.i2z.symm (e3.extBut _ _ D.TOz.symm (e2.extBut _ _ D.i1z.symm z1))
    have nz : er ≠ z := fun v => by subst v; rw [z4] at hoe; cases hoe; simp at hce
    refine wpAny_setField_rec z4 (by simp) fun g5 _ e5 => q g5 er (fun c o c1 c2 c3 c4 v => e5.extBut _ _ c1 (e4 _ _ c4 (e3.extBut _ _ c2 (e2.extBut _ _ c3 (e1.extBut _ _ c1 v))))) ⟨oe, e5.extBut _ _ nz hoe, hce⟩
abbrev zh1 (b1 : Bool) (h : Heap) (l1 : Addr) : Heap := h.push { cls := .type (cnO b1), data := .fields #[.ref l1, .int 0 0] }
abbrev zh2 (b1 b2 : Bool) (h : Heap) (l1 l2 : Addr) : Heap := (zh1 b1 h l1).push { cls := .type (cnO b2), data := .fields #[.ref l2, .int 0 0] }
abbrev zh3 (b1 b2 : Bool) (h : Heap) (l1 l2 : Addr) : Heap := (zh2 b1 b2 h l1 l2).push { cls := .type "tuple", data := .seq #[.ref h.objs.size, .ref (zh1 b1 h l1).objs.size] }
abbrev zh4 (b1 b2 : Bool) (h : Heap) (l1 l2 : Addr) : Heap := (zh3 b1 b2 h l1 l2).push { cls := .type "tuple", data := .seq #[.none, .none] }
abbrev zh5 (b1 b2 : Bool) (h : Heap) (l1 l2 : Addr) : Heap := (zh4 b1 b2 h l1 l2).push { cls := .type "zip", data := .fields #[.none, .bool false, .bool false, .ref (zh2 b1 b2 h l1 l2).objs.size, .ref (zh3 b1 b2 h l1 l2).objs.size] }
theorem zpNew (b1 b2 : Bool) (l1 l2 : Addr) (xs ys : Array Value) : Meets (Builtin.«zip.__new__» ⟨[.type "zip", .ref l1, .ref l2], []⟩) (fun _ R s => SqO b1 s.heap l1 xs ∧ SqO b2 s.heap l2 ys ∧
    R (.ok (.ret (.ref (zh4 b1 b2 s.heap l1 l2).objs.size))) { s with heap := zh5 b1 b2 s.heap l1 l2 }) :=
  .of_wp fun prog w A R s h => by
    obtain ⟨hp, gg, d, tk, os⟩ := s
    obtain ⟨hl1, hl2, h⟩ := h
    have hsub := sub_zip
    have hL1 : SqO b1 (Shared.heap ⟨hp, gg, d, tk, os⟩) l1 xs := hl1
    have hL2 : SqO b2 (Shared.heap ⟨hp.push { cls := .type (cnO b1), data := .fields #[.ref l1, .int 0 0] }, gg, d, tk, os⟩) l2 ys := hl2.to fun o e => Heap.get?_push_of_some _ e
    wp_walk using newO hL1, newO hL2
    exact ⟨_, rfl, h⟩
theorem zpCall {b1 b2 : Bool} {l1 l2 : Addr} {xs ys : Array Value} {Q : Value → Shared → Prop} (hl1 : SqO b1 s.heap l1 xs) (hl2 : SqO b2 s.heap l2 ys)
    (q : ∀ g, Zp b1 b2 g (s.heap.objs.size + 4) (s.heap.objs.size + 2) (s.heap.objs.size + 3) s.heap.objs.size (s.heap.objs.size + 1) l1 l2 .none 0 → (∀ c o, s.heap.get? c = some o → g.get? c = some o) → Q (.ref (s.heap.objs.size + 4)) { s with heap := g }) :
    wpAny (model prog w) A (call (.type "zip") [.ref l1, .ref l2]) Q E s := by
  refine callType_new PySem.F.called_zip (by decide) (PySem.F.typeCall_zip_2 _ _) (PySem.F.newCall_zip_2 _ _) (fun obj => PySem.F.args_object_init_3 obj _ _) PySem.F.entry_zip_new (zpNew b1 b2 l1 l2 xs ys) ⟨hl1, hl2, ?_⟩
  have z1 : (zh1 b1 s.heap l1).objs.size = s.heap.objs.size + 1 := Heap.size_push ..
  have z2 : (zh2 b1 b2 s.heap l1 l2).objs.size = s.heap.objs.size + 2 := by rw [Heap.size_push, z1]
  have z3 : (zh3 b1 b2 s.heap l1 l2).objs.size = s.heap.objs.size + 3 := by rw [Heap.size_push, z2]
  have z4 : (zh4 b1 b2 s.heap l1 l2).objs.size = s.heap.objs.size + 4 := by rw [Heap.size_push, z3]
  have g5 : (zh5 b1 b2 s.heap l1 l2).get? (zh4 b1 b2 s.heap l1 l2).objs.size = some _ := Heap.get?_push_size _ rfl
  have g4 : (zh5 b1 b2 s.heap l1 l2).get? (zh3 b1 b2 s.heap l1 l2).objs.size = some _ := Heap.get?_push_of_some _ (Heap.get?_push_size _ rfl)
  have g3 : (zh5 b1 b2 s.heap l1 l2).get? (zh2 b1 b2 s.heap l1 l2).objs.size = some _ := Heap.get?_push_of_some _ (Heap.get?_push_of_some _ (Heap.get?_push_size _ rfl))
  have g2 : (zh5 b1 b2 s.heap l1 l2).get? (zh1 b1 s.heap l1).objs.size = some _ := Heap.get?_push_of_some _ (Heap.get?_push_of_some _ (Heap.get?_push_of_some _ (Heap.get?_push_size _ rfl)))
  have g1 : (zh5 b1 b2 s.heap l1 l2).get? s.heap.objs.size = some _ := Heap.get?_push_of_some _ (Heap.get?_push_of_some _ (Heap.get?_push_of_some _ (Heap.get?_push_of_some _ (Heap.get?_push_size _ rfl))))
  show _ ∧ _
  rw [z2, z3, z4] at g5
  rw [z1, z2] at g3
  rw [z3] at g4
  rw [z1] at g2
  rw [z4]
  refine ⟨⟨_, g5, rfl⟩, q _ ⟨g5, g3, ⟨_, _, g4⟩, ?_, ?_⟩ fun c o e => Heap.get?_push_of_some _ (Heap.get?_push_of_some _ (Heap.get?_push_of_some _ (Heap.get?_push_of_some _ (Heap.get?_push_of_some _ e))))⟩
  · cases b1 <;> exact ⟨_, g1, rfl, rfl⟩
  · cases b2 <;> exact ⟨_, g2, rfl, rfl⟩
end
section
variable {X : Cx} {pins : List (Addr × Obj)} {σ : St} {H : Hp} {s : Shared} {h' : Heap}
theorem Inv.turnedL {t' : Nat} {fp : List Addr} (I : Inv X pins σ H s) (k : ∀ b o, b ∉ fp → s.heap.get? b = some o → h'.get? b = some o) (hf : ∀ b ∈ fp, FpOk X pins H b) : Inv X pins σ H { s with heap := h', toks := t' } := by
  have nit : ∀ b u, H b = some u → b ∉ fp := fun b u e z => by rw [(hf b z).1] at e; cases e
  have hL : X.env.locals ∉ fp := fun z => (hf _ z).2.1 rfl
  refine I.step (g' := s.gens) (d' := s.drawn) (ch := fp) (fun b hb => ?_) (fun b o _ _ hc e _ => k b o hc e) (fun b o _ _ hc e _ => ⟨o.slots, k b o hc e⟩) (fun _ _ _ _ n => n)
    (fun b o hc e => ⟨o, k b o hc e⟩) (fun _ _ e => e) (fun _ _ _ e => e) (fun b ps e => ⟨#[], by rw [e]; simp⟩) (fun m hm => ?_) (fun b u e => ?_) I.bare
  · obtain ⟨f0, f1, f2, f3, f4, f5⟩ := hf b hb
    exact ⟨f3, f1, f4, f5⟩
  · obtain ⟨o, es, ep, ho, r⟩ := hm
    exact ⟨o, es, ep, k _ o hL ho, r⟩
  · refine (I.hok b u e).stay (fun c v hc q => k c v ?_ q) (fun _ q => q) fun _ _ q => q
    rcases hc with z | z
    · rw [z]; exact nit b u e
    · exact nit c _ z
end
def SqV (b : Bool) (K : PySem.W.Frag) (H : Hp) (a : Addr) (xs : List V) : Prop := match b with | true => SqL K H a xs | false => SqT K H a xs
theorem SqV.get {X : Cx} {pins : List (Addr × Obj)} {σ : St} {H : Hp} {s : Shared} {b : Bool} {a : Addr} {xs : List V} (I : Inv X pins σ H s) (h : SqV b X.K H a xs) : ∃ its : List Value, Vals xs its ∧ SqO b s.heap a its.toArray := by
  cases b
  · obtain ⟨its, r, p, _⟩ := I.tuple h; exact ⟨its, r, p⟩
  · obtain ⟨its, r, p, _⟩ := I.list h; exact ⟨its, r, p.isList⟩
theorem SqV.inj {X : Cx} {pins : List (Addr × Obj)} {σ : St} {H : Hp} {s : Shared} {b : Bool} {a : Addr} {xs ys : List V} (I : Inv X pins σ H s) (h : SqV b X.K H a xs) (g : SqV b X.K H a ys) : xs = ys := by
  cases b
  · exact I.tuple_inj h g
  · exact I.list_inj h g
/-- the pairs of two rows, as long as both last -/
def Itz (K : PySem.W.Frag) (b1 b2 : Bool) (l1 l2 : Addr) : It :=
  ⟨fun i H => ∃ xs ys x y, SqV b1 K H l1 xs ∧ SqV b2 K H l2 ys ∧ xs[i]? = some x ∧ ys[i]? = some y,
   fun i H v H' => ∃ T x y, v = .ref T ∧ (∀ xs, SqV b1 K H l1 xs → xs[i]? = some x) ∧ (∀ ys, SqV b2 K H l2 ys → ys[i]? = some y) ∧ Nw H H' T (.tup [x, y]),
   fun i H => ∃ xs ys, SqV b1 K H l1 xs ∧ SqV b2 K H l2 ys ∧ (xs.length ≤ i ∨ ys.length ≤ i)⟩
theorem turn_zip {P : Program} {w : World} {K : PySem.W.Frag} {elts : List Expr} {kt : Nat} {pos : Pos} {b1 b2 : Bool} {z TI TO i1 i2 l1 l2 : Addr} (D : ZipApart z TI TO i1 i2 l1 l2) :
    Turn P w K (.Tuple elts kt pos) (Itz K b1 b2 l1 l2) [z, TI, TO, i1, i2] z (fun i h => Zp b1 b2 h z TI TO i1 i2 l1 l2 .none i) where
  mem := by simp
  obj := fun i h st b hb => by
    obtain ⟨hz, hTI, ⟨a, c, hTO⟩, h1, h2⟩ := st
    simp only [List.mem_cons, List.not_mem_nil, or_false] at hb
    rcases hb with rfl | rfl | rfl | rfl | rfl
    · exact ⟨_, hz, fun v e => by cases e⟩
    · exact ⟨_, hTI, fun v e => by cases e⟩
    · exact ⟨_, hTO, fun v e => by cases e⟩
    · obtain ⟨o, e, _, n⟩ := h1.ob; exact ⟨o, e, n⟩
    · obtain ⟨o, e, _, n⟩ := h2.ob; exact ⟨o, e, n⟩
  keep := fun i h h' st k => by
    obtain ⟨hz, hTI, ⟨a, c, hTO⟩, h1, h2⟩ := st
    exact ⟨k z (by simp) _ hz, k TI (by simp) _ hTI, ⟨a, c, k TO (by simp) _ hTO⟩, h1.to fun o e => k i1 (by simp) o e, h2.to fun o e => k i2 (by simp) o e⟩
  item := by
    intro X hP hw hK hc i pins s σ H E I hf st hg
    subst hP hw hK
    obtain ⟨xs, ys, x, y, q1, q2, e1, e2⟩ := hg
    obtain ⟨its1, r1, p1⟩ := q1.get I
    obtain ⟨its2, r2, p2⟩ := q2.get I
    obtain ⟨u1, hu1, ru1⟩ := r1.get e1
    obtain ⟨u2, hu2, ru2⟩ := r2.get e2
    have hT : s.TypeIs (.ref z) "zip" := ⟨_, st.zz, rfl⟩
    unfold pyNext
    refine wpAny_bind (wpAny_attempt (wpAny_callSpecial?_slot (name := Str.ofString "__next__") hT PySem.F.slot_zip_next (wpAny_call_entry PySem.F.slot_zip_next hT PySem.F.entry_zip_next
      (zpItem D st p1 p2 (x := u1) (y := u2) (by simpa using hu1) (by simpa using hu2) fun g zg tg kp => wpAny_pure ?_) (PySem.F.args_zip_next_1 _))))
    refine ⟨_, rfl, ?_⟩
    refine wpAny_letOwnedTupleGo_zip zg.zz fun g' zz' sb => ?_
    have hs := sb.extBut
    have zlt : z < s.heap.objs.size := Heap.lt_size st.zz
    have nw : Nw H (upd H s.heap.objs.size (.tup [x, y])) s.heap.objs.size (.tup [x, y]) := .of (I.hok.fresh (Nat.le_refl _))
    have I1 : Inv X pins σ (upd H s.heap.objs.size (.tup [x, y])) { s with heap := s.heap.push { cls := .type "tuple", data := .seq #[u1, u2] } } :=
      I.laid (t' := s.toks) (fun b ob q => Heap.get?_push_of_some _ q) (Nat.le_refl _) ⟨by show 2 ≤ sizeLine; decide, [u1, u2], .cons ru1 (.cons ru2 .nil), ⟨_, Heap.get?_push_size _ rfl, rfl, _, rfl⟩⟩
    have lts : ∀ b ∈ [z, TI, TO, i1, i2], b < s.heap.objs.size := fun b hb => by
      simp only [List.mem_cons, List.not_mem_nil, or_false] at hb
      obtain ⟨hz, hTI, ⟨a, c, hTO⟩, h1, h2⟩ := st
      rcases hb with rfl | rfl | rfl | rfl | rfl
      · exact Heap.lt_size hz
      · exact Heap.lt_size hTI
      · exact Heap.lt_size hTO
      · obtain ⟨o, e, _⟩ := h1.ob; exact Heap.lt_size e
      · obtain ⟨o, e, _⟩ := h2.ob; exact Heap.lt_size e
    have hn : ∀ b ∈ [z, TI, TO, i1, i2], upd H s.heap.objs.size (.tup [x, y]) b = none := fun b hb => by
      rw [upd_ne (Nat.ne_of_lt (lts b hb))]; exact (hf b hb).1
    have I2 : Inv X pins σ (upd H s.heap.objs.size (.tup [x, y])) { s with heap := g' } := Inv.turnedL (s := { s with heap := s.heap.push { cls := .type "tuple", data := .seq #[u1, u2] } }) (t' := s.toks) (fp := [z, TI, TO, i1, i2]) I1 (fun b o hb e => by
      have e : (s.heap.push { cls := .type "tuple", data := .seq #[u1, u2] }).get? b = some o := e
      have nz : b ≠ z := fun q => hb (by simp [q])
      rcases Heap.get?_push_cases e with ⟨hbT, rfl⟩ | e'
      · subst hbT
        exact hs _ _ nz tg
      · exact hs _ _ nz (kp b o nz (fun q => hb (by simp [q])) (fun q => hb (by simp [q])) (fun q => hb (by simp [q])) e')) (fun b hb => by
        obtain ⟨f0, f1, f2, f3, f4, f5⟩ := hf b hb
        exact ⟨hn b hb, f1, f2, f3, f4, f5⟩)
    refine ⟨.ref s.heap.objs.size, _, I2, rfl, ⟨s.heap.objs.size, x, y, rfl, fun zs hz => ?_, fun zs hz => ?_, nw⟩, ?_, hn⟩
    · rw [SqV.inj I hz q1]; exact e1
    · rw [SqV.inj I hz q2]; exact e2
    · obtain ⟨_, hTI, ⟨a, c, hTO⟩, h1, h2⟩ := zg
      exact ⟨zz', hs _ _ D.TIz hTI, ⟨a, c, hs _ _ D.TOz hTO⟩, h1.to fun o e => hs _ o D.i1z e, h2.to fun o e => hs _ o D.i2z e⟩
  done := by
    intro X hP hw hK hc i pins s σ H E I hf st hg
    subst hP hw hK
    obtain ⟨xs, ys, q1, q2, hend⟩ := hg
    obtain ⟨its1, r1, p1⟩ := q1.get I
    obtain ⟨its2, r2, p2⟩ := q2.get I
    have hT : s.TypeIs (.ref z) "zip" := ⟨_, st.zz, rfl⟩
    have l1 := r1.length
    have l2 := r2.length
    unfold pyNext
    refine wpAny_bind (wpAny_attempt (wpAny_callSpecial?_slot (name := Str.ofString "__next__") hT PySem.F.slot_zip_next (wpAny_call_entry PySem.F.slot_zip_next hT PySem.F.entry_zip_next
      (zpEnd (I.ok.hd hc) D st p1 p2 (hend.imp (fun h => by simp; omega) fun h => by simp; omega) fun g e kp he => ?_) (PySem.F.args_zip_next_1 _))))
    obtain ⟨o, ho, hcl⟩ := he
    refine wpAny_bind (wpAny_isInstance (T := "StopIteration") (b := true) ⟨o, ho, hcl⟩ isSubtype_stop (wpAny_pure ⟨rfl, ?_⟩))
    exact I.turnedL (t' := s.toks) (fp := [z, TI, TO, i1, i2]) (fun b o hb e => kp b o (fun q => hb (by simp [q])) (fun q => hb (by simp [q])) (fun q => hb (by simp [q])) (fun q => hb (by simp [q])) e) hf
  self := fun _ _ _ _ _ st h => wpAny_pyIter_zip st.zz h
def iZip (K : PySem.W.Frag) (b1 b2 : Bool) (ta : TA) : TI := fun σ H R => ta σ H fun vs H1 => ∃ l1 l2, vs = [.ref l1, .ref l2] ∧ (∃ xs, SqV b1 K H1 l1 xs) ∧ (∃ ys, SqV b2 K H1 l2 ys) ∧ R (Itz K b1 b2 l1 l2) H1
theorem pi_zip (K : PySem.W.Frag) {X : Cx} (hK : X.K = K) (b1 b2 : Bool) {elts : List Expr} {kt : Nat} {tpos : Pos} {a b : Expr} {ta : TA} {p pos : Pos} (hg : Gl X "zip") (hm : X.mg "zip" = none) (ha : PA X [a, b] ta) (hs : starEach [a, b] X.env = [(false, eval a X.env), (false, eval b X.env)] := by rfl) (hs2 : starEach [b] X.env = [(false, eval b X.env)] := by rfl) :
    PI X (.Tuple elts kt tpos) (.Call (.Name "zip" p) [a, b] [] pos) (iZip K b1 b2 ta) := by
  subst hK
  intro pins s σ H R I h
  refine Call_ (ld_blt I hg hm PyProof.Rows.boot_zip (PyProof.Rows.callWith_type1 (thn (ha pos pins s σ H _ I h) fun us s1 ⟨vs, H1, I1, r1, q1⟩ => ?_) (by rw [hs, hs2]) (by rw [hs2]; rfl)))
  obtain ⟨l1, l2, e, ⟨xs, h1⟩, ⟨ys, h2⟩, q⟩ := q1
  subst e
  obtain ⟨u1, u2, rfl, ru1, ru2⟩ := vals2 r1
  cases (show u1 = Value.ref l1 from ru1)
  cases (show u2 = Value.ref l2 from ru2)
  obtain ⟨its1, v1, p1⟩ := h1.get I1
  obtain ⟨its2, v2, p2⟩ := h2.get I1
  have a1 : l1 < s1.heap.objs.size := by cases b1 <;> (obtain ⟨o, e, _⟩ := p1; exact Heap.lt_size e)
  have a2 : l2 < s1.heap.objs.size := by cases b2 <;> (obtain ⟨o, e, _⟩ := p2; exact Heap.lt_size e)
  refine zpCall p1 p2 fun g zg kp => wpAny_pyIter_zip zg.zz ?_
  refine ⟨_, _, _, _, H1, rfl, I1.kept (t' := s1.toks) kp, turn_zip (zipApart_new a1 a2), zg, fun c hc => ?_, q⟩
  have hle : s1.heap.objs.size ≤ c := by
    simp only [List.mem_cons, List.not_mem_nil, or_false] at hc
    rcases hc with rfl | rfl | rfl | rfl | rfl <;> first | exact Nat.le_refl _ | exact Nat.le_add_right _ _
  exact I1.fpOk hle (I1.hok.fresh hle)
end L2


set_option Elab.async false
set_option linter.all false
set_option maxRecDepth 100000
namespace L2
open PySem PySem.Spec PyProof.Rows
theorem SqV.go {b : Bool} {K : PySem.W.Frag} {H H' : Hp} {a : Addr} {xs : List V} (s : Same H H') (h : SqV b K H a xs) : SqV b K H' a xs := by
  cases b
  · exact SqT.go s h
  · exact SqL.go s h
end L2


set_option Elab.async false
set_option linter.all false
set_option maxRecDepth 100000
namespace L2
open PySem PySem.Spec PyProof.Rows
theorem ObjOk.there {P : Program} {w : World} {H : Hp} {h : Heap} {a : Addr} {o : HO} (x : ObjOk P w H h a o) : ∃ ob, h.get? a = some ob := by
  induction o with
  | lst xs => obtain ⟨_, _, _, _, e⟩ := x; exact ⟨_, e⟩
  | tup xs => obtain ⟨_, _, _, ob, e, _⟩ := x; exact ⟨ob, e⟩
  | dK kvs => obtain ⟨_, _, _, _, ob, _, _, e, _⟩ := x; exact ⟨ob, e⟩
  | dT kvs => obtain ⟨_, _, _, _, ob, _, _, e, _⟩ := x; exact ⟨ob, e⟩
  | set S n => obtain ⟨ob, _, _, _, e, _⟩ := x; exact ⟨ob, e⟩
  | ins C dx fs => obtain ⟨_, _, _, e, _⟩ := x; exact ⟨_, e⟩
  | own y => exact x
  | xd fs => obtain ⟨_, ⟨ob, _, _, e, _⟩, _⟩ := x; exact ⟨ob, e⟩
  | rng lo hi => obtain ⟨_, _, _, e⟩ := x; exact ⟨_, e⟩
  | frz ob u => exact ⟨_, x.1⟩
  | tbl ps => exact ⟨_, x⟩
  | met f y => exact ⟨_, x⟩
  | ext φ => exact x.2.1
/-! ### an exception on its way -/
/-- all but the frames and the exception's own records is as it was; B is that part -/
structure Fl (P : Program) (w : World) (outer : List Env) (H : Hp) (h₁ : Heap) (ex : Addr) (H' : Hp) (B h : Heap) : Prop where
  un : Un (frs outer) [] H H' h₁ h
  hok : HOk P w H' h
  k1 : ∀ b o, h₁.get? b = some o → H b = none → b ∉ frs outer → B.get? b = some o
  k2 : ∀ b o, H' b = some o → ∃ ob, B.get? b = some ob
  k3 : ∀ b o, h₁.get? b = some o → b ∉ frs outer → ∃ ob, B.get? b = some ob
  fr : ∀ b ∈ frs outer, H' b = none
  nw : h₁.get? ex = none
  ne : H' ex = none
theorem Fl.step {P : Program} {w : World} {outer : List Env} {H H' : Hp} {h₁ B h h' : Heap} {ex : Addr} {base : Heap} (F : Fl P w outer H h₁ ex H' B h) (st : B.StaysIn h) (st' : B.StaysIn h') (up : h.UpToSlots h') (ff : h.FunFrames base outer) : Fl P w outer H h₁ ex H' B h' := by
  have slot : ∀ b o, h₁.get? b = some o → H b = none → b ∈ frs outer → ∃ sl, h'.get? b = some { o with slots := sl } := fun b o e n hb => by
    obtain ⟨sl, e1⟩ := F.un.slot b o e n hb (by simp)
    obtain ⟨_, o2, e2, hd⟩ := ff.mem hb
    rw [e1] at e2
    cases e2
    obtain ⟨sl', e3⟩ := up b _ e1 (fun vs => hd vs)
    exact ⟨sl', e3⟩
  refine ⟨⟨fun b o e n hb _ => st' b o (F.k1 b o e n hb), fun b o e n hb _ => slot b o e n hb, F.un.free, fun b o e hx => ?_, F.un.tups, F.un.frzs, F.un.tbls⟩, fun b u e => ?_, F.k1, F.k2, F.k3, F.fr, F.nw, F.ne⟩
  · by_cases hb : b ∈ frs outer
    · obtain ⟨_, o2, e2, hd⟩ := ff.mem hb
      obtain ⟨sl, e3⟩ := up b o2 e2 hd
      exact ⟨_, e3⟩
    · obtain ⟨ob, e1⟩ := F.k3 b o e hb
      exact ⟨ob, st' b ob e1⟩
  · refine (F.hok b u e).stay (fun c v hc q => ?_) (fun _ q => q) fun _ _ q => q
    have inB : ∃ ob, B.get? c = some ob := by
      rcases hc with z | z
      · rw [z]; exact F.k2 b u e
      · exact F.k2 c _ z
    obtain ⟨ob, e1⟩ := inB
    have e2 := st c ob e1
    rw [q] at e2
    cases e2
    exact st' c _ e1
section
variable {P : Program} {w : World} {K : PySem.W.Frag} {mg : Str → Option Value} {base : Heap} {N : List Str} {qual : Str} {scope : Scope} {f : Addr} {cd : Value} {A : Around} {outer : List Env} {s : Shared} {H : Hp} {E : XK} {pins : List (Addr × Obj)} {σ : St} {H1 : Hp} {s1 : Shared} {h2 : Heap} {ex : Addr} {cls : Value} {vs : List Value}
end
/-! ### an own exception class without methods -/
structure Exc (K : PySem.W.Frag) (mg : Str → Option Value) (x : Str) (C : Addr) (bmB : List Value) (newId : String) : Prop where
  at' : mg x = some (.ref C)
  ok : PySem.W.excIn K C bmB newId = true
theorem Exc.own {K : PySem.W.Frag} {mg : Str → Option Value} {x : Str} {C : Addr} {bmB : List Value} {newId : String} {h : Heap} (e : Exc K mg x C bmB newId) (X : K.In h) : OwnCls x C bmB newId mg h := by
  refine ⟨e.at', ?_⟩
  have q := e.ok
  unfold PySem.W.excIn at q
  split at q
  · rename_i dd cd sl ho
    split at q
    · rename_i D2 bl a0 a1 a2 a3 nn a5 hm hs
      simp only [beq_iff_eq, Bool.and_eq_true, Bool.not_eq_true'] at q
      obtain ⟨⟨⟨⟨⟨r1, r2⟩, hdel⟩, ht⟩, hok⟩, hni⟩ := q
      subst r1 r2
      obtain ⟨c1, c2, c3, c4, c5, c6, c7, c8, c9, c10, c11⟩ := cd
      dsimp only at hm hdel hok hni; subst hm hdel
      obtain ⟨l⟩ := sl
      simp only at hs; subst hs
      exact ⟨bl, c4, c1, c5, c2, c6, c7, c8, c9, c10, dd, a0, a1, a2, a3, a5, _, X _ _ ho, .of_isNs (PySem.W.isNs_of_in X hok), PySem.W.nsMap_none_of_in X hok hni, PySem.W.tail_of_in X ht⟩
    · cases q
  · cases q
section
variable {X : Cx} {x : Str} {C : Addr} {bmB : List Value} {newId initId B : String} {e : Expr} {t : TA} {np cpos pos : Pos}
end
end L2


set_option Elab.async false
set_option linter.all false
set_option maxRecDepth 100000
namespace L2
open PySem PySem.Spec PyProof.Rows
/-! ### the class of a handler -/
section
variable {M : Model} {A : Around} {Ex : Value → Shared → Prop}
end
/-! ### a def that may raise -/
section
variable {X : Cx} {k : Nat} {x : Str} {p pos : Pos} {e : Expr} {es : List Expr} {t : TA} {sp : Sp}
end
/-! ### try, with one clause that takes it -/
abbrev Cx.hand (X : Cx) (ex : Addr) : Cx := { X with A := X.A.mark (some (.ref ex)), calm := false, xe := fun _ _ => False }
section
variable {X : Cx} {pins : List (Addr × Obj)} {σ : St} {H : Hp} {s : Shared}
theorem Inv.hand (I : Inv X pins σ H s) (ex : Addr) : Inv (X.hand ex) pins σ H s :=
  ⟨⟨I.ok.mod, I.ok.kind, I.ok.glob, I.ok.blt, I.ok.above, I.ok.inj, I.ok.has, I.ok.cab, fun h => (Bool.false_ne_true h).elim, I.ok.frames, I.ok.stk, I.ok.exf, I.ok.bs, I.ok.bsz, I.ok.noex, I.ok.exfs, I.ok.funs, I.ok.frf⟩,
    I.os, I.bare, I.base, I.loc, I.cell, I.free, I.freeC, I.pin, I.hok, I.len⟩
end
/-! ### a def's own statements, nothing pinned -/
def PSs0 (X : Cx) (st : List Stmt) (t : TS) : Prop := ∀ (s : Shared) (σ : St) (H : Hp) (D : Ends), Inv X [] σ H s → t D σ H → wpAny (model X.prog X.w) X.A (execs st X.env) (SP X [] D) X.xe s
def PS0 (X : Cx) (st : Stmt) (t : TS) : Prop := ∀ (s : Shared) (σ : St) (H : Hp) (D : Ends), Inv X [] σ H s → t D σ H → wpAny (model X.prog X.w) X.A (exec st X.env) (SP X [] D) X.xe s
theorem PSs0.one {X : Cx} {st : Stmt} {t : TS} (h : PS0 X st t) : PSs0 X [st] t := by
  intro s σ H D I q
  refine wpAny_execs_cons (thn (h s σ H D I q) fun f s1 q => ?_)
  cases f with
  | next => exact wpAny_execs_nil q
  | ret v => exact q
  | brk => exact q
  | cont => exact q
/-- class C is one that a clause for D takes -/
def takes (K : PySem.W.Frag) (C D : Addr) : Prop := PySem.W.mroIn K C (.ref D) = some true
section
variable {X : Cx} {i : Nat} {n y : Str} {Dc : Addr} {bmD : List Value} {newD : String} {body suite : List Stmt} {b0 : Stmt} {np hpos pos : Pos} {tb : XK → TS} {th : TS} {Cs : Addr → Prop}
end
end L2


set_option Elab.async false
set_option linter.all false
set_option maxRecDepth 100000
namespace L2
open PySem PySem.Spec PyProof.Rows PySem.W Builtin.Getset_descriptor
section
variable {prog : Program} {w : World} {A : Around} {E : Value → Shared → Prop} {h : Heap} {g : Array GenState} {d : Drawn} {t : Nat} {os : OsState} {K : Frag} {x C : Addr} {o : Obj}
end
end L2


set_option Elab.async false
set_option linter.all false
set_option maxRecDepth 100000
namespace L2
open PySem PySem.Spec PyProof.Rows
/-! ### isinstance of an exception, by own classes and built-in ones -/
section
variable {X : Cx}
end
end L2
namespace L2
open PySem PySem.Spec PyProof.Rows
end L2
namespace L2
open PySem PySem.Spec PyProof.Rows
end L2


namespace Ar
theorem gcd_fm (a b : Int) : Int.gcd b (a.fmod b) = Int.gcd a b := by
  rw [Int.fmod_def, Int.gcd_sub_mul_left_right, Int.gcd_comm]
theorem gcd_em {a b : Int} (h : 0 < b) : Int.gcd b (a % b) = Int.gcd a b := by
  rw [← Int.fmod_eq_emod_of_nonneg a (Int.le_of_lt h)]; exact gcd_fm a b
def sg (p q : Int) : Int := if q < 0 then -(Int.gcd p q : Int) else (Int.gcd p q : Int)
def lowP (p q : Int) : Int := p.fdiv (sg p q)
def lowQ (p q : Int) : Int := q.fdiv (sg p q)
theorem gcd_pos {p q : Int} (h : q ≠ 0) : 0 < (Int.gcd p q : Int) := by
  have : Int.gcd p q ≠ 0 := fun z => h (Int.gcd_eq_zero_iff.mp z).2
  omega
theorem sg_ne {p q : Int} (h : q ≠ 0) : sg p q ≠ 0 := by
  have := gcd_pos (p := p) h
  unfold sg; split <;> omega
theorem sg_dvd_left (p q : Int) : sg p q ∣ p := by
  unfold sg; split
  · exact Int.neg_dvd.mpr (Int.gcd_dvd_left p q)
  · exact Int.gcd_dvd_left p q
theorem sg_dvd_right (p q : Int) : sg p q ∣ q := by
  unfold sg; split
  · exact Int.neg_dvd.mpr (Int.gcd_dvd_right p q)
  · exact Int.gcd_dvd_right p q
theorem lowP_mul (p q : Int) : sg p q * lowP p q = p := by
  unfold lowP; rw [Int.fdiv_eq_ediv_of_dvd (sg_dvd_left p q)]; exact Int.mul_ediv_cancel' (sg_dvd_left p q)
theorem lowQ_mul (p q : Int) : sg p q * lowQ p q = q := by
  unfold lowQ; rw [Int.fdiv_eq_ediv_of_dvd (sg_dvd_right p q)]; exact Int.mul_ediv_cancel' (sg_dvd_right p q)
theorem sg_abs (p q : Int) : (sg p q).natAbs = Int.gcd p q := by unfold sg; split <;> omega
theorem low_cop {p q : Int} (h : q ≠ 0) : Int.gcd (lowP p q) (lowQ p q) = 1 := by
  have e : Int.gcd (sg p q * lowP p q) (sg p q * lowQ p q) = (sg p q).natAbs * Int.gcd (lowP p q) (lowQ p q) := Int.gcd_mul_left _ _ _
  rw [lowP_mul, lowQ_mul, sg_abs] at e
  have g := gcd_pos (p := p) h
  have g' : 0 < Int.gcd p q := by omega
  have e' : Int.gcd p q * 1 = Int.gcd p q * Int.gcd (lowP p q) (lowQ p q) := by omega
  exact (Nat.eq_of_mul_eq_mul_left g' e').symm
theorem lowQ_pos {p q : Int} (h : q ≠ 0) : 0 < lowQ p q := by
  have e := lowQ_mul p q
  have g := gcd_pos (p := p) h
  by_cases hq : q < 0
  · have es : sg p q = -(Int.gcd p q : Int) := by unfold sg; rw [if_pos hq]
    rw [es] at e
    refine Int.not_le.mp fun hl => ?_
    have : 0 ≤ -(Int.gcd p q : Int) * lowQ p q := Int.mul_nonneg_of_nonpos_of_nonpos (by omega) hl
    omega
  · have es : sg p q = (Int.gcd p q : Int) := by unfold sg; rw [if_neg hq]
    rw [es] at e
    refine Int.not_le.mp fun hl => ?_
    have : (Int.gcd p q : Int) * lowQ p q ≤ 0 := Int.mul_nonpos_of_nonneg_of_nonpos (by omega) hl
    omega
theorem abs_le_of_mul {s x y : Int} (hs : s ≠ 0) (e : s * x = y) : x.natAbs ≤ y.natAbs := by
  rw [← e, Int.natAbs_mul]
  exact Nat.le_mul_of_pos_left _ (by omega)
theorem lowP_le {p q : Int} (h : q ≠ 0) : (lowP p q).natAbs ≤ p.natAbs := abs_le_of_mul (sg_ne h) (lowP_mul p q)
theorem lowQ_le {p q : Int} (h : q ≠ 0) : (lowQ p q).natAbs ≤ q.natAbs := abs_le_of_mul (sg_ne h) (lowQ_mul p q)
theorem sg_le {p q : Int} (h : q ≠ 0) : (sg p q).natAbs ≤ q.natAbs := by
  rw [sg_abs]
  exact Nat.le_of_dvd (by omega) (Int.gcd_dvd_natAbs_right p q)
end Ar


namespace Rt
open Rat
/-- lowest terms, by the rationals -/
theorem low_rat {a b : Int} (hb : b ≠ 0) : Ar.lowP a b = (Rat.divInt a b).num ∧ Ar.lowQ a b = ((Rat.divInt a b).den : Int) := by
  have hp := Ar.lowQ_pos (p := a) hb
  have hc := Ar.low_cop (p := a) hb
  have hden : (Ar.lowQ a b).natAbs ≠ 0 := by omega
  have hcop : (Ar.lowP a b).natAbs.Coprime (Ar.lowQ a b).natAbs := hc
  have e1 : Rat.divInt a b = Rat.divInt (Ar.lowP a b) (Ar.lowQ a b) := by
    have h := Rat.divInt_mul_left (a := Ar.sg a b) (n := Ar.lowP a b) (d := Ar.lowQ a b) (Ar.sg_ne hb)
    rw [Ar.lowP_mul, Ar.lowQ_mul] at h
    exact h
  have e2 : (⟨Ar.lowP a b, (Ar.lowQ a b).natAbs, hden, hcop⟩ : Rat) = Rat.divInt (Ar.lowP a b) (((Ar.lowQ a b).natAbs : Nat) : Int) := Rat.mk_eq_divInt
  have e3 : (((Ar.lowQ a b).natAbs : Nat) : Int) = Ar.lowQ a b := by omega
  rw [e3] at e2
  rw [e1, ← e2]
  exact ⟨rfl, e3.symm⟩
theorem den_pos (r : Rat) : (0 : Int) < (r.den : Int) := by have := r.den_pos; omega
theorem cop (r : Rat) : Int.gcd r.num r.den = 1 := by
  have := r.reduced
  simpa [Int.gcd, Nat.Coprime] using this
/-- bounds -/
structure Bd (n : Nat) (r : Rat) : Prop where
  num : r.num.natAbs < 2 ^ n
  den : r.den < 2 ^ n
theorem Bd.mono {n m : Nat} {r : Rat} (h : Bd n r) (l : n ≤ m) : Bd m r := ⟨Nat.lt_of_lt_of_le h.num (Nat.pow_le_pow_right (by decide) l), Nat.lt_of_lt_of_le h.den (Nat.pow_le_pow_right (by decide) l)⟩
theorem mul_lt {a b n m : Nat} (h : a < 2 ^ n) (g : b < 2 ^ m) : a * b < 2 ^ (n + m) := by
  rw [Nat.pow_add]; exact Nat.mul_lt_mul'' h g
theorem of_div {n : Nat} {a b : Int} (hb : b ≠ 0) (h1 : a.natAbs < 2 ^ n) (h2 : b.natAbs < 2 ^ n) : Bd n (Rat.divInt a b) := by
  obtain ⟨e1, e2⟩ := low_rat (a := a) hb
  have l1 := Ar.lowP_le (p := a) hb
  have l2 := Ar.lowQ_le (p := a) hb
  refine ⟨?_, ?_⟩
  · rw [← e1]; omega
  · omega
theorem ddne (r s : Rat) : (r.den : Int) * (s.den : Int) ≠ 0 := Int.ne_of_gt (Int.mul_pos (den_pos r) (den_pos s))
theorem add_div (r s : Rat) : r + s = Rat.divInt (r.num * s.den + s.num * r.den) (r.den * s.den) := by
  have h := Rat.divInt_add_divInt r.num s.num (d₁ := r.den) (d₂ := s.den) (by have := den_pos r; omega) (by have := den_pos s; omega)
  rw [Rat.num_divInt_den, Rat.num_divInt_den] at h
  exact h
theorem sub_div (r s : Rat) : r - s = Rat.divInt (r.num * s.den - s.num * r.den) (r.den * s.den) := by
  have h := Rat.divInt_sub_divInt r.num s.num (d₁ := r.den) (d₂ := s.den) (by have := den_pos r; omega) (by have := den_pos s; omega)
  rw [Rat.num_divInt_den, Rat.num_divInt_den] at h
  exact h
section
variable {n m : Nat} {r s : Rat}
theorem cross_lt (h : Bd n r) (g : Bd m s) : (r.num * s.den).natAbs < 2 ^ (n + m) := by rw [Int.natAbs_mul]; exact mul_lt h.num (by have := g.den; omega)
theorem cross_lt' (h : Bd n r) (g : Bd m s) : (s.num * r.den).natAbs < 2 ^ (n + m) := by rw [Int.natAbs_mul, Nat.mul_comm]; exact mul_lt (by have := h.den; omega) g.num
theorem den_lt (h : Bd n r) (g : Bd m s) : ((r.den : Int) * (s.den : Int)).natAbs < 2 ^ (n + m) := by rw [Int.natAbs_mul]; exact mul_lt (by have := h.den; omega) (by have := g.den; omega)
theorem Bd.add (h : Bd n r) (g : Bd m s) : Bd (n + m + 1) (r + s) := by
  rw [add_div]
  have h1 := cross_lt h g
  have h2 := cross_lt' h g
  have h3 := den_lt h g
  have e : 2 ^ (n + m + 1) = 2 ^ (n + m) + 2 ^ (n + m) := by rw [Nat.pow_succ]; omega
  exact of_div (ddne r s) (by omega) (by omega)
end
end Rt


set_option Elab.async false
set_option linter.all false
set_option maxRecDepth 100000
namespace L2
open PySem PySem.Spec PyProof.Rows

/-! ### whatever is no list stays -/
def SameT (H H' : Hp) : Prop := ∀ b o, (∀ xs, o ≠ .lst xs) → H b = some o → H' b = some o
section
variable {K : PySem.W.Frag} {H H' H2 : Hp}
theorem Same.t (s : Same H H') : SameT H H' := fun b o _ e => s b o e
theorem SameT.refl : SameT H H := fun _ _ _ e => e
theorem SameT.trans (a : SameT H H') (b : SameT H' H2) : SameT H H2 := fun c o n e => b c o n (a c o n e)
theorem SameT.updL {D : Addr} {xs ys : List V} (h : H D = some (.lst xs)) : SameT H (upd H D (.lst ys)) := fun b o n e => by
  rw [upd_ne (ne_of e h (n xs))]; exact e
theorem SqT.t {a : Addr} {xs : List V} (s : SameT H H') (h : SqT K H a xs) : SqT K H' a xs :=
  h.imp (fun r => r.imp (s _ _ fun _ z => nomatch z) fun ⟨o, e⟩ => ⟨o, s _ _ (fun _ z => nomatch z) e⟩) id
mutual
/-- no list in it -/
def noL : PyData → Bool
  | .list _ => false
  | .dict _ => false
  | .tuple ds => noLs ds
  | .none => true
  | .bool _ => true
  | .int _ => true
  | .str _ => true
def noLs : List PyData → Bool
  | [] => true
  | d :: ds => noL d && noLs ds
end
theorem noLs_mem : ∀ {ds : List PyData}, noLs ds = true ↔ ∀ d ∈ ds, noL d = true
  | [] => ⟨fun _ _ h => (nomatch h), fun _ => by simp [noLs]⟩
  | d :: ds => by
    rw [noLs, Bool.and_eq_true, noLs_mem (ds := ds)]
    constructor
    · rintro ⟨a, b⟩ x hx
      rcases List.mem_cons.mp hx with rfl | hx
      · exact a
      · exact b x hx
    · intro h
      exact ⟨h d (.head _), fun x hx => h x (.tail _ hx)⟩
theorem noLs_ints (ns : List Int) : noLs (ns.map PyData.int) = true := noLs_mem.mpr fun d hd => by
  obtain ⟨i, _, rfl⟩ := List.mem_map.mp hd
  simp [noL]
mutual
theorem RD.t (s : SameT H H') : ∀ {x : V} (d : PyData), noL d = true → RD K H x d → RD K H' x d
  | x, .none, _, h => by simpa [RD] using h
  | x, .bool b, _, h => by simpa [RD] using h
  | x, .int i, _, h => by simpa [RD] using h
  | x, .str y, _, h => by simpa [RD] using h
  | x, .list ds, n, h => by simp [noL] at n
  | x, .tuple ds, n, h => by
    rw [RD] at h ⊢
    obtain ⟨a, xs, e, h1, h2⟩ := h
    exact ⟨a, xs, e, h1.t s, RDs.t s ds (by simpa [noL] using n) h2⟩
  | x, .dict _, _, h => by simp [RD] at h
theorem RDs.t (s : SameT H H') : ∀ {xs : List V} (ds : List PyData), noLs ds = true → RDs K H xs ds → RDs K H' xs ds
  | xs, [], _, h => by simpa [RDs] using h
  | xs, d :: ds, n, h => by
    rw [RDs] at h ⊢
    rw [noLs, Bool.and_eq_true] at n
    obtain ⟨y, ys, e, h1, h2⟩ := h
    exact ⟨y, ys, e, RD.t s d n.1 h1, RDs.t s ds n.2 h2⟩
end
theorem RDs.ints_inv : ∀ {xs : List V} {ns : List Int}, RDs K H xs (ns.map PyData.int) → xs = ns.map V.int
  | xs, [], h => h.nil_inv
  | xs, n :: ns, h => by
    obtain ⟨y, ys, rfl, h1, h2⟩ := h.cons_inv
    rw [h1.int_inv, RDs.ints_inv h2]; rfl
theorem rds_ints : ∀ (ns : List Int), RDs K H (ns.map V.int) (ns.map PyData.int)
  | [] => rds_nil
  | n :: ns => rds_cons (rd_int n) (rds_ints ns)
/-! ### comprehensions, of data -/
theorem comp_rd {J : It} {xs : List V} {ds : List PyData} {te : TE} {Q : VK} {D : Addr} {H0 : Hp} (rest : St) (nw : Nw H H0 D (.lst [])) (hl : xs.length = ds.length) (hz : xs.length ≤ 1000) (hn : noLs ds = true)
    (go : ∀ i x H2, xs[i]? = some x → Same H H2 → J.go i H2 ∧ ∀ y H3, J.yld i H2 y H3 → H3 = H2 ∧ y = x) (stop : ∀ H2, Same H H2 → J.stop xs.length H2)
    (hs : ∀ (i : Nat) (x : V) (d : PyData) (H2 : Hp) (Q' : VK), xs[i]? = some x → ds[i]? = some d → Same H H2 → (∀ y H3, Same H2 H3 → RD K H3 y d → Q' y H3) → te (some x :: rest) H2 Q')
    (hq : ∀ H' ys, Same H H' → H' D = some (.lst ys) → RDs K H' ys ds → Q (.ref D) H') : CompW J (gName 0) tYes te Q D (none :: rest) H0 := by
  have hD := nw.no
  refine comp_by xs.length (fun i σ H2 => Same H H2 ∧ (∃ ys, H2 D = some (.lst ys) ∧ RDs K H2 ys (ds.take i)) ∧ ∃ v, σ = v :: rest) ?_ ?_ ?_
  · exact ⟨nw.same, ⟨[], nw.at', rds_nil⟩, none, rfl⟩
  · rintro i σ H2 hi ⟨s2, ⟨ys, d2, r2⟩, v, rfl⟩
    have hib : i < ds.length := by rw [← hl]; exact hi
    have ex := List.getElem?_eq_getElem hi
    have eb := List.getElem?_eq_getElem hib
    obtain ⟨g1, g2⟩ := go i _ H2 ex s2
    refine ⟨g1, fun y H3 hy => ?_⟩
    obtain ⟨rfl, rfl⟩ := g2 y H3 hy
    refine yesN ?_
    refine hs i _ _ _ _ ex eb s2 fun z H4 s4 r4 => ?_
    have d4 := s4 _ _ d2
    have len := r2.length
    rw [List.length_take] at len
    refine ⟨ys, d4, ?_, xs.length - (i + 1), by omega, rfl, by omega, fun b o e => ?_, ⟨ys ++ [z], upd_same, ?_⟩, _, rfl⟩
    · have : (1000 : Nat) < sizeLine := by decide
      omega
    · rw [upd_ne (ne_of_none e hD)]; exact s4 b o (s2 b o e)
    · have t : SameT H4 (upd H4 D (.lst (ys ++ [z]))) := .updL d4
      rw [List.take_succ, eb]
      have n1 : noLs (ds.take i) = true := noLs_mem.mpr fun d hd => noLs_mem.mp hn d (List.mem_of_mem_take hd)
      exact (RDs.t t _ n1 (RDs.mono s4 _ r2)).append (rds_cons (RD.t t _ (noLs_mem.mp hn _ (List.getElem_mem hib)) r4) rds_nil)
  · rintro σ H2 ⟨s2, ⟨ys, d2, r2⟩, v, rfl⟩
    refine ⟨stop H2 s2, hq H2 ys s2 d2 ?_⟩
    rw [hl, List.take_length] at r2
    exact r2
theorem comp_rdT {a : Addr} {xs : List V} {ds : List PyData} {te : TE} {Q : VK} {D : Addr} {H0 : Hp} (rest : St) (hx : SqT K H a xs) (nw : Nw H H0 D (.lst [])) (hl : xs.length = ds.length) (hz : xs.length ≤ 1000) (hn : noLs ds = true)
    (hs : ∀ (i : Nat) (x : V) (d : PyData) (H2 : Hp) (Q' : VK), xs[i]? = some x → ds[i]? = some d → Same H H2 → (∀ y H3, Same H2 H3 → RD K H3 y d → Q' y H3) → te (some x :: rest) H2 Q')
    (hq : ∀ H' ys, Same H H' → H' D = some (.lst ys) → RDs K H' ys ds → Q (.ref D) H') : CompW (Itt K a) (gName 0) tYes te Q D (none :: rest) H0 :=
  comp_rd rest nw hl hz hn (fun i x H2 e s => ⟨⟨xs, x, hx.go s, e⟩, fun y H3 ⟨e3, y3⟩ => ⟨e3, by have := y3 _ (hx.go s); rw [e] at this; exact (Option.some.inj this).symm⟩⟩) (fun H2 s => ⟨xs, hx.go s, Nat.le_refl _⟩) hs hq
theorem comp_rdR {lo : Int} {n : Nat} {ds : List PyData} {te : TE} {Q : VK} {D : Addr} {H0 : Hp} (rest : St) (nw : Nw H H0 D (.lst [])) (hl : n = ds.length) (hz : n ≤ 1000) (hn : noLs ds = true)
    (hs : ∀ (i : Nat) (d : PyData) (H2 : Hp) (Q' : VK), ds[i]? = some d → Same H H2 → (∀ y H3, Same H2 H3 → RD K H3 y d → Q' y H3) → te (some (.int (lo + i)) :: rest) H2 Q')
    (hq : ∀ H' ys, Same H H' → H' D = some (.lst ys) → RDs K H' ys ds → Q (.ref D) H') : CompW (Itr lo n) (gName 0) tYes te Q D (none :: rest) H0 := by
  have hx : ∀ i x, ((List.range n).map fun i : Nat => V.int (lo + i))[i]? = some x → i < n ∧ x = .int (lo + i) := fun i x e => by
    rw [List.getElem?_map] at e
    cases h : (List.range n)[i]? with
    | none => rw [h] at e; cases e
    | some j =>
      rw [h] at e
      obtain ⟨h1, h2⟩ := List.getElem?_eq_some_iff.mp h
      rw [List.getElem_range] at h2
      subst h2
      exact ⟨by simpa using h1, (Option.some.inj e).symm⟩
  refine comp_rd (xs := (List.range n).map fun i : Nat => V.int (lo + i)) rest nw (by simpa using hl) (by simpa using hz) hn (fun i x H2 e s => ?_) (fun H2 s => ?_) (fun i x d H2 Q' e1 e2 s k => ?_) hq
  · obtain ⟨h1, rfl⟩ := hx i x e
    exact ⟨h1, fun y H3 ⟨e3, y3⟩ => ⟨e3, y3⟩⟩
  · show n ≤ _
    simp
  · obtain ⟨h1, rfl⟩ := hx i x e1
    exact hs i d H2 Q' e2 s k
theorem comp_rdZ {b1 b2 : Bool} {l1 l2 : Addr} {xs ys : List V} {ds : List PyData} {te : TE} {Q : VK} {D : Addr} {H0 : Hp} {n : Nat} (rest : St) (hn2 : n = 2) (h1 : SqV b1 K H l1 xs) (h2 : SqV b2 K H l2 ys) (nw : Nw H H0 D (.lst []))
    (hl : min xs.length ys.length = ds.length) (hz : ds.length ≤ 1000) (hn : noLs ds = true)
    (hs : ∀ (i : Nat) (x y : V) (d : PyData) (H2 : Hp) (Q' : VK), xs[i]? = some x → ys[i]? = some y → ds[i]? = some d → Same H H2 → (∀ z H3, Same H2 H3 → RD K H3 z d → Q' z H3) → te (some x :: some y :: rest) H2 Q')
    (hq : ∀ H' zs, Same H H' → H' D = some (.lst zs) → RDs K H' zs ds → Q (.ref D) H') : CompW (Itz K b1 b2 l1 l2) (gTup K n (gCons (gName 0) (gCons (gName 1) gNil))) tYes te Q D (none :: none :: rest) H0 := by
  subst hn2
  have hD := nw.no
  refine comp_by ds.length (fun i σ H2 => Same H H2 ∧ (∃ zs, H2 D = some (.lst zs) ∧ RDs K H2 zs (ds.take i)) ∧ ∃ v v', σ = v :: v' :: rest) ?_ ?_ ?_
  · exact ⟨nw.same, ⟨[], nw.at', rds_nil⟩, none, none, rfl⟩
  · rintro i σ H2 hi ⟨s2, ⟨zs, d2, r2⟩, v, v', rfl⟩
    have hx : i < xs.length := by omega
    have hy : i < ys.length := by omega
    have ex := List.getElem?_eq_getElem hx
    have ey := List.getElem?_eq_getElem hy
    have eb := List.getElem?_eq_getElem hi
    refine ⟨⟨xs, ys, _, _, h1.go s2, h2.go s2, ex, ey⟩, fun y' H3 hy' => ?_⟩
    obtain ⟨T, x0, y0, rfl, k1, k2, n3⟩ := hy'
    have e1 := k1 _ (h1.go s2)
    have e2 := k2 _ (h2.go s2)
    rw [ex] at e1
    rw [ey] at e2
    cases e1
    cases e2
    refine ⟨T, _, rfl, SqT.of n3.at', rfl, _, _, rfl, _, _, rfl, rfl, ?_⟩
    refine yes (iteT ?_)
    refine hs i _ _ _ _ _ ex ey eb (s2.trans n3.same) fun z H4 s4 r4 => ?_
    have s24 := n3.same.trans s4
    have d4 := s24 _ _ d2
    have len := r2.length
    rw [List.length_take] at len
    refine ⟨zs, d4, ?_, ds.length - (i + 1), by omega, rfl, by omega, fun b o e => ?_, ⟨zs ++ [z], upd_same, ?_⟩, _, _, rfl⟩
    · have : (1000 : Nat) < sizeLine := by decide
      omega
    · rw [upd_ne (ne_of_none e hD)]; exact s24 b o (s2 b o e)
    · have t : SameT H4 (upd H4 D (.lst (zs ++ [z]))) := .updL d4
      rw [List.take_succ, eb]
      have n1 : noLs (ds.take i) = true := noLs_mem.mpr fun d hd => noLs_mem.mp hn d (List.mem_of_mem_take hd)
      exact (RDs.t t _ n1 (RDs.mono s24 _ r2)).append (rds_cons (RD.t t _ (noLs_mem.mp hn _ (List.getElem_mem hi)) r4) rds_nil)
  · rintro σ H2 ⟨s2, ⟨zs, d2, r2⟩, v, v', rfl⟩
    refine ⟨⟨xs, ys, h1.go s2, h2.go s2, by omega⟩, hq H2 zs s2 d2 ?_⟩
    rw [List.take_length] at r2
    exact r2
end
/-! ### max of a list of ints, any of ints -/
theorem ints_vals : ∀ {ns : List Int} {us : List Value}, Vals (ns.map V.int) us → (∀ v ∈ us, ∃ a t, v = Value.int a t) ∧ numsOf us = ns
  | [], _, .nil => ⟨fun _ h => (nomatch h), rfl⟩
  | n :: ns, _, .cons q r => by
    obtain ⟨t, rfl⟩ := (show ∃ t, _ = Value.int n t from q)
    obtain ⟨h1, h2⟩ := ints_vals r
    refine ⟨fun v hv => ?_, ?_⟩
    · rcases List.mem_cons.mp hv with rfl | hv
      · exact ⟨n, t, rfl⟩
      · exact h1 v hv
    · show n :: numsOf _ = _
      rw [h2]
section
variable {X : Cx}
theorem max1K (K : PySem.W.Frag) (hK : X.K = K) (hc : X.calm = true) : CallR X (.builtin "max") (fun xs H Q => ∃ (l : Addr) (ns : List Int), xs = [.ref l] ∧ SqL K H l (ns.map V.int) ∧ ns ≠ [] ∧ ∀ M, M ∈ ns → (∀ a ∈ ns, a ≤ M) → Q (.int M) H) := by
  subst hK
  intro pins s σ H xs us Q I r h
  obtain ⟨l, ns, rfl, hl, hne, q⟩ := h
  obtain ⟨u, rfl, ru⟩ := vals1 r
  cases (show u = Value.ref l from ru)
  obtain ⟨its, rv, pl, hz⟩ := I.list hl
  obtain ⟨a1, a2⟩ := ints_vals rv
  have all : AllInts its.toArray := fun v hv => a1 v (by simpa using hv)
  obtain ⟨ps, hps⟩ := all.items
  have e0 : numsOf (intItems ps).toList = ns := by rw [← hps]; exact a2
  rw [nums_intItems] at e0
  have hlen : ps.size = ns.length := by rw [← e0, List.length_map, Array.length_toList]
  have hpos : 0 < ps.size := by rw [hlen]; exact List.length_pos_iff.mpr hne
  refine max_intList (I.ok.hd hc) (by rw [← hps]; exact pl.isList) hpos fun v h' tk hv hk => ?_
  obtain ⟨t, rfl⟩ := intItems_at hv
  obtain ⟨h1, h2⟩ := argBest_gt (numAt ps) (ps.size - 1)
  refine ⟨.int _, H, I.kept hk, ⟨_, rfl⟩, q _ ?_ fun a ha => ?_⟩
  · rw [numAt_eq, e0]; exact getD_mem (by omega)
  · obtain ⟨j, hj, rfl⟩ := mem_getD ha
    rw [← e0, ← numAt_eq]; exact h2 j (by omega)
theorem ints_at' {ns : List Int} {us : List Value} (r : Vals (ns.map V.int) us) {i : Nat} {v : Value} (h : us[i]? = some v) : ∃ n t, ns[i]? = some n ∧ v = Value.int n t := by
  have hl := r.length
  rw [List.length_map] at hl
  have hi : i < ns.length := by rw [hl]; exact (List.getElem?_eq_some_iff.mp h).1
  obtain ⟨u, e, ru⟩ := r.get (i := i) (x := .int ns[i]) (by rw [List.getElem?_map, List.getElem?_eq_getElem hi]; rfl)
  rw [h] at e
  cases e
  obtain ⟨t, rfl⟩ := (show ∃ t, v = Value.int ns[i] t from ru)
  exact ⟨_, t, List.getElem?_eq_getElem hi, rfl⟩
theorem range_anyI (ns : List Int) : ((List.range ns.length).any fun i => ((ns.map (· != 0))[i]?).getD false) = ns.any (· != 0) := by
  have := LSm.range_any (ns.map (· != 0))
  rw [List.length_map] at this
  rw [this, List.any_map]; rfl
theorem anyIK (K : PySem.W.Frag) (hK : X.K = K) (hc : X.calm = true) : CallR X (.builtin "any") (fun xs H Q => ∃ (l : Addr) (ns : List Int), xs = [.ref l] ∧ (SqL K H l (ns.map V.int) ∨ SqT K H l (ns.map V.int)) ∧ Q (.bl (ns.any (· != 0))) H) := by
  subst hK
  intro pins s σ H xs us Q I r h
  obtain ⟨l, ns, rfl, hl, q⟩ := h
  obtain ⟨u, rfl, ru⟩ := vals1 r
  cases (show u = Value.ref l from ru)
  have hh := I.ok.hd hc
  have fin : ∀ (its : List Value), Vals (ns.map V.int) its → ((List.range its.toArray.size).any fun i => ((ns.map (· != 0))[i]?).getD false) = ns.any (· != 0) := fun its rv => by
    rw [List.size_toArray, ← rv.length, List.length_map]; exact range_anyI ns
  rcases hl with hl | hl
  · obtain ⟨its, rv, pl, hz⟩ := I.list hl
    have hl' := pl.isList
    have hlt : l < s.heap.objs.size := by obtain ⟨_, e, _⟩ := hl'; exact Heap.lt_size e
    refine call_any_walk (wpAny_pyIter_list hl' ?_)
    refine ⟨s.heap.objs.size, [s.heap.objs.size, l], [s.heap.objs.size], its.toArray.size, _, _, fun i => ((ns.map (· != 0))[i]?).getD false, rfl, Walks.list (A := X.A.in1) hh _ l (Nat.ne_of_lt hlt) its.toArray,
      ⟨⟨_, Heap.get?_push_size _ rfl, rfl, rfl⟩, hl'.push _⟩, fun i v s' Q' E' hP hQ => ?_, fun h' tk hk => ?_⟩
    · obtain ⟨n, t, e, rfl⟩ := ints_at' rv (i := i) (v := v) (by simpa using hP)
      simp only [List.getElem?_map, e] at hQ
      exact truthy_int hQ
    · rw [fin its rv]
      exact ⟨.bl _, H, I.kept (LSm.kept_iter hk), rfl, q⟩
  · obtain ⟨its, rv, pl, hz⟩ := I.tuple hl
    have hl' : s.heap.IsTuple l its.toArray := by
      obtain ⟨⟨cls, dd, data, sl⟩, ho, hc', n, hd⟩ := pl
      exact ⟨_, ho, hc', by simpa using ⟨n, hd⟩⟩
    have hlt : l < s.heap.objs.size := by obtain ⟨_, e, _⟩ := hl'; exact Heap.lt_size e
    refine call_any_walk (wpAny_pyIter_tuple hl' ?_)
    refine ⟨s.heap.objs.size, [s.heap.objs.size, l], [s.heap.objs.size], its.toArray.size, _, _, fun i => ((ns.map (· != 0))[i]?).getD false, rfl, Walks.tuple (A := X.A.in1) hh _ l (Nat.ne_of_lt hlt) its.toArray,
      ⟨⟨_, Heap.get?_push_size _ rfl, rfl, rfl⟩, hl'.push _⟩, fun i v s' Q' E' hP hQ => ?_, fun h' tk hk => ?_⟩
    · obtain ⟨n, t, e, rfl⟩ := ints_at' rv (i := i) (v := v) (by simpa using hP)
      simp only [List.getElem?_map, e] at hQ
      exact truthy_int hQ
    · rw [fin its rv]
      exact ⟨.bl _, H, I.kept (LSm.kept_iter hk), rfl, q⟩
end
end L2


set_option Elab.async false
set_option linter.all false
set_option maxRecDepth 100000
set_option maxHeartbeats 1000000
namespace Lw
open PySem PySem.Spec PyProof.Rows L2
/-! ### the bag -/
def OkCM (c m : Int) : Prop := 0 ≤ c ∧ 0 ≤ m ∧ m < 2147483648
def IsBag (H : Hp) (p : Addr) : Prop := ∃ c m, H p = some (.lst [.int c, .int m]) ∧ OkCM c m
structure BagX (p : Addr) (H H' : Hp) : Prop where
  bag : IsBag H' p
  same : ∀ b o, b ≠ p → H b = some o → H' b = some o
theorem BagX.refl {p : Addr} {H : Hp} (h : IsBag H p) : BagX p H H := ⟨h, fun _ _ _ e => e⟩
theorem BagX.trans {p : Addr} {H H1 H2 : Hp} (a : BagX p H H1) (b : BagX p H1 H2) : BagX p H H2 := ⟨b.bag, fun c o n e => b.same c o n (a.same c o n e)⟩
theorem BagX.upd {p : Addr} {H : Hp} {c m : Int} (h : OkCM c m) : BagX p H (L2.upd H p (.lst [.int c, .int m])) := ⟨⟨c, m, upd_same, h⟩, fun b o n e => by rw [upd_ne n]; exact e⟩
theorem BagX.new {p t : Addr} {H : Hp} {o : HO} (h : IsBag H p) (ht : H t = none) : BagX p H (L2.upd H t o) := by
  obtain ⟨c, m, e, ok⟩ := h
  have ne : p ≠ t := ne_of_none e ht
  exact ⟨⟨c, m, by rw [upd_ne ne]; exact e, ok⟩, fun b o' n e' => by rw [upd_ne (ne_of_none e' ht)]; exact e'⟩
theorem BagX.ofSame {p : Addr} {H H' : Hp} (h : IsBag H p) (s : Same H H') : BagX p H H' := by
  obtain ⟨c, m, e, ok⟩ := h
  exact ⟨⟨c, m, s _ _ e, ok⟩, fun b o _ e => s b o e⟩

theorem wd40 {j : Int} (h0 : 0 ≤ j) (h : j ≤ 10 ^ 40) : Wd j := by
  have : j.natAbs ≤ 10 ^ 40 := by omega
  exact Nat.lt_of_le_of_lt this (by decide +kernel)
theorem IsBag.ne_tup {H : Hp} {p q : Addr} {xs : List V} (h : IsBag H p) (e : H q = some (.tup xs)) : q ≠ p := by
  obtain ⟨c, m, e', _⟩ := h
  exact ne_of e e' (by intro z; cases z)
theorem IsBag.ne {H : Hp} {p : Addr} (h : IsBag H p) : H p ≠ none := by
  obtain ⟨c, m, e, _⟩ := h
  rw [e]; exact fun z => nomatch z
theorem BagX.sd {p : Addr} {H H' : Hp} (b : BagX p H H') : SD p H H' := fun c o e => del_some.mpr ⟨(del_some.mp e).1, b.same _ _ (del_some.mp e).1 (del_some.mp e).2⟩

theorem IsBag.ne_tup' {H : Hp} {p : Addr} {q : Addr} {o : HO} (h : IsBag H p) (e : H q = some o) (n : ∀ xs, o ≠ .lst xs) : q ≠ p := by
  obtain ⟨c, m, e', _⟩ := h
  exact ne_of e e' (n _)
theorem BagX.t {p : Addr} {H H' : Hp} (bg : IsBag H p) (b : BagX p H H') : SameT H H' := fun c o n e => b.same c o (bg.ne_tup' e n) e
theorem BagX.sameOf {p : Addr} {H0 H H' : Hp} (s : Same H0 H) (hp : H0 p = none) (b : BagX p H H') : Same H0 H' := fun c o e => b.same c o (ne_of_none e hp) (s c o e)
section
variable {K : PySem.W.Frag}
/-- whole numbers drawn, one a turn -/
theorem comp_bag {J : It} {te : TE} {Q : VK} {D p : Addr} {H H0 : Hp} (n : Nat) (rest : L2.St) (nw : Nw H H0 D (.lst [])) (bg : IsBag H p) (hn : n ≤ 1000) (xv : Nat → V)
    (go : ∀ i H2, i < n → BagX p H H2 → J.go i H2 ∧ ∀ y H3, J.yld i H2 y H3 → H3 = H2 ∧ y = xv i) (stop : ∀ H2, BagX p H H2 → J.stop n H2) (Pz : Int → Prop)
    (hs : ∀ i H2 (Q' : VK), i < n → BagX p H H2 → (∀ z H3, Pz z → BagX p H2 H3 → Q' (.int z) H3) → te (some (xv i) :: rest) H2 Q')
    (hq : ∀ H' (is : List Int), BagX p H H' → H' D = some (.lst (is.map V.int)) → is.length = n → (∀ z ∈ is, Pz z) → Q (.ref D) H') : CompW J (gName 0) tYes te Q D (none :: rest) H0 := by
  have hDp : D ≠ p := fun e => bg.ne (e ▸ nw.no)
  refine comp_by n (fun i σ H3 => BagX p H H3 ∧ (∃ is : List Int, H3 D = some (.lst (is.map V.int)) ∧ is.length = i ∧ ∀ z ∈ is, Pz z) ∧ ∃ v, σ = v :: rest) ?_ ?_ ?_
  · exact ⟨.ofSame bg nw.same, ⟨[], nw.at', rfl, fun _ h => (List.not_mem_nil h).elim⟩, none, rfl⟩
  · rintro i σ H3 hi ⟨b3, ⟨is, d3, li, pi⟩, v, rfl⟩
    obtain ⟨g1, g2⟩ := go i H3 hi b3
    refine ⟨g1, fun y H4 hy => ?_⟩
    obtain ⟨rfl, rfl⟩ := g2 y H4 hy
    refine yesN ?_
    refine hs i _ _ hi b3 fun z H5 pz b5 => ?_
    refine ⟨_, b5.same _ _ hDp d3, ?_, n - (i + 1), by omega, rfl, by omega, ?_, ⟨is ++ [z], ?_, ?_, ?_⟩, _, rfl⟩
    · rw [List.length_map, li]
      have : (1000 : Nat) < sizeLine := by decide
      omega
    · have b35 := b3.trans b5
      refine ⟨?_, fun b o n e => ?_⟩
      · obtain ⟨c, m, e, ok⟩ := b35.bag
        exact ⟨c, m, by rw [upd_ne hDp.symm]; exact e, ok⟩
      · rw [upd_ne (ne_of_none e nw.no)]; exact b35.same b o n e
    · rw [upd_same, List.map_append]; rfl
    · rw [List.length_append, li]; rfl
    · intro y hy
      rcases List.mem_append.mp hy with h | h
      · exact pi y h
      · rw [List.mem_singleton.mp h]; exact pz
  · rintro σ H3 ⟨b3, ⟨is, d3, li, pi⟩, v, rfl⟩
    exact ⟨stop H3 b3, hq H3 is b3 d3 li pi⟩
theorem ints_ix (ns : List Int) {i : Int} (h0 : 0 ≤ i) (h : i < ns.length) : ∃ z, z ∈ ns ∧ atI (ns.map V.int) i = some (.int z) := by
  have hl : i.toNat < ns.length := by omega
  exact ⟨ns[i.toNat], List.getElem_mem hl, atI_of h0 (by rw [List.getElem?_map, List.getElem?_eq_getElem hl]; rfl)⟩
/-- things drawn, one a turn -/
theorem comp_rdB {J : It} {te : TE} {Q : VK} {D p : Addr} {H H0 : Hp} (n : Nat) (rest : L2.St) (nw : Nw H H0 D (.lst [])) (bg : IsBag H p) (hn : n ≤ 1000) (xv : Nat → V)
    (go : ∀ i H2, i < n → BagX p H H2 → J.go i H2 ∧ ∀ y H3, J.yld i H2 y H3 → H3 = H2 ∧ y = xv i) (stop : ∀ H2, BagX p H H2 → J.stop n H2) (Pd : Nat → PyData → Prop)
    (hs : ∀ i H2 (Q' : VK), i < n → BagX p H H2 → (∀ y d H3, Pd i d → noL d = true → RD K H3 y d → BagX p H2 H3 → Q' y H3) → te (some (xv i) :: rest) H2 Q')
    (hq : ∀ H' ys ds, BagX p H H' → H' D = some (.lst ys) → RDs K H' ys ds → ds.length = n → noLs ds = true → (∀ i d, ds[i]? = some d → Pd i d) → Q (.ref D) H') : CompW J (gName 0) tYes te Q D (none :: rest) H0 := by
  have hDp : D ≠ p := fun e => bg.ne (e ▸ nw.no)
  refine comp_by n (fun i σ H3 => BagX p H H3 ∧ (∃ ys ds, H3 D = some (.lst ys) ∧ RDs K H3 ys ds ∧ ds.length = i ∧ noLs ds = true ∧ ∀ j d, ds[j]? = some d → Pd j d) ∧ ∃ v, σ = v :: rest) ?_ ?_ ?_
  · exact ⟨.ofSame bg nw.same, ⟨[], [], nw.at', rds_nil, rfl, rfl, fun j d e => by simp at e⟩, none, rfl⟩
  · rintro i σ H3 hi ⟨b3, ⟨ys, ds, d3, r3, li, ni, pi⟩, v, rfl⟩
    obtain ⟨g1, g2⟩ := go i H3 hi b3
    refine ⟨g1, fun y H4 hy => ?_⟩
    obtain ⟨rfl, rfl⟩ := g2 y H4 hy
    refine yesN ?_
    refine hs i _ _ hi b3 fun z d H5 pz nz rz b5 => ?_
    have d5 := b5.same _ _ hDp d3
    have t : SameT H5 (L2.upd H5 D (.lst (ys ++ [z]))) := .updL d5
    refine ⟨ys, d5, ?_, n - (i + 1), by omega, rfl, by omega, ?_, ⟨ys ++ [z], ds ++ [d], upd_same, ?_, ?_, ?_, ?_⟩, _, rfl⟩
    · rw [r3.length, li]
      have : (1000 : Nat) < sizeLine := by decide
      omega
    · have b35 := b3.trans b5
      refine ⟨?_, fun b o n e => ?_⟩
      · obtain ⟨c, m, e, ok⟩ := b35.bag
        exact ⟨c, m, by rw [upd_ne hDp.symm]; exact e, ok⟩
      · rw [upd_ne (ne_of_none e nw.no)]; exact b35.same b o n e
    · exact (RDs.t ((BagX.t b3.bag b5).trans t) _ ni r3).append (rds_cons (RD.t t _ nz rz) rds_nil)
    · rw [List.length_append, li]; rfl
    · exact noLs_mem.mpr fun x hx => by
        rcases List.mem_append.mp hx with h | h
        · exact noLs_mem.mp ni x h
        · rw [List.mem_singleton.mp h]; exact nz
    · intro j e he
      by_cases hj : j < ds.length
      · rw [List.getElem?_append_left hj] at he
        exact pi j e he
      · have hj2 : j = ds.length := by
          have := (List.getElem?_eq_some_iff.mp he).1
          rw [List.length_append] at this
          have : j < ds.length + 1 := this
          omega
        subst hj2
        rw [List.getElem?_append_right (Nat.le_refl _), Nat.sub_self] at he
        cases he
        rw [li]; exact pz
  · rintro σ H3 ⟨b3, ⟨ys, ds, d3, r3, li, ni, pi⟩, v, rfl⟩
    exact ⟨stop H3 b3, hq H3 ys ds b3 d3 r3 li ni pi⟩
end
end Lw


set_option Elab.async false
set_option linter.all false
set_option maxRecDepth 100000
namespace Ln
open PySem L2
def absI (i : Int) : Int := if i < 0 then -i else i
theorem absI_eq (i : Int) : absI i = (i.natAbs : Int) := by unfold absI; split <;> omega
def leadN (ns : List Int) : Nat := ns.foldr (fun z m => max z.natAbs m) 0
theorem lead_le : ∀ {ns : List Int} {z : Int}, z ∈ ns → z.natAbs ≤ leadN ns
  | n :: ns, z, h => by
    show z.natAbs ≤ max n.natAbs (leadN ns)
    rcases List.mem_cons.mp h with rfl | h
    · exact Nat.le_max_left _ _
    · exact Nat.le_trans (lead_le h) (Nat.le_max_right _ _)
theorem lead_mem : ∀ {ns : List Int}, ns ≠ [] → ∃ z ∈ ns, z.natAbs = leadN ns
  | [], h => absurd rfl h
  | [n], _ => ⟨n, .head _, by show n.natAbs = max n.natAbs 0; omega⟩
  | n :: m :: ns, _ => by
    obtain ⟨z, hz, e⟩ := lead_mem (ns := m :: ns) (by simp)
    by_cases h : n.natAbs ≤ leadN (m :: ns)
    · exact ⟨z, .tail _ hz, by show _ = max n.natAbs (leadN (m :: ns)); omega⟩
    · exact ⟨n, .head _, by show _ = max n.natAbs (leadN (m :: ns)); omega⟩
theorem lead_max {ns : List Int} {m : Nat} (h : ∀ z ∈ ns, z.natAbs ≤ m) : leadN ns ≤ m := by
  cases ns with
  | nil => exact Nat.zero_le _
  | cons a r => obtain ⟨z, hz, e⟩ := lead_mem (ns := a :: r) (by simp); rw [← e]; exact h z hz
theorem lead_pos {ns : List Int} (h : ∃ z ∈ ns, z ≠ 0) : 0 < leadN ns := by
  obtain ⟨z, hz, h0⟩ := h
  have := lead_le hz
  omega
theorem lead_uniq {ns : List Int} (hne : ns ≠ []) {M : Int} (h1 : M ∈ ns.map absI) (h2 : ∀ a ∈ ns.map absI, a ≤ M) : M = (leadN ns : Int) := by
  obtain ⟨z, hz, e⟩ := List.mem_map.mp h1
  obtain ⟨y, hy, ey⟩ := lead_mem hne
  have a1 := lead_le hz
  have a2 := h2 (absI y) (List.mem_map.mpr ⟨y, hy, rfl⟩)
  rw [absI_eq] at e a2
  omega
/-! ### the nearest -/
def sizeN (p q : Int) : Int := (2 * (p.natAbs : Int) + q) / (2 * q)
def nearN (p q : Int) : Int := if p ≥ 0 then sizeN p q else -sizeN p q
/-- near enough, and of two the farther one -/
structure Near (x p q : Int) : Prop where
  lo : -q ≤ 2 * (x * q - p)
  hi : 2 * (x * q - p) ≤ q
  far : 2 * (x * q - p) = q ∨ 2 * (x * q - p) = -q → p.natAbs ≤ (x * q).natAbs
theorem size_spec {p q : Int} (hq : 0 < q) : 2 * q * sizeN p q ≤ 2 * (p.natAbs : Int) + q ∧ 2 * (p.natAbs : Int) + q < 2 * q * sizeN p q + 2 * q := by
  have h := Int.mul_ediv_add_emod (2 * (p.natAbs : Int) + q) (2 * q)
  have h0 := Int.emod_nonneg (2 * (p.natAbs : Int) + q) (show 2 * q ≠ 0 by omega)
  have h1 := Int.emod_lt_of_pos (2 * (p.natAbs : Int) + q) (show 0 < 2 * q by omega)
  unfold sizeN
  constructor <;> omega
theorem size_nn {p q : Int} (hq : 0 < q) : 0 ≤ sizeN p q := Int.ediv_nonneg (by omega) (by omega)
theorem near_is {p q : Int} (hq : 0 < q) : Near (nearN p q) p q := by
  obtain ⟨h1, h2⟩ := size_spec (p := p) hq
  have h0 := size_nn (p := p) hq
  rw [Int.mul_assoc, Int.mul_comm q] at h1 h2
  have hs0 : 0 ≤ sizeN p q * q := Int.mul_nonneg h0 (Int.le_of_lt hq)
  unfold nearN
  split
  · refine ⟨?_, ?_, fun h => ?_⟩ <;> (generalize sizeN p q * q = s at *; omega)
  · refine ⟨?_, ?_, ?_⟩ <;> rw [Int.neg_mul] <;> (generalize sizeN p q * q = s at *; omega)
theorem mul_gap {x y q : Int} (hq : 0 < q) (h : x < y) : x * q + q ≤ y * q := by
  have : (x + 1) * q ≤ y * q := Int.mul_le_mul_of_nonneg_right (by omega) (by omega)
  rw [Int.add_mul, Int.one_mul] at this
  exact this
theorem near_uniq {x y p q : Int} (hq : 0 < q) (a : Near x p q) (b : Near y p q) : x = y := by
  have key : ∀ {x y : Int}, Near x p q → Near y p q → ¬ x < y := fun {x y} a b h => by
    have g := mul_gap hq h
    have e1 := a.lo; have e2 := a.hi; have e3 := b.lo; have e4 := b.hi
    have f1 := a.far; have f2 := b.far
    have hx : x * q = 0 ∨ q ≤ x * q ∨ x * q ≤ -q := by
      rcases Int.lt_trichotomy x 0 with h | h | h
      · have := mul_gap hq h; omega
      · left; rw [h, Int.zero_mul]
      · have := mul_gap hq h; omega
    have hy : y * q = 0 ∨ q ≤ y * q ∨ y * q ≤ -q := by
      rcases Int.lt_trichotomy y 0 with h | h | h
      · have := mul_gap hq h; omega
      · left; rw [h, Int.zero_mul]
      · have := mul_gap hq h; omega
    generalize x * q = u at *
    generalize y * q = v at *
    have hu := f1 (by omega)
    have hv := f2 (by omega)
    omega
  rcases Int.lt_trichotomy x y with h | h | h
  · exact absurd h (key a b)
  · exact h
  · exact absurd h (key b a)
theorem near_eq {x p q : Int} (hq : 0 < q) (a : Near x p q) : x = nearN p q := near_uniq hq a (near_is hq)
theorem near_zero {q : Int} (hq : 0 < q) : nearN 0 q = 0 := (near_eq hq ⟨by omega, by omega, fun h => by omega⟩).symm
end Ln


set_option Elab.async false
set_option linter.all false
set_option maxRecDepth 100000
namespace L2
open PySem PySem.Spec PyProof.Rows
/-! ### a tuple times an int -/
end L2


set_option Elab.async false
set_option linter.all false
set_option maxRecDepth 100000
namespace L2
open PySem PySem.Spec PyProof.Rows
/-! ### enumerate of a list or a tuple -/
abbrev eh1 (b : Bool) (h : Heap) (l : Addr) : Heap := h.push { cls := .type (cnO b), data := .fields #[.ref l, .int 0 0] }
abbrev eh2 (b : Bool) (h : Heap) (l : Addr) : Heap := (eh1 b h l).push { cls := .type "enumerate", data := .fields #[.none, .bool false, .ref h.objs.size, rawInt 0, .none, .none] }
theorem enNew (b : Bool) (l : Addr) (xs : Array Value) : Meets (Builtin.«enumerate.__new__» ⟨[.type "enumerate", .ref l], []⟩) (fun _ R s => SqO b s.heap l xs ∧
    R (.ok (.ret (.ref (eh1 b s.heap l).objs.size))) { s with heap := eh2 b s.heap l }) :=
  .of_wp fun prog w A R s h => by
    obtain ⟨hp, gg, d, tk, os⟩ := s
    obtain ⟨hl, h⟩ := h
    have hsub := sub_enumerate
    have hL : SqO b (Shared.heap ⟨hp, gg, d, tk, os⟩) l xs := hl
    wp_walk using newO hL
    refine wpAny_stack_any fun st => wpAny_pure ?_
    split
    · rename_i c _ _ _ _ _
      cases (c == Value.type "enumerate")
      · wp_walk using newO hL
        exact ⟨_, rfl, h⟩
      · wp_walk using newO hL
        exact ⟨_, rfl, h⟩
    · wp_walk using newO hL
      exact ⟨_, rfl, h⟩
section
variable {prog : Program} {w : World} {A : Around} {E : Value → Shared → Prop} {s : Shared}
theorem enCall {b : Bool} {l : Addr} {xs : Array Value} {Q : Value → Shared → Prop} (hl : SqO b s.heap l xs)
    (q : ∀ g, IsEnum g (s.heap.objs.size + 1) s.heap.objs.size 0 .none → ItO b g s.heap.objs.size l 0 → (∀ c o, s.heap.get? c = some o → g.get? c = some o) → Q (.ref (s.heap.objs.size + 1)) { s with heap := g }) :
    wpAny (model prog w) A (call (.type "enumerate") [.ref l]) Q E s := by
  refine callType_new PySem.F.called_enumerate (by decide) (PySem.F.typeCall_enumerate_1 _) (PySem.F.newCall_enumerate_1 _) (fun obj => PySem.F.args_object_init_2 obj _) PySem.F.entry_enumerate_new (enNew b l xs) ⟨hl, ?_⟩
  have z1 : (eh1 b s.heap l).objs.size = s.heap.objs.size + 1 := Heap.size_push ..
  have g2 : (eh2 b s.heap l).get? (eh1 b s.heap l).objs.size = some _ := Heap.get?_push_size _ rfl
  have g1 : (eh2 b s.heap l).get? s.heap.objs.size = some _ := Heap.get?_push_of_some _ (Heap.get?_push_size _ rfl)
  show _ ∧ _
  rw [z1] at g2 ⊢
  refine ⟨⟨_, g2, rfl⟩, q _ g2 ?_ fun c o e => Heap.get?_push_of_some _ (Heap.get?_push_of_some _ e)⟩
  cases b <;> exact ⟨_, g1, rfl, rfl⟩
theorem enDraws {b : Bool} {it l : Addr} {xs : Array Value} (hh : A.handled = none) (ne : l ≠ it) : Draws prog w A it [it, l] xs.size (fun i x => xs[i]? = some x) (fun i h => ItO b h it l i ∧ SqO b h l xs) where
  live := fun i h st => by obtain ⟨o, e, _⟩ := st.1.ob; exact ⟨o, e⟩
  frame := fun i h h' st k => ⟨st.1.to fun o e => k it (by simp) o e, st.2.to fun o e => k l (by simp) o e⟩
  item := fun i s Q E hi st hQ => nxO st.1 st.2 (x := xs[i]) (by simp [hi]) fun g gi sb => hQ _ g s.toks (by simp [hi]) ⟨gi, st.2.to fun o e => sb.extBut _ _ ne e⟩ sb
  done := fun s Q E st hE => enO hh st.1 st.2 (by simp) fun g e a b => hE g e a b
end
def Ite (K : PySem.W.Frag) (b : Bool) (l : Addr) : It :=
  ⟨fun i H => ∃ xs x, SqV b K H l xs ∧ xs[i]? = some x,
   fun i H v H' => ∃ T x, v = .ref T ∧ (∀ xs, SqV b K H l xs → xs[i]? = some x) ∧ Nw H H' T (.tup [.int i, x]),
   fun i H => ∃ xs, SqV b K H l xs ∧ xs.length = i⟩
theorem turn_enum {P : Program} {w : World} {K : PySem.W.Frag} {elts : List Expr} {kt : Nat} {pos : Pos} {b : Bool} {e it l : Addr} (D : e ≠ it) :
    Turn P w K (.Tuple elts kt pos) (Ite K b l) [e, it] e (fun i h => (∃ old, IsEnum h e it i old) ∧ ItO b h it l i) where
  mem := by simp
  obj := fun i h st c hc => by
    obtain ⟨⟨old, he⟩, h1⟩ := st
    simp only [List.mem_cons, List.not_mem_nil, or_false] at hc
    rcases hc with rfl | rfl
    · exact ⟨_, he, fun v e => by cases e⟩
    · obtain ⟨o, e, _, n⟩ := h1.ob; exact ⟨o, e, n⟩
  keep := fun i h h' st k => by
    obtain ⟨⟨old, he⟩, h1⟩ := st
    exact ⟨⟨old, k e (by simp) _ he⟩, h1.to fun o q => k it (by simp) o q⟩
  item := by
    intro X hP hw hK hc i pins s σ H E I hf st hg
    subst hP hw hK
    obtain ⟨xs, x, q1, e1⟩ := hg
    obtain ⟨its, r1, p1⟩ := q1.get I
    obtain ⟨u1, hu1, ru1⟩ := r1.get e1
    obtain ⟨⟨old, he⟩, h1⟩ := st
    obtain ⟨oi, hoi, ci, _⟩ := h1.ob
    have lcls : ∃ o, s.heap.get? l = some o ∧ (o.cls = .type "list" ∨ o.cls = .type "tuple") := by
      cases b <;> (obtain ⟨o, ho, cc, _⟩ := p1; first | exact ⟨o, ho, .inl cc⟩ | exact ⟨o, ho, .inr cc⟩)
    obtain ⟨ol, hol, cl⟩ := lcls
    have nel : e ≠ l := fun z => by
      subst z
      rw [he] at hol; cases hol
      rcases cl with h | h <;> simp at h
    have nil : l ≠ it := fun z => by
      subst z
      rw [hoi] at hol; cases hol
      rw [ci] at cl
      cases b <;> (rcases cl with h | h <;> simp [cnO] at h)
    have hlt : i < its.toArray.size := by
      rw [List.size_toArray, ← r1.length]; exact (List.getElem?_eq_some_iff.mp e1).1
    refine wpAny_pyNext_enum_itemD (enDraws (I.ok.hd hc) nil) he ⟨h1, p1⟩ hlt D (by simp [D, nel]) fun y h' tk hPy ho hst hT hsz kp => ⟨_, rfl, ?_⟩
    have ey : y = u1 := by
      have a1 : its.toArray[i]? = some y := hPy
      have a2 : its.toArray[i]? = some u1 := by simpa using hu1
      rw [a1] at a2; exact Option.some.inj a2
    subst ey
    refine wpAny_letOwnedTupleGo_enum ho fun g' he' sb => ?_
    have hs := sb.extBut
    have elt : e < s.heap.objs.size := Heap.lt_size he
    have ilt : it < s.heap.objs.size := Heap.lt_size hoi
    have nw : Nw H (upd H s.heap.objs.size (.tup [.int i, x])) s.heap.objs.size (.tup [.int i, x]) := .of (I.hok.fresh (Nat.le_refl _))
    have I1 : Inv X pins σ (upd H s.heap.objs.size (.tup [.int i, x])) { s with heap := s.heap.push { cls := .type "tuple", data := .seq #[.int i tk, y] }, toks := tk + 1 } :=
      I.laid (t' := tk + 1) (fun b ob q => Heap.get?_push_of_some _ q) (Nat.le_refl _) ⟨by show 2 ≤ sizeLine; decide, [.int i tk, y], .cons ⟨tk, rfl⟩ (.cons ru1 .nil), ⟨_, Heap.get?_push_size _ rfl, rfl, _, rfl⟩⟩
    have lts : ∀ c ∈ [e, it], c < s.heap.objs.size := fun c hc => by
      simp only [List.mem_cons, List.not_mem_nil, or_false] at hc
      rcases hc with rfl | rfl
      · exact elt
      · exact ilt
    have hn : ∀ c ∈ [e, it], upd H s.heap.objs.size (.tup [.int i, x]) c = none := fun c hc => by
      rw [upd_ne (Nat.ne_of_lt (lts c hc))]; exact (hf c hc).1
    have I2 : Inv X pins σ (upd H s.heap.objs.size (.tup [.int i, x])) { s with heap := g', toks := tk + 1 } := Inv.turnedL (s := { s with heap := s.heap.push { cls := .type "tuple", data := .seq #[.int i tk, y] }, toks := tk + 1 }) (t' := tk + 1) (fp := [e, it]) I1 (fun c o hc q => by
      have q : (s.heap.push { cls := .type "tuple", data := .seq #[.int i tk, y] }).get? c = some o := q
      have nz : c ≠ e := fun z => hc (by simp [z])
      rcases Heap.get?_push_cases q with ⟨hbT, rfl⟩ | q'
      · subst hbT
        exact hs _ _ nz hT
      · exact hs _ _ nz (kp c o nz (fun z => hc (by simp [z])) q')) (fun c hc => by
        obtain ⟨f0, f1, f2, f3, f4, f5⟩ := hf c hc
        exact ⟨hn c hc, f1, f2, f3, f4, f5⟩)
    refine ⟨.ref s.heap.objs.size, _, I2, rfl, ⟨s.heap.objs.size, x, rfl, fun zs hz => ?_, nw⟩, ⟨⟨_, by simpa using he'⟩, hst.1.to fun o q => hs _ o (Ne.symm D) q⟩, hn⟩
    rw [SqV.inj I hz q1]; exact e1
  done := by
    intro X hP hw hK hc i pins s σ H E I hf st hg
    subst hP hw hK
    obtain ⟨xs, q1, hend⟩ := hg
    obtain ⟨its, r1, p1⟩ := q1.get I
    obtain ⟨⟨old, he⟩, h1⟩ := st
    obtain ⟨oi, hoi, ci, _⟩ := h1.ob
    have lcls : ∃ o, s.heap.get? l = some o ∧ (o.cls = .type "list" ∨ o.cls = .type "tuple") := by
      cases b <;> (obtain ⟨o, ho, cc, _⟩ := p1; first | exact ⟨o, ho, .inl cc⟩ | exact ⟨o, ho, .inr cc⟩)
    obtain ⟨ol, hol, cl⟩ := lcls
    have nil : l ≠ it := fun z => by
      subst z
      rw [hoi] at hol; cases hol
      rw [ci] at cl
      cases b <;> (rcases cl with h | h <;> simp [cnO] at h)
    have hi : i = its.toArray.size := by rw [List.size_toArray, ← r1.length]; exact hend.symm
    subst hi
    refine wpAny_pyNext_enum_endD (enDraws (I.ok.hd hc) nil) he ⟨h1, p1⟩ fun h' kp => ⟨rfl, ?_⟩
    exact I.turnedL (t' := s.toks) (fp := [e, it]) (fun c o hc q => kp c o (fun z => hc (by simp [z])) q) hf
  self := fun _ _ _ _ _ st h => by
    obtain ⟨⟨old, he⟩, _⟩ := st
    exact wpAny_pyIter_enum he h
def iEnum (K : PySem.W.Frag) (b : Bool) (ta : TA) : TI := fun σ H R => ta σ H fun vs H1 => ∃ l, vs = [.ref l] ∧ (∃ xs, SqV b K H1 l xs) ∧ R (Ite K b l) H1
theorem pi_enum (K : PySem.W.Frag) {X : Cx} (hK : X.K = K) (b : Bool) {elts : List Expr} {kt : Nat} {tpos : Pos} {a : Expr} {ta : TA} {p pos : Pos} (hg : Gl X "enumerate") (hm : X.mg "enumerate" = none) (ha : PA X [a] ta) (hs : starEach [a] X.env = [(false, eval a X.env)] := by rfl) (hs2 : starEach [] X.env = [] := by rfl) :
    PI X (.Tuple elts kt tpos) (.Call (.Name "enumerate" p) [a] [] pos) (iEnum K b ta) := by
  subst hK
  intro pins s σ H R I h
  refine Call_ (ld_blt I hg hm PyProof.Rows.boot_enumerate (PyProof.Rows.callWith_type1 (thn (ha pos pins s σ H _ I h) fun us s1 ⟨vs, H1, I1, r1, q1⟩ => ?_) (by rw [hs, hs2]) (by rw [hs2]; rfl)))
  obtain ⟨l, e, ⟨xs, h1⟩, q⟩ := q1
  subst e
  obtain ⟨u1, rfl, ru1⟩ := vals1 r1
  cases (show u1 = Value.ref l from ru1)
  obtain ⟨its1, v1, p1⟩ := h1.get I1
  refine enCall p1 fun g zg ig kp => wpAny_pyIter_enum zg ?_
  refine ⟨_, _, _, _, H1, rfl, I1.kept (t' := s1.toks) kp, turn_enum (Nat.ne_of_gt (Nat.lt_succ_self _)), ⟨⟨_, zg⟩, ig⟩, fun c hc => ?_, q⟩
  have hle : s1.heap.objs.size ≤ c := by
    simp only [List.mem_cons, List.not_mem_nil, or_false] at hc
    rcases hc with rfl | rfl <;> first | exact Nat.le_refl _ | exact Nat.le_add_right _ _
  exact I1.fpOk hle (I1.hok.fresh hle)
/-! ### loops over these -/
theorem for_enum {K : PySem.W.Frag} {b : Bool} {a : Addr} {xs : List V} {g : TG} {tb : TS} {D : Ends} {σ : St} {H : Hp} (Pv : Nat → St → Hp → Prop) (h0 : Pv 0 σ H) (hl : ∀ i σ H, i ≤ xs.length → Pv i σ H → SqV b K H a xs)
    (hs : ∀ i x σ H, xs[i]? = some x → Pv i σ H → ∀ T H', Nw H H' T (.tup [.int i, x]) → g (.ref T) σ H' fun σ2 H2 => tb { D with nx := Pv (i + 1), ct := Pv (i + 1), bk := D.nx } σ2 H2) (hd : ∀ σ H, Pv xs.length σ H → D.nx σ H) :
    ∃ W : Nat → Nat → St → Hp → Prop, (∃ m, W 0 m σ H) ∧ ∀ i m σ H, W i m σ H →
      ((Ite K b a).stop i H ∧ D.nx σ H) ∨ ((Ite K b a).go i H ∧ ∃ N : St → Hp → Prop, (∀ σ' H', N σ' H' → ∃ m', m' < m ∧ W (i + 1) m' σ' H') ∧ ∀ x H', (Ite K b a).yld i H x H' → g x σ H' fun σ2 H2 => tb { D with nx := N, ct := N, bk := D.nx } σ2 H2) := by
  refine ⟨fun i m σ H => m = xs.length - i ∧ i ≤ xs.length ∧ Pv i σ H, ⟨xs.length, by simp, Nat.zero_le _, h0⟩, ?_⟩
  rintro i m σ H ⟨rfl, hi, p⟩
  have q := hl i σ H hi p
  by_cases hlt : i < xs.length
  · refine .inr ⟨⟨xs, xs[i], q, by simp [hlt]⟩, Pv (i + 1), fun σ' H' p' => ⟨xs.length - (i + 1), by omega, rfl, hlt, p'⟩, fun x H' y => ?_⟩
    obtain ⟨T, z, rfl, ez, nw⟩ := y
    exact hs i z σ H (ez xs q) p T H' nw
  · have e : i = xs.length := by omega
    subst e
    exact .inl ⟨⟨xs, q, rfl⟩, hd σ H p⟩
theorem for_zip {K : PySem.W.Frag} {b1 b2 : Bool} {a1 a2 : Addr} {xs ys : List V} {g : TG} {tb : TS} {D : Ends} {σ : St} {H : Hp} (n : Nat) (hn : n = min xs.length ys.length) (Pv : Nat → St → Hp → Prop) (h0 : Pv 0 σ H) (hl : ∀ i σ H, i ≤ n → Pv i σ H → SqV b1 K H a1 xs ∧ SqV b2 K H a2 ys)
    (hs : ∀ i x y σ H, xs[i]? = some x → ys[i]? = some y → Pv i σ H → ∀ T H', Nw H H' T (.tup [x, y]) → g (.ref T) σ H' fun σ2 H2 => tb { D with nx := Pv (i + 1), ct := Pv (i + 1), bk := D.nx } σ2 H2) (hd : ∀ σ H, Pv n σ H → D.nx σ H) :
    ∃ W : Nat → Nat → St → Hp → Prop, (∃ m, W 0 m σ H) ∧ ∀ i m σ H, W i m σ H →
      ((Itz K b1 b2 a1 a2).stop i H ∧ D.nx σ H) ∨ ((Itz K b1 b2 a1 a2).go i H ∧ ∃ N : St → Hp → Prop, (∀ σ' H', N σ' H' → ∃ m', m' < m ∧ W (i + 1) m' σ' H') ∧ ∀ x H', (Itz K b1 b2 a1 a2).yld i H x H' → g x σ H' fun σ2 H2 => tb { D with nx := N, ct := N, bk := D.nx } σ2 H2) := by
  refine ⟨fun i m σ H => m = n - i ∧ i ≤ n ∧ Pv i σ H, ⟨n, by simp, Nat.zero_le _, h0⟩, ?_⟩
  rintro i m σ H ⟨rfl, hi, p⟩
  obtain ⟨q1, q2⟩ := hl i σ H hi p
  by_cases hlt : i < n
  · have l1 : i < xs.length := by omega
    have l2 : i < ys.length := by omega
    refine .inr ⟨⟨xs, ys, xs[i], ys[i], q1, q2, by simp [l1], by simp [l2]⟩, Pv (i + 1), fun σ' H' p' => ⟨n - (i + 1), by omega, rfl, hlt, p'⟩, fun x H' y => ?_⟩
    obtain ⟨T, z1, z2, rfl, e1, e2, nw⟩ := y
    exact hs i z1 z2 σ H (e1 xs q1) (e2 ys q2) p T H' nw
  · have e : i = n := by omega
    subst e
    exact .inl ⟨⟨xs, ys, q1, q2, by omega⟩, hd σ H p⟩
end L2


set_option Elab.async false
set_option linter.all false
set_option maxRecDepth 100000
namespace L2
open PySem PySem.Spec PyProof.Rows
section
variable {X : Cx}
theorem peClear (K : PySem.W.Frag) (h : X.K = K) {o : Expr} {to : TE} {apos cpos : Pos} (ho : PE X o to) (hbase : attributeBase o "clear" X.env (eval o X.env) = eval o X.env := by rfl) (hline : (apos.endLine == cpos.line) = true := by rfl) :
    PE X (.Call (.Attribute o "clear" apos) [] [] cpos) (tBM0 K "list" rClear to) := by subst h; exact pe_bm0 PySem.F.plainAttrs_list PySem.F.slot_list_clear PySem.F.type_list_clear mt_clear ho hbase hline
end
end L2


set_option Elab.async false
set_option linter.all false
set_option maxRecDepth 100000
namespace L2
open PySem PySem.Spec PyProof.Rows
/-! ### name = [..], stored ahead of the block's end -/
set_option maxHeartbeats 1000000 in
theorem ps_setC {X : Cx} {N : List Str} {js : List (Option Nat)} {elt tg iter : Expr} {ifs : List Expr} {scope : Scope} {pos : Pos} {wi : TI} {g : TG} {tt : TT} {te : TE} {i0 : Nat} {x0 : Str} {px0 spos : Pos} (hNd : X.N.Nodup) (hix : X.N[i0]? = some x0) (hx0 : Loc X.env.scope x0) (hc : X.calm = true) (hN : chkC X N js scope = true) (hS : chkS X scope = true)
    (hi : PI X tg iter wi) (hg : ∀ cl s H fp pins, PG (compCx X N scope cl s H fp pins) tg g) (ht : ∀ cl s H fp pins, PTs (compCx X N scope cl s H fp pins) ifs tt) (he : ∀ cl s H fp pins, PE (compCx X N scope cl s H fp pins) elt te)
    (hsw : swapsWith (.ListComp elt [⟨tg, iter, ifs, 0⟩] scope pos) (some (.Name x0 px0)) spos.line X.env = pure true := by rfl) (hf0 : X.fn x0 = true ∨ X.env.scope.names.lookup x0 = some .local := by first | exact .inl rfl | exact .inr rfl)
    (hs : ∀ x, foldedSetIterable iter X.env x = pure x := by intro _; rfl) : PS X (.Assign [.Name x0 px0] (.ListComp elt [⟨tg, iter, ifs, 0⟩] scope pos) spos) (tAsg (tComp js wi g tt te) (gName i0)) := by
  intro pins s σ H D0 I h
  have hS' := hS
  unfold chkS at hS'
  rw [Bool.and_eq_true, Bool.and_eq_true] at hS'
  obtain ⟨⟨k1, k2⟩, k3⟩ := hS'
  have hkind : scope.kind = .function := beq_iff_eq.mp k1
  have hfree : ∀ x ∈ scope.names, x.2 = .free → ∃ c, X.env.cells.lookup x.1 = some c := fun x hx e => by
    have := List.all_eq_true.mp k3 x hx
    rw [e] at this
    exact I.ok.has x.1 (.inl (beq_iff_eq.mp this))
  have hcell : ∀ x ∈ scope.names, x.2 ≠ .cell := fun x hx e => by
    have := List.all_eq_true.mp k3 x hx
    rw [e] at this
    exact Bool.false_ne_true this
  have hnames : ∀ x ∈ scope.names, x.2 = .local → scope.names.lookup x.1 = some .local := fun x hx e => by
    have := List.all_eq_true.mp k3 x hx
    rw [e] at this
    exact beq_iff_eq.mp this
  obtain ⟨cl, hclos, c1, c2⟩ := closureFor_ok hfree
  rw [exec_Assign_Name_used _ _ _ _ hsw]
  refine wpAny_bind (wpAny_standAt (wpAny_bind ?_))
  show wpAny _ X.A (do let _ ← comprehension (.ListComp elt [⟨tg, iter, ifs, 0⟩] scope pos) scope X.env _ (newList []) false (eval iter X.env) (some (assign (.Name x0 px0) X.env))) _ _ s
  refine wpAny_bind (wpAny_mono (wpAny_comprehension_free (use := some (assign (.Name x0 px0) X.env)) (Q := fun _ s' => SP X pins D0 .next s') rfl hs hclos hkind hnames (thn (hi pins s σ H _ I h) fun v s1 h1 => thn h1 fun itv s2 h2 => ?_)) (fun _ s' hq => wpAny_pure (wpAny_pure hq)) fun _ _ e => e)
  obtain ⟨it, fp, tn, J, H2, e, I2, T, st2, f2, h2⟩ := h2
  subst e
  have hD : H2 s2.heap.objs.size = none := I2.hok.fresh (Nat.le_refl _)
  obtain ⟨W, ⟨m0, w0⟩, turn⟩ := h2 _ _ (Nw.of hD)
  refine wpAny_newObj_type (wpAny_newFunctionEnv hcell (by intro y hy; simp at hy) (fun h₁ hns₁ hsb₁ => ?_) hkind)
  have fpl : ∀ b ∈ fp, b < s2.heap.objs.size := fun b hb => by
    obtain ⟨o, e, _⟩ := T.obj _ _ st2 b hb
    exact Heap.lt_size e
  have I3 : Inv X pins σ (upd H2 s2.heap.objs.size (.lst [])) { s2 with heap := s2.heap.push { cls := .type "list", dict := none, data := .seq ([] : List Value).toArray } } := I2.lnew (its := []) (t' := s2.toks) .nil (Nat.zero_le _)
  generalize hH3 : s2.heap.push { cls := .type "list", dict := none, data := .seq ([] : List Value).toArray } = h3 at I3 hns₁ hsb₁
  have sz3 : h3.objs.size = s2.heap.objs.size + 1 := by rw [← hH3, Heap.size_push]
  have keep23 : ∀ b o, s2.heap.get? b = some o → h3.get? b = some o := fun b o e => by rw [← hH3]; exact Heap.get?_push_of_some _ e
  have f3 : ∀ b ∈ fp, FpOk X pins (upd H2 s2.heap.objs.size (.lst [])) b := fun b hb => ⟨by rw [upd_ne (Nat.ne_of_lt (fpl b hb))]; exact (f2 b hb).1, (f2 b hb).2⟩
  have keep31 : ∀ b o, h3.get? b = some o → h₁.get? b = some o := fun b o e => (hsb₁.2 b (Nat.ne_of_lt (Heap.lt_size e))).trans (Heap.get?_push_of_some _ e)
  have I4 : Inv (compCx X N scope cl { s2 with heap := h3 } (upd H2 s2.heap.objs.size (.lst [])) fp pins) [] (stC js σ) (upd H2 s2.heap.objs.size (.lst [])) { s2 with heap := h₁, toks := s2.toks + ([] : List (Str × Value)).length } :=
    I3.comp (s := { s2 with heap := h3 }) hN hS c1 c2 f3 (fun b hb => by show b < h3.objs.size; rw [sz3]; exact Nat.lt_succ_of_lt (fpl b hb)) (by simpa using hns₁) keep31
  have st4 : tn 0 h₁ := T.keep _ _ _ st2 fun b _ o e => keep31 b o (keep23 b o e)
  -- the loop
  have loop : codeAny (model X.prog X.w) X.A (.compLoop (.ListComp elt [⟨tg, iter, ifs, 0⟩] scope pos) 0 (.ref it) (.ref s2.heap.objs.size) (compEnvC scope cl h3.objs.size X.env))
      (compPost (model X.prog X.w) X.A X.xe (some (assign (.Name x0 px0) X.env)) (fun _ s' => SP X pins D0 .next s') (.ref s2.heap.objs.size) h3.objs.size) { s2 with heap := h₁, toks := s2.toks + ([] : List (Str × Value)).length } := by
    refine compLoop_gen (fun n s' => ∃ i σ' H', Inv (compCx X N scope cl { s2 with heap := h3 } (upd H2 s2.heap.objs.size (.lst [])) fp pins) [] σ' H' s' ∧ tn i s'.heap ∧ (∀ b ∈ fp, H' b = none) ∧ W i n σ' H') ?_ m0
      ⟨0, _, _, I4, st4, fun b hb => (f3 b hb).1, w0⟩
    rintro n s5 ⟨i, σ5, H5, I5, st5, fr5, w5⟩
    have stat : ∀ {H' : Hp}, (∀ b ∈ fp, H' b = none) → ∀ b ∈ fp, FpOk (compCx X N scope cl { s2 with heap := h3 } (upd H2 s2.heap.objs.size (.lst [])) fp pins) [] H' b := fun {H'} hn b hb => by
      obtain ⟨_, q1, q2, q3, q4, q5⟩ := f3 b hb
      refine ⟨hn b hb, fun z => ?_, I4.ok.exfs b hb, .inl hb, fun x c e => q4 x c (c1 x c e), fun p hp => q5 p (by simpa [compCx] using hp)⟩
      have hlt : b < h3.objs.size := by rw [sz3]; exact Nat.lt_succ_of_lt (fpl b hb)
      exact Nat.ne_of_lt hlt z
    rcases turn i n σ5 H5 w5 with ⟨stop, qn⟩ | ⟨go, step⟩
    · refine thn (T.done (compCx X N scope cl { s2 with heap := h3 } (upd H2 s2.heap.objs.size (.lst [])) fp pins) rfl rfl rfl hc i [] s5 σ5 H5 _ I5 (stat fr5) st5 stop) fun r s6 ⟨hr, I6⟩ => ?_
      subst hr
      obtain ⟨m, hm, _⟩ := I6.loc
      have u0 : Un (frs X.stack) fp (upd H2 s2.heap.objs.size (.lst [])) H5 h3 s6.heap := I6.base
      have I7 : Inv X pins σ H5 s6 := I3.call' (s' := s6) (ch := fp) I6.os u0 I6.hok I6.bare fun b hb => ⟨(f3 b hb).2.2.2.1, (f3 b hb).2.1, (f3 b hb).2.2.2.2.1, (f3 b hb).2.2.2.2.2⟩
      have hC : FpOk X pins H5 h3.objs.size := I3.fpOk (Nat.le_refl _) I6.free
      show wpAny _ X.A (assign (.Name x0 px0) X.env (.ref s2.heap.objs.size)) _ _ s6
      refine wpAny_assign_Name (store_ok2 I7 hNd hix hx0 (show RelV (.ref s2.heap.objs.size) (.ref s2.heap.objs.size) from rfl) (fun s8 I8 hsb => ?_) hf0)
      obtain ⟨a, sb, ha⟩ := hsb
      have hCa : h3.objs.size ≠ a := by
        rcases ha with rfl | ha
        · exact hC.2.1
        · exact fun z => hC.2.2.2.2.1 x0 a ha z.symm
      refine ⟨m, hm.sameBut sb hCa, fun h9 hs9 => ⟨_, H5, ?_, qn⟩⟩
      exact I8.turnedL (t' := s8.toks) (fp := [h3.objs.size]) (fun b o hb e => hs9.extBut b o (fun z => hb (by simp [z])) e) fun b hb => by rw [List.mem_singleton.mp hb]; exact hC
    · refine thn (T.item (compCx X N scope cl { s2 with heap := h3 } (upd H2 s2.heap.objs.size (.lst [])) fp pins) rfl rfl rfl hc i [] s5 σ5 H5 _ I5 (stat fr5) st5 go) fun r s6 ⟨u, hr, h6⟩ => ?_
      subst hr
      refine thn h6 fun _ s7 ⟨x, H7, I7, r7, y7, st7, fr7⟩ => ?_
      have I7' := I7.pinned (stat fr7) (T.obj _ _ st7)
      refine thn (hg _ _ _ _ _ _ s7 σ5 H7 x u _ I7' r7 (step x H7 y7)) fun _ s8 ⟨σ8, H8, I8, q8⟩ => ?_
      refine thn (ht _ _ _ _ _ _ s8 σ8 H8 _ I8 q8) fun ok s9 ⟨H9, I9, q9⟩ => ?_
      have again : ∀ {s' : Shared} {σ7 : St} {H7 : Hp}, Inv (compCx X N scope cl { s2 with heap := h3 } (upd H2 s2.heap.objs.size (.lst [])) fp pins) ([] ++ pinsAt fp s7.heap) σ7 H7 s' → (∃ m', m' < n ∧ W (i + 1) m' σ7 H7) →
          ∃ m, m < n ∧ ∃ i σ' H', Inv (compCx X N scope cl { s2 with heap := h3 } (upd H2 s2.heap.objs.size (.lst [])) fp pins) [] σ' H' s' ∧ tn i s'.heap ∧ (∀ b ∈ fp, H' b = none) ∧ W i m σ' H' := fun {s' σ7 H7} J7 n7 => by
        obtain ⟨m', hm, w7⟩ := n7
        refine ⟨m', hm, i + 1, σ7, H7, J7.unpinned, T.keep _ _ _ st7 fun b hb o e => (J7.pin (b, o) (List.mem_append_right _ (List.mem_append_right _ (mem_pinsAt hb e)))).1, fun b hb => ?_, w7⟩
        obtain ⟨o, e, d⟩ := T.obj _ _ st7 b hb
        exact (J7.pin (b, o) (List.mem_append_right _ (List.mem_append_right _ (mem_pinsAt hb e)))).2.1
      cases ok with
      | false =>
        rw [if_neg Bool.false_ne_true] at q9 ⊢
        exact again I9 q9
      | true =>
        rw [if_pos rfl] at q9 ⊢
        refine thn (he _ _ _ _ _ _ s9 σ8 H9 _ I9 q9) fun yv s10 ⟨y, H10, I10, r10, ys, hys, hz, w10⟩ => ?_
        refine thn (mt_append _ s10 σ8 H10 (.ref s2.heap.objs.size) [y] (.ref s2.heap.objs.size) [yv] (fun _ H11 => ∃ m', m' < n ∧ W (i + 1) m' σ8 H11) I10 rfl (.cons r10 .nil) ⟨_, ys, y, rfl, rfl, hys, hz, w10⟩) fun _ s11 ⟨v11, H11, I11, r11, q11⟩ => ?_
        exact again I11 q11
  exact codeAny_compStart_list loop (T.self _ 0 _ _ _ st4 loop)
end L2


set_option Elab.async false
set_option linter.all false
set_option maxRecDepth 100000
namespace L2
open PySem PySem.Spec PyProof.Rows
end L2


set_option Elab.async false
set_option linter.all false
set_option maxRecDepth 100000
namespace L2
open PySem PySem.Spec PyProof.Rows
/-! ### ''.join of a list of texts -/
theorem carried_strs : ∀ {zs : List Str} {us : List Value}, Vals (zs.map V.str) us → CarriedAll us (zs.map PyData.str)
  | [], _, .nil => .nil
  | z :: zs, _, .cons q r => by
    obtain ⟨t, rfl⟩ := (show ∃ t, _ = Value.str z t from q)
    exact .cons (.str z t) (carried_strs r)
section
variable {X : Cx}
def rJoin (K : PySem.W.Frag) : V → List V → Hp → VK → Prop := fun x vs H Q => ∃ (sep : Str) (l : Addr) (zs : List Str), x = .str sep ∧ vs = [.ref l] ∧ SqL K H l (zs.map V.str) ∧ (∀ z ∈ zs, z.length ≤ 8) ∧ sep.length ≤ 8 ∧ zs.length ≤ 1000 ∧ Q (.str (Txt.join sep zs)) H
theorem mtJoin (K : PySem.W.Frag) (hK : X.K = K) : MtR X "str.join" (rJoin K) := by
  subst hK
  intro pins s σ H x vs v us Q I rx rv h
  obtain ⟨sep, l, zs, rfl, rfl, hl, hz, hs, hn, q⟩ := h
  obtain ⟨t, rfl⟩ := rx
  obtain ⟨u, rfl, ru⟩ := vals1 rv
  cases (show u = Value.ref l from ru)
  obtain ⟨its, r, pl, _⟩ := I.list hl
  refine join_madeW (l := zs) (g := id) 8 pl.isList (by rw [List.map_id]; exact carried_strs r) (fun a ha => hz a ha) (by omega) (by omega) fun t' k => ?_
  rw [List.map_id]
  exact ⟨.str _, H, I.tok _, ⟨_, rfl⟩, q⟩
theorem peJoin (K : PySem.W.Frag) (h : X.K = K) {o e : Expr} {to : TE} {t : TA} {apos cpos : Pos} (ho : PE X o to) (ha : PA X [e] t)
    (hbase : attributeBase o "join" X.env (eval o X.env) = eval o X.env := by rfl)
    (hfew : ((backTo cpos (starEach [e] X.env)).all (fun x => !x.1) && (backToKw cpos (keywordEach [] X.env)).all (fun x => x.1.isSome)
      && decide ([e].length + ([] : List Keyword).length + (if ([] : List Keyword).isEmpty then 0 else 1) < 30)) = true := by rfl)
    (hline : (apos.endLine == cpos.line) = true := by rfl) (hs : starEach [e] X.env = (false, eval e X.env) :: starEach [] X.env := by rfl) (hplain : (backTo cpos (starEach [] X.env)).any (·.1) = false := by rfl) :
    PE X (.Call (.Attribute o "join" apos) [e] [] cpos) (tBM K "str" (rJoin K) to t) := by
  subst h; exact pe_bm PySem.F.plainAttrs_str PySem.F.slot_str_join PySem.F.type_str_join (mtJoin X.K rfl) ho ha hbase hfew hline hs hplain
end
end L2


set_option Elab.async false
set_option linter.all false
set_option maxRecDepth 100000
namespace L2
open PySem PySem.Spec PyProof.Rows
/-! ### a block one of whose names an inner block uses -/
section
variable {X : Cx} {pins : List (Addr × Obj)} {σ : St} {H : Hp} {s : Shared}
end
end L2


set_option Elab.async false
set_option linter.all false
set_option maxRecDepth 100000
namespace L2
open PySem PySem.Spec PyProof.Rows
/-! ### range(n) as a thing, list(range(n)) -/
section
variable {X : Cx}
theorem call_rangeO : CallR X (.type "range") (fun xs H Q => ∃ n, xs = [.int n] ∧ ∀ p H', Nw H H' p (.rng 0 n) → Q (.ref p) H') := by
  intro pins s σ H xs us Q I r h
  obtain ⟨n, rfl, q⟩ := h
  obtain ⟨u, rfl, t, rfl⟩ := vals1 r
  refine call_range_1 ?_
  have hf : H s.heap.objs.size = none := I.hok.fresh (Nat.le_refl _)
  refine ⟨.ref s.heap.objs.size, upd H s.heap.objs.size (.rng 0 n), I.laid (t' := s.toks + 1 + 1) (fun b u e => Heap.get?_push_of_some _ e) (Nat.le_refl _) ?_, rfl, q _ _ (.of hf)⟩
  exact ⟨_, _, _, Heap.get?_push_size _ rfl⟩
end
end L2


set_option Elab.async false
set_option linter.all false
set_option maxRecDepth 100000
namespace L2
open PySem PySem.Spec PyProof.Rows
/-! ### reversed(range(n)), walked -/
theorem sub_rgi_reversed : isSubtype (.type "range_iterator") (.type "reversed") = pure false := by rw [isSubtype_type]; kernel_rfl
section
variable {prog : Program} {w : World} {A : Around} {E : Value → Shared → Prop} {s : Shared}
abbrev rrObj (n : Nat) : Obj := { cls := .type "range_iterator", data := .fields #[rawInt (0 + ((n : Int) - 1) * 1), rawInt (n : Int), rawInt (-1)] }
abbrev rvSm (n : Nat) : Bool := Builtin.Range.rangeFitsLong 0 && Builtin.Range.rangeFitsLong n && Builtin.Range.rangeFitsLong 1 && Builtin.Range.rangeFitsLong (-1) && Builtin.Range.rangeFitsLong (0 - 1) && Builtin.Range.rangeFitsLong (Builtin.Range.rangeSize 0 n 1)
theorem rvSm_ok {n : Nat} (h : n < 2 ^ 62) : rvSm n = true := by
  unfold rvSm
  rw [rangeSize_one]
  simp only [Builtin.Range.rangeFitsLong, Bool.and_eq_true, decide_eq_true_eq]
  split <;> omega
theorem rev_meets (r : Addr) (a b c : Int) (t u v : Tok) (hc0 : ¬ (!(Builtin.Range.rangeFitsLong a && Builtin.Range.rangeFitsLong b && Builtin.Range.rangeFitsLong c && Builtin.Range.rangeFitsLong (-c) && Builtin.Range.rangeFitsLong (a - c) && Builtin.Range.rangeFitsLong (Builtin.Range.rangeSize a b c))) = true) : Meets (Builtin.«range.__reversed__» ⟨[.ref r], []⟩) (fun _ R s => s.heap.get? r = some { cls := .type "range", dict := none, data := .fields #[.int a t, .int b u, .int c v], slots := #[] } ∧
    R (.ok (.ret (.ref s.heap.objs.size))) { s with heap := s.heap.push { cls := .type (if (Builtin.Range.rangeFitsLong a && Builtin.Range.rangeFitsLong b && Builtin.Range.rangeFitsLong c && Builtin.Range.rangeFitsLong (-c) && Builtin.Range.rangeFitsLong (a - c) && Builtin.Range.rangeFitsLong (Builtin.Range.rangeSize a b c)) = true then "range_iterator" else "longrange_iterator"), data := .fields #[rawInt (a + (Builtin.Range.rangeSize a b c - 1) * c), rawInt (Builtin.Range.rangeSize a b c), rawInt (-c)] }, toks := s.toks }) :=
  .of_wp fun prog w A R s h => by
    obtain ⟨hp, g, d, tk, os⟩ := s
    obtain ⟨hl, h⟩ := h
    wp_walk
    exact ⟨_, rfl, h⟩
theorem call_rng_rev {l : Addr} {n : Nat} {t u v : Tok} {Q : Value → Shared → Prop} (hn : n < 2 ^ 62) (hl : s.heap.get? l = some { cls := .type "range", data := .fields #[.int 0 t, .int n u, .int 1 v] })
    (h : Q (.ref s.heap.objs.size) { s with heap := s.heap.push (rrObj n) }) : wpAny (model prog w) A (call (.builtin "range.__reversed__") [.ref l]) Q E s := by
  have hT : s.TypeIs (.ref l) "range" := ⟨_, hl, rfl⟩
  refine call_meets F.slot_range_reversed hT F.entry_range_reversed (F.args_range_reversed_1 _) (rev_meets l 0 n 1 t u v (by have := rvSm_ok hn; unfold rvSm at this; rw [this]; decide)) ⟨hl, ?_⟩
  rw [if_pos (rvSm_ok hn)]
  have e : Builtin.Range.rangeSize 0 n 1 = n := by rw [rangeSize_one]; split <;> omega
  rw [e]
  exact h
theorem code_rng_rev {l : Addr} {n : Nat} {t u v : Tok} {Q₁ : Value → Shared → Prop} (hn : n < 2 ^ 62) (hl : s.heap.get? l = some { cls := .type "range", data := .fields #[.int 0 t, .int n u, .int 1 v] })
    (h : Q₁ (.ref s.heap.objs.size) { s with heap := s.heap.push (rrObj n) }) :
    codeAny (model prog w) A (.call (.builtin "reversed.__new__") ⟨[.type "reversed", .ref l], []⟩) (wants Q₁ E) s := by
  have hT : s.TypeIs (.ref l) "range" := ⟨_, hl, rfl⟩
  refine codeAny_of_tree ?_
  show wpAny _ A.in1 (do checkBuiltinCall "reversed.__new__" ⟨[.type "reversed", .ref l], []⟩; again (.builtin "reversed.__new__" ⟨[.type "reversed", .ref l], []⟩)) _ _ s
  refine wpAny_bind (wpAny_of_eq (F.newCall_reversed_1 _) (wpAny_pure ⟨plainId_quiet F.plain_reversed_new _, codeAny_builtin F.entry_reversed_new ?_⟩))
  rw [Around.under_plainId F.plain_reversed_new _]
  unfold Builtin.«reversed.__new__»
  refine wpAny_bind (wpAny_of_eq (newClass_reversed _) ?_)
  try dsimp only
  refine wpAny_bind (wpAny_of_eq (a := ()) (by first | rfl | kernel_rfl) ?_)
  refine wpAny_bind (wpAny_of_eq (a := ()) (by first | rfl | kernel_rfl) ?_)
  try dsimp only
  refine wpAny_bind (wpAny_specialOf hT F.slot_range_reversed.lookup ?_)
  try dsimp only
  refine wpAny_bind (wpAny_of_eq (F.slot_range_reversed.bind _) ?_)
  try dsimp only
  first
  | rw [if_neg (show ¬ ((Value.builtin "range.__reversed__" == Value.none) = true) from Bool.false_ne_true)]
  | (show wpAny _ _ (if (Value.builtin "range.__reversed__" == Value.none) = true then _ else _) _ _ _; rw [if_neg (show ¬ ((Value.builtin "range.__reversed__" == Value.none) = true) from Bool.false_ne_true)])
  refine wpAny_bind (wpAny_rule ?_)
  refine wpAny_bind (m := runValue (.call (.builtin "range.__reversed__") ⟨[.ref l], []⟩)) (show wpAny _ _ (call (.builtin "range.__reversed__") [.ref l]) _ _ _ from call_rng_rev hn hl ?_)
  first
  | exact wpAny_pure h
  | exact wpAny_bind (wpAny_pure (wpAny_pure h))
theorem call_rev_rng {l : Addr} {n : Nat} {t u v : Tok} {Q : Value → Shared → Prop} (hn : n < 2 ^ 62) (hl : s.heap.get? l = some { cls := .type "range", data := .fields #[.int 0 t, .int n u, .int 1 v] })
    (h : Q (.ref s.heap.objs.size) { s with heap := s.heap.push (rrObj n) }) : wpAny (model prog w) A (call (.type "reversed") [.ref l]) Q E s := by
  refine callType_other (U := "range_iterator") (Q₁ := fun obj s₁ => obj = .ref s.heap.objs.size ∧ s₁ = { s with heap := s.heap.push (rrObj n) }) (by decide +kernel) F.create_reversed ⟨_, _, F.mro_reversed⟩ F.made_reversed sub_rgi_reversed (F.typeCall_reversed_1 _) (code_rng_rev hn hl ⟨rfl, rfl⟩) ?_
  rintro obj s₁ ⟨rfl, rfl⟩
  exact ⟨⟨_, Heap.get?_push_size _ rfl, rfl⟩, h⟩
end
/-- n - 1, n - 2, .. -/
def Itv (n : Nat) : It := ⟨fun i _ => i < n, fun i H x H' => H' = H ∧ x = .int ((n : Int) - 1 - i), fun i _ => n ≤ i⟩
theorem turn_rev {P : Program} {w : World} {K : PySem.W.Frag} {tg : Expr} (it : Addr) (n : Nat) : Turn P w K tg (Itv n) [it] it (fun i h => IsRangeIter h it ((0 + ((n : Int) - 1) * 1) + (i : Nat) * (-1)) ((n : Int) - (i : Nat)) (-1)) where
  mem := by simp
  obj := fun i h st b hb => by
    have e : b = it := by simpa using hb
    subst e
    exact ⟨_, st, fun v z => by
      have z' : Data.fields _ = Data.cell v := z
      cases z'⟩
  keep := fun i h h' st k => k it (by simp) _ st
  item := by
    intro X hP hw hK hc i pins s σ H E I hf st hg
    subst hP hw hK
    obtain ⟨f0, f1, f2, f3, f4, f5⟩ := hf it (by simp)
    have W := Walks.range (prog := X.prog) (w := X.w) (I.ok.hd hc) it (0 + ((n : Int) - 1) * 1) (-1) n
    refine W.item i s _ _ hg st fun v h' tk hv st' kk => ?_
    obtain ⟨t, rfl⟩ := hv
    have I1 : Inv X pins σ H { s with heap := h', toks := tk } := I.turned (fun b o hb e => kk b o (by simpa using hb) e) f0 f1 f3 f4 f5
    refine ⟨_, rfl, go_of (s := { s with heap := h', toks := tk }) (n := "range_iterator") st' rfl rfl (by decide) ⟨.int ((n : Int) - 1 - i), H, I1, ⟨t, ?_⟩, ⟨rfl, rfl⟩, st', fun b hb => (hf b hb).1⟩⟩
    have e : (0 + ((n : Int) - 1) * 1) + (i : Int) * (-1) = (n : Int) - 1 - i := by omega
    rw [e]
  done := by
    intro X hP hw hK hc i pins s σ H E I hf st hg
    subst hP hw hK
    obtain ⟨f0, f1, f2, f3, f4, f5⟩ := hf it (by simp)
    exact wpAny_pyNext_range_end (I.ok.hd hc) st (by have : n ≤ i := hg; omega) fun h' eb => ⟨rfl, I.turned (t' := s.toks) (fun b o hb e => eb b o hb e) f0 f1 f3 f4 f5⟩
  self := fun _ _ _ _ _ st h => wpAny_pyIter_rangeiter st h
def iRev (ta : TA) : TI := fun σ H R => ta σ H fun vs H1 => ∃ p n, vs = [.ref p] ∧ H1 p = some (.rng 0 n) ∧ 0 ≤ n ∧ n < 2 ^ 62 ∧ R (Itv n.toNat) H1
theorem pi_rev {X : Cx} {tg : Expr} {a : Expr} {ta : TA} {p pos : Pos} (hg : Gl X "reversed") (hm : X.mg "reversed" = none) (ha : PA X [a] ta) (hs : starEach [a] X.env = [(false, eval a X.env)] := by rfl) (hs2 : starEach [] X.env = [] := by rfl) :
    PI X tg (.Call (.Name "reversed" p) [a] [] pos) (iRev ta) := by
  intro pins s σ H R I h
  refine Call_ (ld_blt I hg hm PyProof.Rows.boot_reversed (PyProof.Rows.callWith_type1 (thn (ha pos pins s σ H _ I h) fun us s1 ⟨vs, H1, I1, r1, q1⟩ => ?_) (by rw [hs, hs2]) (by rw [hs2]; rfl)))
  obtain ⟨l, n, e, hl, n0, n1, q⟩ := q1
  subst e
  obtain ⟨u1, rfl, ru1⟩ := vals1 r1
  cases (show u1 = Value.ref l from ru1)
  obtain ⟨t, u, v, e⟩ : ∃ t u v, s1.heap.get? l = some { cls := .type "range", data := .fields #[.int 0 t, .int n u, .int 1 v] } := I1.hok l _ hl
  obtain ⟨m, rfl⟩ : ∃ m : Nat, n = m := ⟨n.toNat, by omega⟩
  refine call_rev_rng (by omega) e ?_
  have hit : IsRangeIter (s1.heap.push (rrObj m)) s1.heap.objs.size ((0 + ((m : Int) - 1) * 1) + ((0 : Nat) : Int) * (-1)) ((m : Int) - ((0 : Nat) : Int)) (-1) := by
    have e1 : (0 + ((m : Int) - 1) * 1) + ((0 : Nat) : Int) * (-1) = 0 + ((m : Int) - 1) * 1 := by omega
    have e2 : (m : Int) - ((0 : Nat) : Int) = m := by omega
    rw [e1, e2]
    exact Heap.get?_push_size _ rfl
  refine wpAny_pyIter_rangeiter hit ?_
  refine ⟨s1.heap.objs.size, [s1.heap.objs.size], _, _, H1, rfl, I1.kept (t' := s1.toks) fun b o e => Heap.get?_push_of_some _ e, turn_rev _ m, hit, fun b hb => ?_, q⟩
  have e : b = s1.heap.objs.size := by simpa using hb
  subst e
  exact I1.fpOk (Nat.le_refl _) (I1.hok.fresh (Nat.le_refl _))
theorem for_rev {n : Nat} {g : TG} {tb : TS} {D : Ends} {σ : St} {H : Hp} (Pv : Nat → St → Hp → Prop) (h0 : Pv 0 σ H)
    (hs : ∀ i σ H, i < n → Pv i σ H → g (.int ((n : Int) - 1 - i)) σ H fun σ2 H2 => tb { D with nx := Pv (i + 1), ct := Pv (i + 1), bk := D.nx } σ2 H2) (hd : ∀ σ H, Pv n σ H → D.nx σ H) :
    ∃ W : Nat → Nat → St → Hp → Prop, (∃ m, W 0 m σ H) ∧ ∀ i m σ H, W i m σ H →
      ((Itv n).stop i H ∧ D.nx σ H) ∨ ((Itv n).go i H ∧ ∃ N : St → Hp → Prop, (∀ σ' H', N σ' H' → ∃ m', m' < m ∧ W (i + 1) m' σ' H') ∧ ∀ x H', (Itv n).yld i H x H' → g x σ H' fun σ2 H2 => tb { D with nx := N, ct := N, bk := D.nx } σ2 H2) := by
  refine ⟨fun i m σ H => m = n - i ∧ i ≤ n ∧ Pv i σ H, ⟨n, by simp, Nat.zero_le _, h0⟩, ?_⟩
  rintro i m σ H ⟨rfl, hi, p⟩
  by_cases hlt : i < n
  · refine .inr ⟨hlt, Pv (i + 1), fun σ' H' q => ⟨n - (i + 1), by omega, rfl, hlt, q⟩, fun x H' hy => ?_⟩
    obtain ⟨rfl, rfl⟩ := hy
    exact hs i σ _ hlt p
  · have e : i = n := by omega
    subst e
    exact .inl ⟨Nat.le_refl _, hd σ H p⟩
end L2
namespace L2
open PySem PySem.Spec PyProof.Rows
theorem pt_truK (K : PySem.W.Frag) {X : Cx} (hK : X.K = K) {a : Expr} {ta : TE} (ha : PE X a ta) (he : ∀ whole, isTrue a X.env whole = (do let v ← whole; standAt a.pos; holding [v] (truthy v)) := by intro _; rfl) :
    PT X a (fun σ H Q => ta σ H fun x H' => ∃ k, TruV K x H' k ∧ Q k H') := by
  subst hK
  exact pt_truth ha he
end L2


set_option Elab.async false
set_option linter.all false
namespace Cn
open Ln
/-- the ways' differences, over the product of both leads -/
def crossZ (ns ms : List Int) : List Int := (ns.zip ms).map fun p => p.1 * (leadN ms : Int) - p.2 * (leadN ns : Int)
theorem mem_cross {ns ms : List Int} {z : Int} (h : z ∈ crossZ ns ms) : ∃ a b, a ∈ ns ∧ b ∈ ms ∧ z = a * (leadN ms : Int) - b * (leadN ns : Int) := by
  obtain ⟨⟨a, b⟩, hp, rfl⟩ := List.mem_map.mp h
  exact ⟨a, b, (List.of_mem_zip hp).1, (List.of_mem_zip hp).2, rfl⟩
theorem mul_bd {a b : Int} {m n : Nat} (h : a.natAbs ≤ m) (g : b.natAbs ≤ n) : (a * b).natAbs ≤ m * n := by rw [Int.natAbs_mul]; exact Nat.mul_le_mul h g
theorem cross_bd {ns ms : List Int} (h1 : ∀ z ∈ ns, z.natAbs ≤ 1000) (h2 : ∀ z ∈ ms, z.natAbs ≤ 1000) : ∀ z ∈ crossZ ns ms, z.natAbs ≤ 2000000 := fun z hz => by
  obtain ⟨a, b, ha, hb, rfl⟩ := mem_cross hz
  have l1 := lead_max h1
  have l2 := lead_max h2
  have e1 := mul_bd (b := (leadN ms : Int)) (n := 1000) (h1 a ha) (by omega)
  have e2 := mul_bd (b := (leadN ns : Int)) (n := 1000) (h2 b hb) (by omega)
  omega
/-- the greatest of the first ones -/
def hiN (zs : List Int) (i : Nat) : Nat := leadN (zs.take i)
theorem leadN_append : ∀ (xs ys : List Int), leadN (xs ++ ys) = max (leadN xs) (leadN ys)
  | [], ys => by simp [leadN]
  | x :: xs, ys => by
    show max x.natAbs (leadN (xs ++ ys)) = max (max x.natAbs (leadN xs)) (leadN ys)
    rw [leadN_append xs ys]; omega
theorem hiN_succ {zs : List Int} {i : Nat} {z : Int} (h : zs[i]? = some z) : hiN zs (i + 1) = max (hiN zs i) z.natAbs := by
  unfold hiN
  rw [List.take_succ, h, leadN_append]
  show max _ (max z.natAbs 0) = _
  omega
/-- without sign -/
def absR (r : Rat) : Rat := if r.num < 0 then -r else r
theorem absR_num (r : Rat) : (absR r).num = absI r.num := by
  unfold absR absI; split
  · rfl
  · rfl
theorem absR_den (r : Rat) : (absR r).den = r.den := by
  unfold absR; split
  · rfl
  · rfl
theorem div_num {a b : Int} (hb : 0 < b) : 0 ≤ (Rat.divInt a b).num ↔ 0 ≤ a := by
  rw [Rat.num_nonneg, Rat.divInt_nonneg_iff_of_pos_right hb]
theorem absR_div {c L : Int} (hL : 0 < L) : absR (Rat.divInt c L) = Rat.divInt (absI c) L := by
  have h := div_num (a := c) hL
  unfold absR absI
  by_cases hc : c < 0
  · rw [if_pos hc, if_pos (by omega), Rat.neg_divInt]
  · rw [if_neg hc, if_neg (by omega)]
theorem div_le {a b L : Int} (hL : 0 < L) : Rat.divInt a L ≤ Rat.divInt b L ↔ a ≤ b := by
  rw [Rat.le_iff_sub_nonneg, Rat.divInt_sub_divInt _ _ (by omega) (by omega), Rat.divInt_nonneg_iff_of_pos_right (Int.mul_pos hL hL), ← Int.sub_mul]
  constructor
  · intro h
    have := Int.nonneg_of_mul_nonneg_left h hL
    omega
  · intro h
    exact Int.mul_nonneg (by omega) (by omega)
theorem div_lt {a b L : Int} (hL : 0 < L) : Rat.divInt a L < Rat.divInt b L ↔ a < b := by
  rw [← Rat.not_le, div_le hL]; omega
theorem sub_ways {a b l1 l2 : Int} (h1 : 0 < l1) (h2 : 0 < l2) : Rat.divInt b l2 - Rat.divInt a l1 = Rat.divInt (b * l1 - a * l2) (l1 * l2) := by
  rw [Rat.divInt_sub_divInt _ _ (by omega) (by omega), Int.mul_comm l2 l1]
theorem corner_eq {j p q h L : Int} (hp : p ≠ 0) (hh : h ≠ 0) (e : p * L = h * q) : Rat.divInt (j * j * q * q) (p * p) = Rat.divInt ((j * L) ^ 2) (h ^ 2) := by
  rw [Rat.divInt_eq_divInt_iff (Int.mul_ne_zero hp hp) (by rw [Int.pow_succ, Int.pow_succ, Int.pow_zero, Int.one_mul]; exact Int.mul_ne_zero hh hh)]
  have e2 : (p * L) * (p * L) = (h * q) * (h * q) := by rw [e]
  rw [Int.pow_succ, Int.pow_succ, Int.pow_zero, Int.one_mul, Int.pow_succ, Int.pow_succ, Int.pow_zero, Int.one_mul]
  have a1 : j * j * q * q * (h * h) = (j * j) * ((h * q) * (h * q)) := by ac_rfl
  have a2 : j * L * (j * L) * (p * p) = (j * j) * ((p * L) * (p * L)) := by ac_rfl
  rw [a1, a2, e2]
end Cn


set_option Elab.async false
set_option linter.all false
namespace Pn
/-- the lesser -/
def mn (a b : Rat) : Rat := if b < a then b else a
theorem mn_le_l (a b : Rat) : mn a b ≤ a := by
  unfold mn; split
  · next h => exact Rat.le_of_lt h
  · exact Rat.le_refl
theorem mn_le_r (a b : Rat) : mn a b ≤ b := by
  unfold mn; split
  · exact Rat.le_refl
  · next h => exact Rat.not_lt.mp h
theorem le_mn {a b c : Rat} (h1 : c ≤ a) (h2 : c ≤ b) : c ≤ mn a b := by
  unfold mn; split <;> assumption
theorem mn_cases (a b : Rat) : mn a b = a ∨ mn a b = b := by
  unfold mn; split
  · exact .inr rfl
  · exact .inl rfl
theorem mn_eq_of {a b c : Rat} (hc : c = a ∨ c = b) (h1 : c ≤ a) (h2 : c ≤ b) : mn a b = c := by
  rcases hc with rfl | rfl
  · exact Rat.le_antisymm (mn_le_l _ _) (le_mn h1 h2)
  · exact Rat.le_antisymm (mn_le_r _ _) (le_mn h1 h2)
theorem le_add {a b c : Rat} (h : a ≤ b) (hc : 0 ≤ c) : a ≤ b + c := Rat.le_trans h (by have := (Rat.add_le_add_left (c := b)).mpr hc; rwa [Rat.add_zero] at this)
theorem add_r {a b c : Rat} (h : a ≤ b) : a + c ≤ b + c := Rat.add_le_add_right.mpr h
section
variable (n : Nat) (own : Nat → Rat) (L : Nat → Option Nat) (r f : Int)
/-- behind the pass that keeps the rises -/
def Rz : Nat → Rat
  | 0 => own 0
  | i + 1 => match L i with
    | some m => mn (own (i + 1)) (Rz i + ((r * (m : Int) : Int) : Rat))
    | none => own (i + 1)
/-- behind a pass that keeps the falls, at the border that is k ahead of the last one -/
def Pz (g : Nat → Rat) : Nat → Rat
  | 0 => g n
  | k + 1 => match L (n - (k + 1)) with
    | some m => mn (g (n - (k + 1))) (Pz g k + ((f * (m : Int) : Int) : Rat))
    | none => g (n - (k + 1))
def fl (g : Nat → Rat) (i : Nat) : Rat := Pz n L f g (n - i)
def plan (i : Nat) : Rat := fl n L f (Rz own L r) i
end
section
variable {n : Nat} {own g : Nat → Rat} {L : Nat → Option Nat} {r f : Int}
theorem fl_n : fl n L f g n = g n := by unfold fl; rw [Nat.sub_self]; rfl
theorem fl_line {i m : Nat} (hi : i < n) (h : L i = some m) : fl n L f g i = mn (g i) (fl n L f g (i + 1) + ((f * (m : Int) : Int) : Rat)) := by
  unfold fl
  have e : n - i = (n - (i + 1)) + 1 := by omega
  rw [e]
  show (match L (n - ((n - (i + 1)) + 1)) with | some m => _ | none => _) = _
  have e2 : n - ((n - (i + 1)) + 1) = i := by omega
  rw [e2, h]
theorem fl_no {i : Nat} (hi : i < n) (h : L i = none) : fl n L f g i = g i := by
  unfold fl
  have e : n - i = (n - (i + 1)) + 1 := by omega
  rw [e]
  show (match L (n - ((n - (i + 1)) + 1)) with | some m => _ | none => _) = _
  have e2 : n - ((n - (i + 1)) + 1) = i := by omega
  rw [e2, h]
theorem plan_n : plan n own L r f n = Rz own L r n := fl_n
theorem plan_line {i m : Nat} (hi : i < n) (h : L i = some m) : plan n own L r f i = mn (Rz own L r i) (plan n own L r f (i + 1) + ((f * (m : Int) : Int) : Rat)) := fl_line hi h
theorem plan_no {i : Nat} (hi : i < n) (h : L i = none) : plan n own L r f i = Rz own L r i := fl_no hi h
theorem Rz_line {i m : Nat} (h : L i = some m) : Rz own L r (i + 1) = mn (own (i + 1)) (Rz own L r i + ((r * (m : Int) : Int) : Rat)) := by
  show (match L i with | some m => _ | none => _) = _
  rw [h]
theorem Rz_no {i : Nat} (h : L i = none) : Rz own L r (i + 1) = own (i + 1) := by
  show (match L i with | some m => _ | none => _) = _
  rw [h]
theorem Rz_le (i : Nat) : Rz own L r i ≤ own i := by
  cases i with
  | zero => exact Rat.le_refl
  | succ i =>
    cases h : L i with
    | none => rw [Rz_no h]; exact Rat.le_refl
    | some m => rw [Rz_line h]; exact mn_le_l _ _
theorem plan_le_Rz {i : Nat} (hi : i ≤ n) : plan n own L r f i ≤ Rz own L r i := by
  rcases Nat.lt_or_eq_of_le hi with hi | rfl
  · cases h : L i with
    | none => rw [plan_no hi h]; exact Rat.le_refl
    | some m => rw [plan_line hi h]; exact mn_le_l _ _
  · rw [plan_n]; exact Rat.le_refl
theorem plan_le_own {i : Nat} (hi : i ≤ n) : plan n own L r f i ≤ own i := Rat.le_trans (plan_le_Rz hi) (Rz_le i)
theorem plan_fall {i m : Nat} (hi : i < n) (h : L i = some m) : plan n own L r f i ≤ plan n own L r f (i + 1) + ((f * (m : Int) : Int) : Rat) := by
  rw [plan_line hi h]; exact mn_le_r _ _
theorem mul_nn {a : Int} {m : Nat} (h : 0 ≤ a) : (0 : Rat) ≤ ((a * (m : Int) : Int) : Rat) := by
  have : ((0 : Int) : Rat) ≤ ((a * (m : Int) : Int) : Rat) := Rat.intCast_le_intCast.mpr (Int.mul_nonneg h (by omega))
  exact this
theorem plan_rise {i m : Nat} (hi : i < n) (h : L i = some m) (hr : 0 ≤ r) (hf : 0 ≤ f) : plan n own L r f (i + 1) ≤ plan n own L r f i + ((r * (m : Int) : Int) : Rat) := by
  have h1 : plan n own L r f (i + 1) ≤ Rz own L r i + ((r * (m : Int) : Int) : Rat) := by
    refine Rat.le_trans (plan_le_Rz hi) ?_
    rw [Rz_line h]; exact mn_le_r _ _
  rw [plan_line hi h]
  rcases mn_cases (Rz own L r i) (plan n own L r f (i + 1) + ((f * (m : Int) : Int) : Rat)) with e | e
  · rw [e]; exact h1
  · rw [e]; exact le_add (le_add Rat.le_refl (mul_nn hf)) (mul_nn hr)
theorem Rz_nn (hr : 0 ≤ r) (h0 : ∀ i, i ≤ n → 0 ≤ own i) : ∀ i, i ≤ n → 0 ≤ Rz own L r i
  | 0, hi => h0 0 hi
  | i + 1, hi => by
    cases h : L i with
    | none => rw [Rz_no h]; exact h0 _ hi
    | some m => rw [Rz_line h]; exact le_mn (h0 _ hi) (le_add (Rz_nn hr h0 i (by omega)) (mul_nn hr))
theorem down {C : Nat → Prop} (hn : C n) (hs : ∀ i, i < n → C (i + 1) → C i) : ∀ i, i ≤ n → C i := by
  have key : ∀ k, k ≤ n → C (n - k) := fun k => by
    induction k with
    | zero => intro _; exact hn
    | succ k ih =>
      intro hk
      refine hs _ (by omega) ?_
      have e : n - (k + 1) + 1 = n - k := by omega
      rw [e]; exact ih (by omega)
  intro i hi
  have := key (n - i) (by omega)
  have e : n - (n - i) = i := by omega
  rwa [e] at this
theorem plan_nn (hr : 0 ≤ r) (hf : 0 ≤ f) (h0 : ∀ i, i ≤ n → 0 ≤ own i) : ∀ i, i ≤ n → 0 ≤ plan n own L r f i := by
  refine down ?_ fun i hi ih => ?_
  · rw [plan_n]; exact Rz_nn hr h0 n (Nat.le_refl _)
  · cases h : L i with
    | none => rw [plan_no hi h]; exact Rz_nn hr h0 i (by omega)
    | some m => rw [plan_line hi h]; exact le_mn (Rz_nn hr h0 i (by omega)) (le_add ih (mul_nn hf))
/-- a plan -/
structure Keeps (n : Nat) (own : Nat → Rat) (L : Nat → Option Nat) (r f : Int) (q : Nat → Rat) : Prop where
  own : ∀ i, i ≤ n → q i ≤ own i
  rise : ∀ i m, i < n → L i = some m → q (i + 1) ≤ q i + ((r * (m : Int) : Int) : Rat)
  fall : ∀ i m, i < n → L i = some m → q i ≤ q (i + 1) + ((f * (m : Int) : Int) : Rat)
theorem plan_keeps (hr : 0 ≤ r) (hf : 0 ≤ f) : Keeps n own L r f (plan n own L r f) := ⟨fun i hi => plan_le_own hi, fun i m hi h => plan_rise hi h hr hf, fun i m hi h => plan_fall hi h⟩
theorem keeps_le_Rz {q : Nat → Rat} (k : Keeps n own L r f q) : ∀ i, i ≤ n → q i ≤ Rz own L r i
  | 0, hi => k.own 0 hi
  | i + 1, hi => by
    cases h : L i with
    | none => rw [Rz_no h]; exact k.own _ hi
    | some m => rw [Rz_line h]; exact le_mn (k.own _ hi) (Rat.le_trans (k.rise i m (by omega) h) (add_r (keeps_le_Rz k i (by omega))))
theorem keeps_le {q : Nat → Rat} (k : Keeps n own L r f q) : ∀ i, i ≤ n → q i ≤ plan n own L r f i := by
  refine down ?_ fun i hi ih => ?_
  · rw [plan_n]; exact keeps_le_Rz k n (Nat.le_refl _)
  · cases h : L i with
    | none => rw [plan_no hi h]; exact keeps_le_Rz k i (by omega)
    | some m => rw [plan_line hi h]; exact le_mn (keeps_le_Rz k i (by omega)) (Rat.le_trans (k.fall i m hi h) (add_r ih))
/-- the greatest one is it -/
theorem plan_uniq {q : Nat → Rat} (hr : 0 ≤ r) (hf : 0 ≤ f) (k : Keeps n own L r f q) (g : ∀ q', Keeps n own L r f q' → ∀ i, i ≤ n → q' i ≤ q i) : ∀ i, i ≤ n → q i = plan n own L r f i := fun i hi =>
  Rat.le_antisymm (keeps_le k i hi) (g _ (plan_keeps hr hf) i hi)
end
/-! ### sizes -/
open Rt
theorem mn_bd {n : Nat} {a b : Rat} (h1 : Bd n a) (h2 : Bd n b) : Bd n (mn a b) := by
  rcases mn_cases a b with e | e <;> rw [e] <;> assumption
theorem add_bd {n : Nat} {q : Rat} {z : Int} (h : Bd n q) (hz : z.natAbs < 2 ^ 24) : Bd (n + 25) (q + (z : Rat)) := by
  have b : Bd 24 (z : Rat) := ⟨hz, by show 1 < 2 ^ 24; decide⟩
  exact (h.add b).mono (by omega)
theorem Rz_bd {b : Nat} {own : Nat → Rat} {L : Nat → Option Nat} {r : Int} (ho : ∀ i, Bd b (own i)) (hL : ∀ i m, L i = some m → (r * (m : Int)).natAbs < 2 ^ 24) : ∀ i, Bd (b + 25 * i) (Rz own L r i)
  | 0 => ho 0
  | i + 1 => by
    cases h : L i with
    | none => rw [Rz_no h]; exact (ho _).mono (by omega)
    | some m =>
      rw [Rz_line h]
      exact mn_bd ((ho _).mono (by omega)) ((add_bd (Rz_bd ho hL i) (hL i m h)).mono (by omega))
theorem fl_bd {n b : Nat} {g : Nat → Rat} {L : Nat → Option Nat} {f : Int} (ho : ∀ i, i ≤ n → Bd b (g i)) (hL : ∀ i m, L i = some m → (f * (m : Int)).natAbs < 2 ^ 24) : ∀ i, i ≤ n → Bd (b + 25 * (n - i)) (fl n L f g i) := by
  refine down ?_ fun i hi ih => ?_
  · rw [fl_n]; exact (ho n (Nat.le_refl _)).mono (by omega)
  · cases h : L i with
    | none => rw [fl_no hi h]; exact (ho i (by omega)).mono (by omega)
    | some m => rw [fl_line hi h]; exact mn_bd ((ho i (by omega)).mono (by omega)) ((add_bd ih (hL i m h)).mono (by omega))
/-! ### lists of them -/
def lst (n : Nat) (g : Nat → Rat) : List Rat := (List.range (n + 1)).map g
theorem lst_len (n : Nat) (g : Nat → Rat) : (lst n g).length = n + 1 := by simp [lst]
theorem lst_get {n : Nat} (g : Nat → Rat) {i : Nat} (h : i ≤ n) : (lst n g)[i]? = some (g i) := by
  unfold lst
  rw [List.getElem?_map, List.getElem?_eq_getElem (by simp; omega), List.getElem_range]; rfl
theorem lst_set {n : Nat} {g g' : Nat → Rat} {i : Nat} (h : ∀ k, k ≤ n → k ≠ i → g' k = g k) : (lst n g).set i (g' i) = lst n g' := by
  apply List.ext_getElem?
  intro k
  by_cases hk : k ≤ n
  · rw [lst_get g' hk, List.getElem?_set]
    by_cases e : i = k
    · subst e; rw [if_pos rfl, if_pos (by rw [lst_len]; omega)]
    · rw [if_neg e, lst_get g hk, h k hk (fun z => e z.symm)]
  · rw [List.getElem?_eq_none (by rw [List.length_set, lst_len]; omega), List.getElem?_eq_none (by rw [lst_len]; omega)]
theorem lst_congr {n : Nat} {g g' : Nat → Rat} (h : ∀ k, k ≤ n → g' k = g k) : lst n g = lst n g' := by
  apply List.ext_getElem?
  intro k
  by_cases hk : k ≤ n
  · rw [lst_get g hk, lst_get g' hk, h k hk]
  · rw [List.getElem?_eq_none (by rw [lst_len]; omega), List.getElem?_eq_none (by rw [lst_len]; omega)]
end Pn


set_option Elab.async false
set_option linter.all false
namespace Ow
open Pn Cn Ln Rt
abbrev Itm := Option (List Int × Int)
def topR (rate sp : Int) : Rat := Rat.divInt ((sp * rate) ^ 2) 10000
def cornO (j : Int) (ns ms : List Int) : Option Rat := if leadN (crossZ ns ms) = 0 then none else some (Rat.divInt ((j * leadN ns * leadN ms) ^ 2) ((leadN (crossZ ns ms) : Int) ^ 2))
def mnO (a : Rat) : Option Rat → Rat
  | none => a
  | some c => mn a c
def betR (j rate : Int) : Itm → Itm → Rat
  | some (ns, sp), some (ms, sq) => mnO (mn (topR rate sp) (topR rate sq)) (cornO j ns ms)
  | _, _ => 0
def atO (os : List Itm) (i : Nat) : Itm := (os[i]?).join
def ownF (j rate : Int) (os : List Itm) : Nat → Rat
  | 0 => 0
  | i + 1 => betR j rate (atO os i) (atO os (i + 1))
def leadF (os : List Itm) (i : Nat) : Option Nat := (atO os i).map fun q => leadN q.1
def ownL (j rate : Int) (os : List Itm) : List Rat := (List.range (os.length + 1)).map (ownF j rate os)
theorem atO_of {os : List Itm} {i : Nat} {o : Itm} (h : os[i]? = some o) : atO os i = o := by unfold atO; rw [h]; rfl
theorem atO_none {os : List Itm} {i : Nat} (h : os.length ≤ i) : atO os i = none := by unfold atO; rw [List.getElem?_eq_none h]; rfl
theorem betR_none_r (j rate : Int) (o : Itm) : betR j rate o none = 0 := by unfold betR; split <;> simp_all
theorem betR_none_l (j rate : Int) (o : Itm) : betR j rate none o = 0 := by unfold betR; split <;> simp_all
theorem ownF_last (j rate : Int) (os : List Itm) : ∀ n, n = os.length → ownF j rate os n = 0
  | 0, _ => rfl
  | n + 1, h => by
    show betR j rate (atO os n) (atO os (n + 1)) = 0
    rw [atO_none (i := n + 1) (by omega)]; exact betR_none_r _ _ _
theorem ownL_len (j rate : Int) (os : List Itm) : (ownL j rate os).length = os.length + 1 := by simp [ownL]
theorem ownL_get (j rate : Int) (os : List Itm) {i : Nat} (h : i ≤ os.length) : (ownL j rate os)[i]? = some (ownF j rate os i) := by
  unfold ownL
  rw [List.getElem?_map, List.getElem?_eq_getElem (by simp; omega), List.getElem_range]; rfl
/-- by pieces -/
theorem ownL_eq (j rate : Int) {os : List Itm} (h : os ≠ []) : ownL j rate os = [0] ++ (List.range (os.length - 1)).map (fun i => ownF j rate os (i + 1)) ++ [0] := by
  have h0 : 0 < os.length := List.length_pos_iff.mpr h
  apply List.ext_getElem?
  intro i
  by_cases hi : i ≤ os.length
  · rw [ownL_get j rate os hi]
    rcases Nat.eq_zero_or_pos i with rfl | hp
    · rfl
    · by_cases hl : i = os.length
      · rw [List.getElem?_append_right (by simp; omega), hl, ownF_last j rate os _ rfl]
        have : os.length - ([0] ++ List.map (fun i => ownF j rate os (i + 1)) (List.range (os.length - 1))).length = 0 := by simp; omega
        rw [this]; rfl
      · rw [List.getElem?_append_left (by simp; omega), List.getElem?_append_right (by simp; omega), List.getElem?_map]
        have e : i - [(0 : Rat)].length = i - 1 := rfl
        rw [e, List.getElem?_eq_getElem (by simp; omega), List.getElem_range]
        show some _ = some (ownF j rate os (i - 1 + 1))
        rw [Nat.sub_add_cancel hp]
  · rw [List.getElem?_eq_none (by rw [ownL_len]; omega), List.getElem?_eq_none (by simp; omega)]
theorem topR_nn (rate sp : Int) : 0 ≤ topR rate sp := by
  unfold topR
  rw [Rat.divInt_nonneg_iff_of_pos_right (by decide), Int.pow_succ, Int.pow_succ, Int.pow_zero, Int.one_mul]
  rcases Int.le_total 0 (sp * rate) with h | h
  · exact Int.mul_nonneg h h
  · exact Int.mul_nonneg_of_nonpos_of_nonpos h h
theorem sq_nn (a : Int) : 0 ≤ a ^ 2 := by
  rw [Int.pow_succ, Int.pow_succ, Int.pow_zero, Int.one_mul]
  rcases Int.le_total 0 a with h | h
  · exact Int.mul_nonneg h h
  · exact Int.mul_nonneg_of_nonpos_of_nonpos h h
theorem cornO_nn {j : Int} {ns ms : List Int} {c : Rat} (h : cornO j ns ms = some c) : 0 ≤ c := by
  unfold cornO at h
  split at h
  · cases h
  · next h0 =>
    cases h
    rw [Rat.divInt_nonneg_iff_of_pos_right]
    · exact sq_nn _
    · rw [Int.pow_succ, Int.pow_succ, Int.pow_zero, Int.one_mul]; exact Int.mul_pos (by omega) (by omega)
theorem betR_nn (j rate : Int) (o p : Itm) : 0 ≤ betR j rate o p := by
  unfold betR
  split
  · next ns sp ms sq =>
    have h := le_mn (topR_nn rate sp) (topR_nn rate sq)
    unfold mnO
    split
    · exact h
    · next c e => exact le_mn h (cornO_nn e)
  · exact Rat.le_refl
theorem ownF_nn (j rate : Int) (os : List Itm) : ∀ i, 0 ≤ ownF j rate os i
  | 0 => Rat.le_refl
  | i + 1 => betR_nn _ _ _ _
/-! ### sizes -/
def OkI (o : Itm) : Prop := ∀ ns sp, o = some (ns, sp) → (∀ z ∈ ns, (z.natAbs : Int) ≤ 100) ∧ 1 ≤ sp ∧ sp ≤ 20
theorem sq_bd {a : Int} {m : Nat} (h : a.natAbs ≤ m) : (a ^ 2).natAbs ≤ m * m := by
  rw [Int.pow_succ, Int.pow_succ, Int.pow_zero, Int.one_mul]; exact mul_bd h h
theorem topR_bd {rate sp : Int} (h1 : 1 ≤ sp) (h2 : sp ≤ 20) (h3 : 10 ≤ rate) (h4 : rate ≤ 200) : Bd 64 (topR rate sp) := by
  have h64 : (2 : Nat) ^ 64 = 18446744073709551616 := by decide
  have a := sq_bd (mul_bd (a := sp) (b := rate) (m := 20) (n := 200) (by omega) (by omega))
  exact of_div (by decide) (by rw [h64]; omega) (by decide)
theorem cornO_bd {j : Int} {ns ms : List Int} {c : Rat} (h1 : 1 ≤ j) (h2 : j ≤ 50) (hn : ∀ z ∈ ns, (z.natAbs : Int) ≤ 100) (hm : ∀ z ∈ ms, (z.natAbs : Int) ≤ 100) (h : cornO j ns ms = some c) : Bd 64 c := by
  have h64 : (2 : Nat) ^ 64 = 18446744073709551616 := by decide
  have cb := cross_bd (fun z hz => by have := hn z hz; omega) (fun z hz => by have := hm z hz; omega) (ns := ns) (ms := ms)
  have hb := lead_max cb
  have l1 := lead_max (ns := ns) (m := 100) fun z hz => by have := hn z hz; omega
  have l2 := lead_max (ns := ms) (m := 100) fun z hz => by have := hm z hz; omega
  unfold cornO at h
  split at h
  · cases h
  · next h0 =>
    cases h
    have a := sq_bd (mul_bd (mul_bd (a := j) (b := (leadN ns : Int)) (m := 50) (n := 100) (by omega) (by omega)) (b := (leadN ms : Int)) (n := 100) (by omega))
    have b := sq_bd (a := (leadN (crossZ ns ms) : Int)) (m := 2000000) (by omega)
    refine of_div ?_ (by rw [h64]; omega) (by rw [h64]; omega)
    rw [Int.pow_succ, Int.pow_succ, Int.pow_zero, Int.one_mul]
    exact Int.mul_ne_zero (by omega) (by omega)
theorem mn_bd {n : Nat} {a b : Rat} (h1 : Bd n a) (h2 : Bd n b) : Bd n (mn a b) := by
  rcases mn_cases a b with e | e <;> rw [e] <;> assumption
theorem zero_bd : Bd 64 (0 : Rat) := ⟨by decide, by decide⟩
theorem betR_bd {j rate : Int} {o p : Itm} (h1 : 1 ≤ j) (h2 : j ≤ 50) (h3 : 10 ≤ rate) (h4 : rate ≤ 200) (ho : OkI o) (hp : OkI p) : Bd 64 (betR j rate o p) := by
  unfold betR
  split
  · next ns sp ms sq =>
    obtain ⟨a1, a2, a3⟩ := ho ns sp rfl
    obtain ⟨b1, b2, b3⟩ := hp ms sq rfl
    have h := mn_bd (topR_bd a2 a3 h3 h4) (topR_bd b2 b3 h3 h4)
    unfold mnO
    split
    · exact h
    · next c e => exact mn_bd h (cornO_bd h1 h2 a1 b1 e)
  · exact zero_bd
def OkIs (os : List Itm) : Prop := ∀ i, OkI (atO os i)
theorem ownF_bd {j rate : Int} {os : List Itm} (h1 : 1 ≤ j) (h2 : j ≤ 50) (h3 : 10 ≤ rate) (h4 : rate ≤ 200) (ho : OkIs os) : ∀ i, Bd 64 (ownF j rate os i)
  | 0 => zero_bd
  | i + 1 => betR_bd h1 h2 h3 h4 (ho i) (ho (i + 1))
end Ow


set_option Elab.async false
set_option linter.all false
namespace Wk
open PySem L2
def addZ (pl ns : List Int) : List Int := List.zipWith (fun a b => a + b) pl ns
def behind (pl : List Int) : Option (List Int) → List Int
  | none => pl
  | some ns => addZ pl ns
theorem addZ_len {pl ns : List Int} (h : ns.length = pl.length) : (addZ pl ns).length = pl.length := by
  unfold addZ; rw [List.length_zipWith, h]; exact Nat.min_self _
theorem addZ_get {pl ns : List Int} {i : Nat} {a b : Int} (h1 : pl[i]? = some a) (h2 : ns[i]? = some b) : (addZ pl ns)[i]? = some (a + b) := by
  unfold addZ; rw [List.getElem?_zipWith, h1, h2]
structure OnR (rs pl : List Int) : Prop where
  len : pl.length = rs.length
  at' : ∀ (i : Nat) (x r : Int), pl[i]? = some x → rs[i]? = some r → 0 ≤ x ∧ x ≤ r
end Wk


set_option Elab.async false
set_option linter.all false
set_option maxRecDepth 100000
namespace L2
open PySem PySem.Spec PyProof.Rows
/-! ### t + u, t[a:b] of tuples of any values -/
section
variable {X : Cx}
end
end L2
namespace L2
open PySem PySem.Spec PyProof.Rows
end L2


set_option Elab.async false
set_option linter.all false
namespace L2
open PySem PySem.Spec PyProof.Rows
section
variable {X : Cx}
theorem peExt (K : PySem.W.Frag) (h : X.K = K) {o e : Expr} {to : TE} {t : TA} {apos cpos : Pos} (ho : PE X o to) (ha : PA X [e] t)
    (hbase : attributeBase o "extend" X.env (eval o X.env) = eval o X.env := by rfl)
    (hfew : ((backTo cpos (starEach [e] X.env)).all (fun x => !x.1) && (backToKw cpos (keywordEach [] X.env)).all (fun x => x.1.isSome)
      && decide ([e].length + ([] : List Keyword).length + (if ([] : List Keyword).isEmpty then 0 else 1) < 30)) = true := by rfl)
    (hline : (apos.endLine == cpos.line) = true := by rfl) (hs : starEach [e] X.env = (false, eval e X.env) :: starEach [] X.env := by rfl) (hplain : (backTo cpos (starEach [] X.env)).any (·.1) = false := by rfl) :
    PE X (.Call (.Attribute o "extend" apos) [e] [] cpos) (tBM K "list" rExtend to t) := by subst h; exact pe_bm PySem.F.plainAttrs_list PySem.F.slot_list_extend PySem.F.type_list_extend mt_extend ho ha hbase hfew hline hs hplain
end
end L2
namespace L2
open PySem PySem.Spec PyProof PyProof.Rows
section
variable {X : Cx}
end
end L2
namespace L2
open PySem PySem.Spec PyProof.Rows
end L2
namespace L2
open PySem PySem.Spec PyProof.Rows
section
variable {K : PySem.W.Frag} {H H' H2 : Hp}
end
end L2


set_option Elab.async false
set_option linter.all false
set_option maxRecDepth 100000
namespace L2
open PySem PySem.Spec PyProof.Rows
/-! ### range(a, b, -1), walked -/
def Itd (lo : Int) (n : Nat) : It := ⟨fun i _ => i < n, fun i H x H' => H' = H ∧ x = .int (lo - i), fun i _ => n ≤ i⟩
theorem turn_down {P : Program} {w : World} {K : PySem.W.Frag} {tg : Expr} (it : Addr) (lo : Int) (n : Nat) : Turn P w K tg (Itd lo n) [it] it (fun i h => IsRangeIter h it (lo + (i : Nat) * (-1)) ((n : Int) - (i : Nat)) (-1)) where
  mem := by simp
  obj := fun i h st b hb => by
    have e : b = it := by simpa using hb
    subst e
    exact ⟨_, st, fun v z => by
      have z' : Data.fields _ = Data.cell v := z
      cases z'⟩
  keep := fun i h h' st k => k it (by simp) _ st
  item := by
    intro X hP hw hK hc i pins s σ H E I hf st hg
    subst hP hw hK
    obtain ⟨f0, f1, f2, f3, f4, f5⟩ := hf it (by simp)
    have W := Walks.range (prog := X.prog) (w := X.w) (I.ok.hd hc) it lo (-1) n
    refine W.item i s _ _ hg st fun v h' tk hv st' kk => ?_
    obtain ⟨t, rfl⟩ := hv
    have I1 : Inv X pins σ H { s with heap := h', toks := tk } := I.turned (fun b o hb e => kk b o (by simpa using hb) e) f0 f1 f3 f4 f5
    refine ⟨_, rfl, go_of (s := { s with heap := h', toks := tk }) (n := "range_iterator") st' rfl rfl (by decide) ⟨.int (lo - i), H, I1, ⟨t, ?_⟩, ⟨rfl, rfl⟩, st', fun b hb => (hf b hb).1⟩⟩
    have e : lo + (i : Int) * (-1) = lo - i := by omega
    rw [e]
  done := by
    intro X hP hw hK hc i pins s σ H E I hf st hg
    subst hP hw hK
    obtain ⟨f0, f1, f2, f3, f4, f5⟩ := hf it (by simp)
    exact wpAny_pyNext_range_end (I.ok.hd hc) st (by have : n ≤ i := hg; omega) fun h' eb => ⟨rfl, I.turned (t' := s.toks) (fun b o hb e => eb b o hb e) f0 f1 f3 f4 f5⟩
  self := fun _ _ _ _ _ st h => wpAny_pyIter_rangeiter st h
theorem small_neg {a b : Int} (ha : -(2 ^ 62) ≤ a) (ha' : a < 2 ^ 62) (hb : -(2 ^ 62) ≤ b) (hb' : b < 2 ^ 62) : Builtin.Range.small a b (-1) = true := by
  unfold Builtin.Range.small Builtin.Range.rangeSize
  rw [if_neg (by decide), show (-(-1) : Int) = 1 by decide, Int.ediv_one]
  simp only [Builtin.Range.rangeFitsLong, Bool.and_eq_true, Bool.or_eq_true, decide_eq_true_eq, beq_iff_eq, show ¬ ((-1 : Int) > 0) by decide, if_false]
  split <;> omega
theorem size_neg (a b : Int) : Builtin.Range.rangeSize a b (-1) = (((a - b).toNat : Nat) : Int) := by
  unfold Builtin.Range.rangeSize
  rw [if_neg (by decide), show (-(-1) : Int) = 1 by decide, Int.ediv_one]
  split <;> omega
def iRng3 (ta : TA) : TI := fun σ H R => ta σ H fun vs H1 => ∃ i j : Int, vs = [.int i, .int j, .int (-1)] ∧ (-(2 ^ 62) ≤ i ∧ i < 2 ^ 62 ∧ -(2 ^ 62) ≤ j ∧ j < 2 ^ 62) ∧ R (Itd i (i - j).toNat) H1
section
variable {X : Cx} {tg : Expr}
theorem range_dn {pins : List (Addr × Obj)} {σ : St} {H : Hp} {s : Shared} {R : It → Hp → Prop} {E : Value → Shared → Prop} {lo hi : Int} {t u v : Tok} {tk : Nat} (I : Inv X pins σ H s) (h1 : -(2 ^ 62) ≤ lo) (h2 : lo < 2 ^ 62) (h3 : -(2 ^ 62) ≤ hi) (h4 : hi < 2 ^ 62)
    (q : R (Itd lo (lo - hi).toNat) H) : wpAny (model X.prog X.w) X.A (pyIter (.ref s.heap.objs.size)) (PIE X pins σ tg R) E { s with heap := s.heap.push { cls := .type "range", data := .fields #[.int lo t, .int hi u, .int (-1) v] }, toks := tk } := by
  refine wpAny_pyIter_range (IsRange.new ..) (small_neg h1 h2 h3 h4) ?_
  have I1 : Inv X pins σ H { s with heap := s.heap.push { cls := .type "range", data := .fields #[.int lo t, .int hi u, .int (-1) v] }, toks := tk } := I.kept fun b o e => Heap.get?_push_of_some _ e
  refine ⟨(s.heap.push { cls := .type "range", data := .fields #[.int lo t, .int hi u, .int (-1) v] }).objs.size, [(s.heap.push { cls := .type "range", data := .fields #[.int lo t, .int hi u, .int (-1) v] }).objs.size], _, _, H, rfl,
    I1.kept (t' := tk) fun b o e => Heap.get?_push_of_some _ e, turn_down _ lo (lo - hi).toNat, ?_, fun b hb => ?_, q⟩
  · have e1 : lo + ((0 : Nat) : Int) * (-1) = lo := by simp
    have e2 : (((lo - hi).toNat : Nat) : Int) - ((0 : Nat) : Int) = Builtin.Range.rangeSize lo hi (-1) := by rw [size_neg]; omega
    show IsRangeIter _ _ (lo + ((0 : Nat) : Int) * (-1)) ((((lo - hi).toNat : Nat) : Int) - ((0 : Nat) : Int)) (-1)
    rw [e1, e2]
    exact Heap.get?_push_size _ rfl
  · have e : b = (s.heap.push { cls := .type "range", data := .fields #[.int lo t, .int hi u, .int (-1) v] }).objs.size := by simpa using hb
    subst e
    exact I1.fpOk (Nat.le_refl _) (I1.hok.fresh (Nat.le_refl _))
theorem pi_range3 {a b c : Expr} {ta : TA} {p pos : Pos} (hg : Gl X "range") (hm : X.mg "range" = none) (ha : PA X [a, b, c] ta) (hs : starEach [a, b, c] X.env = [(false, eval a X.env), (false, eval b X.env), (false, eval c X.env)] := by rfl) (hs2 : starEach [b, c] X.env = [(false, eval b X.env), (false, eval c X.env)] := by rfl) :
    PI X tg (.Call (.Name "range" p) [a, b, c] [] pos) (iRng3 ta) := by
  intro pins s σ H R I h
  refine Call_ (ld_blt I hg hm boot_range (PyProof.Rows.callWith_type1 (thn (ha pos pins s σ H _ I h) fun us s1 ⟨vs, H1, I1, r1, q1⟩ => ?_) (by rw [hs, hs2]) (by rw [hs2]; rfl)))
  obtain ⟨i, j, e, ⟨q1, q2, q3, q4⟩, q⟩ := q1
  subst e
  cases r1 with
  | cons r rr =>
    cases rr with
    | cons r' rr =>
      cases rr with
      | cons r'' rr =>
        cases rr
        obtain ⟨t, rfl⟩ := r
        obtain ⟨t', rfl⟩ := r'
        obtain ⟨t'', rfl⟩ := r''
        exact call_range_3 (by decide) (range_dn I1 q1 q2 q3 q4 q) (Or.inl (PyProof.noPylong_small (by omega)))
theorem for_down {lo : Int} {n : Nat} {g : TG} {tb : TS} {D : Ends} {σ : St} {H : Hp} (Pv : Nat → St → Hp → Prop) (h0 : Pv 0 σ H)
    (hs : ∀ i σ H, i < n → Pv i σ H → g (.int (lo - i)) σ H fun σ2 H2 => tb { D with nx := Pv (i + 1), ct := Pv (i + 1), bk := D.nx } σ2 H2) (hd : ∀ σ H, Pv n σ H → D.nx σ H) :
    ∃ W : Nat → Nat → St → Hp → Prop, (∃ m, W 0 m σ H) ∧ ∀ i m σ H, W i m σ H →
      ((Itd lo n).stop i H ∧ D.nx σ H) ∨ ((Itd lo n).go i H ∧ ∃ N : St → Hp → Prop, (∀ σ' H', N σ' H' → ∃ m', m' < m ∧ W (i + 1) m' σ' H') ∧ ∀ x H', (Itd lo n).yld i H x H' → g x σ H' fun σ2 H2 => tb { D with nx := N, ct := N, bk := D.nx } σ2 H2) := by
  refine ⟨fun i m σ H => m = n - i ∧ i ≤ n ∧ Pv i σ H, ⟨n, by simp, Nat.zero_le _, h0⟩, ?_⟩
  rintro i m σ H ⟨rfl, hi, hp⟩
  by_cases h : i < n
  · refine .inr ⟨h, Pv (i + 1), fun σ' H' hp' => ⟨n - (i + 1), by omega, rfl, by omega, hp'⟩, ?_⟩
    rintro x H' ⟨rfl, rfl⟩
    exact hs i σ H' h hp
  · have e : i = n := by omega
    subst e
    exact .inl ⟨Nat.le_refl _, hd σ H hp⟩
end
/-- of pairs: one truth for each -/
theorem comp_blZG {K : PySem.W.Frag} {b1 b2 : Bool} {l1 l2 : Addr} {xs ys : List V} {bs : List Bool} {te : TE} {Q : VK} {D : Addr} {H H0 : Hp} {n : Nat} (rest : St) (hn : n = 2) (h1 : SqV b1 K H l1 xs) (h2 : SqV b2 K H l2 ys) (nw : Nw H H0 D (.lst []))
    (hl : min xs.length ys.length = bs.length) (hz : bs.length ≤ 100000)
    (hs : ∀ (i : Nat) (x y : V) (b : Bool) (H2 : Hp) (Q' : VK), xs[i]? = some x → ys[i]? = some y → bs[i]? = some b → Same H H2 → (∀ H3, Same H2 H3 → Q' (.bl b) H3) → te (some x :: some y :: rest) H2 Q')
    (hq : ∀ H', Same H H' → H' D = some (.lst (bs.map V.bl)) → Q (.ref D) H') : CompW (Itz K b1 b2 l1 l2) (gTup K n (gCons (gName 0) (gCons (gName 1) gNil))) tYes te Q D (none :: none :: rest) H0 := by
  subst hn
  have hD := nw.no
  refine comp_by bs.length (fun i σ H2 => Same H H2 ∧ H2 D = some (.lst ((bs.take i).map V.bl)) ∧ ∃ v v', σ = v :: v' :: rest) ?_ ?_ ?_
  · exact ⟨nw.same, nw.at', none, none, rfl⟩
  · rintro i σ H2 hi ⟨s2, d2, v, v', rfl⟩
    have hx : i < xs.length := by omega
    have hy : i < ys.length := by omega
    have ex := List.getElem?_eq_getElem hx
    have ey := List.getElem?_eq_getElem hy
    have eb := List.getElem?_eq_getElem hi
    refine ⟨⟨xs, ys, _, _, h1.go s2, h2.go s2, ex, ey⟩, fun y' H3 hy' => ?_⟩
    obtain ⟨T, x0, y0, rfl, k1, k2, n3⟩ := hy'
    have e1 := k1 _ (h1.go s2)
    have e2 := k2 _ (h2.go s2)
    rw [ex] at e1
    rw [ey] at e2
    cases e1
    cases e2
    refine ⟨T, _, rfl, SqT.of n3.at', rfl, _, _, rfl, _, _, rfl, rfl, ?_⟩
    refine yes (iteT ?_)
    refine hs i _ _ _ _ _ ex ey eb (s2.trans n3.same) fun H4 s4 => ?_
    refine ⟨_, s4 _ _ (n3.same _ _ d2), ?_, bs.length - (i + 1), by omega, rfl, by omega, fun b o e => ?_, ?_, _, _, rfl⟩
    · rw [List.length_map, List.length_take]
      have : (100000 : Nat) < sizeLine := by decide
      omega
    · rw [upd_ne (ne_of_none e hD)]; exact s4 b o (n3.same b o (s2 b o e))
    · rw [upd_same, List.take_succ, eb, List.map_append]; rfl
  · rintro σ H2 ⟨s2, d2, v, v', rfl⟩
    refine ⟨⟨xs, ys, h1.go s2, h2.go s2, by omega⟩, hq H2 s2 ?_⟩
    rw [d2, List.take_length]
end L2


set_option Elab.async false
set_option linter.all false
namespace Pn
/-- the borders ahead with lines alone between, and what can be risen to from their own bounds -/
def ahead (own : Nat → Rat) (L : Nat → Option Nat) (r : Int) : Nat → Int → List (Nat × Rat)
  | 0, _ => []
  | b + 1, w => match L b with
    | none => []
    | some m => (b, own b + ((w + r * (m : Int) : Int) : Rat)) :: ahead own L r b (w + r * (m : Int))
/-- the borders behind .. -/
def behind (own : Nat → Rat) (L : Nat → Option Nat) (f : Int) : Nat → Nat → Int → List (Nat × Rat)
  | 0, _, _ => []
  | k + 1, b, w => match L b with
    | none => []
    | some m => (b + 1, own (b + 1) + ((w + f * (m : Int) : Int) : Rat)) :: behind own L f k (b + 1) (w + f * (m : Int))
section
variable {n : Nat} {own : Nat → Rat} {L : Nat → Option Nat} {r f : Int}
end
end Pn


set_option Elab.async false
set_option linter.all false
namespace Ow
open Pn Ln Cn
end Ow
namespace Pn
section
variable {n : Nat} {own own' : Nat → Rat} {L L' : Nat → Option Nat} {r f : Int}
end
end Pn


set_option Elab.async false
set_option linter.all false
namespace Pn
section
variable {n : Nat} {own own' q : Nat → Rat} {L : Nat → Option Nat} {r f r' f' : Int}
end
end Pn
namespace Ow
open Pn Ln Cn
/-! ### slower -/
end Ow


set_option Elab.async false
set_option linter.all false
namespace Ow
open Pn Ln Cn
end Ow


set_option Elab.async false
set_option linter.all false
namespace Pn
/-- the first of them with this square -/
def hit (q : Rat) (l : List (Nat × Rat)) : Option Nat := (l.find? fun p => decide (p.2 = q)).map (·.1)
end Pn


set_option Elab.async false
set_option linter.all false
namespace Pn
section
variable {n : Nat} {own own' : Nat → Rat} {L L' : Nat → Option Nat} {r f : Int} {c : Nat}
def sh (c : Nat) (p : Nat × Rat) : Nat × Rat := (c + p.1, p.2)
end
end Pn
namespace Ow
open Pn
section
variable (j rate : Int) (os1 os2 : List Itm)
end
end Ow


set_option Elab.async false
set_option linter.all false
namespace Pn
section
variable {n : Nat} {own : Nat → Rat} {L : Nat → Option Nat} {r f : Int}
theorem fl_le {g : Nat → Rat} {i : Nat} (hi : i ≤ n) : fl n L f g i ≤ g i := by
  rcases Nat.lt_or_ge i n with h | h
  · cases e : L i with
    | none => rw [fl_no h e]; exact Rat.le_refl
    | some m => rw [fl_line h e]; exact mn_le_l _ _
  · have : i = n := by omega
    subst this; rw [fl_n]; exact Rat.le_refl
theorem fl_nn {g : Nat → Rat} (hf : 0 ≤ f) (h0 : ∀ i, i ≤ n → 0 ≤ g i) : ∀ i, i ≤ n → 0 ≤ fl n L f g i := by
  refine down ?_ ?_
  · rw [fl_n]; exact h0 n (Nat.le_refl _)
  · intro i hi ih
    cases e : L i with
    | none => rw [fl_no hi e]; exact h0 i (by omega)
    | some m => rw [fl_line hi e]; exact le_mn (h0 i (by omega)) (le_add ih (mul_nn hf))
/-- falls first, then rises: the same plan -/
theorem Rz_fl (hr : 0 ≤ r) (hf : 0 ≤ f) : ∀ i, i ≤ n → Rz (fl n L f own) L r i = plan n own L r f i := by
  refine plan_uniq hr hf ⟨fun i hi => Rat.le_trans (Rz_le i) (fl_le hi), fun i m hi h => ?_, fun i m hi h => ?_⟩ ?_
  · rw [Rz_line h]; exact mn_le_r _ _
  · rw [Rz_line h]
    rcases mn_cases (fl n L f own (i + 1)) (Rz (fl n L f own) L r i + ((r * (m : Int) : Int) : Rat)) with e | e
    · rw [e]
      refine Rat.le_trans (Rz_le i) ?_
      rw [fl_line hi h]; exact mn_le_r _ _
    · rw [e]
      exact le_add (le_add Rat.le_refl (mul_nn hr)) (mul_nn hf)
  · intro q' k
    have h1 : ∀ i, i ≤ n → q' i ≤ fl n L f own i := by
      refine down ?_ ?_
      · rw [fl_n]; exact k.own n (Nat.le_refl _)
      · intro i hi ih
        cases e : L i with
        | none => rw [fl_no hi e]; exact k.own i (by omega)
        | some m => rw [fl_line hi e]; exact le_mn (k.own i (by omega)) (Rat.le_trans (k.fall i m hi e) (add_r ih))
    intro i
    induction i with
    | zero => exact fun hi => h1 0 hi
    | succ i ih =>
      intro hi
      cases e : L i with
      | none => rw [Rz_no e]; exact h1 _ hi
      | some m => rw [Rz_line e]; exact le_mn (h1 _ hi) (Rat.le_trans (k.rise i m (by omega) e) (add_r (ih (by omega))))
/-- nought at the first border: nothing to lower there -/
theorem fl_zero {g : Nat → Rat} (hf : 0 ≤ f) (h0 : ∀ i, i ≤ n → 0 ≤ g i) (hg : g 0 = 0) : fl n L f g 0 = g 0 := Rat.le_antisymm (fl_le (Nat.zero_le _)) (by rw [hg]; exact fl_nn hf h0 0 (Nat.zero_le _))
theorem Rz_last {g : Nat → Rat} (hr : 0 ≤ r) (h0 : ∀ i, i ≤ n → 0 ≤ g i) (hg : g n = 0) : Rz g L r n = g n := Rat.le_antisymm (Rz_le n) (by rw [hg]; exact Rz_nn hr h0 n (Nat.le_refl _))
end
end Pn


set_option Elab.async false
set_option linter.all false
set_option maxRecDepth 100000
set_option maxHeartbeats 1000000
namespace Lw
open PySem PySem.Spec PyProof.Rows L2
def top (i : Nat) : Stmt := PySem.Challenge.pw_glidequeue_k34_tapes.main.body.getD i (.Pass ⟨0, 0, 0, 0⟩)

section
variable {P : Program} {w : World} {K : PySem.W.Frag} {mg : Str → Option Value} {base : Heap}

/-! ### _law_take -/
def spTake : Sp := fun vs H Q _ => ∃ p many, vs = [.ref p, .int many] ∧ IsBag H p ∧ 1 ≤ many ∧ many ≤ 10 ^ 40 ∧ ∀ d H', 0 ≤ d → d < many → BagX p H H' → Q (.int d) H'
abbrev sTake : Stmt := top 45
theorem scTake : FnScope ["_law_bag_here", "_law_many", "_law_digit", "_law_number_here", "_law_room"] ["_law_bag_here", "_law_many"] (defScope sTake) := ⟨rfl, rfl, rfl, by decide +kernel, rfl, by decide +kernel, by decide +kernel⟩
theorem ok_take (F : FA K mg "_law_take" sTake) (B : Blt mg) : FnHas P w K mg base "_law_take" 1 spTake := by
  refine F.has scTake (fun vs H Q E h => ?_) (fun _ _ _ _ _ _ us hl => match us, hl with | [_, _], _ => rfl) (fun f cdv A outer s H vs Q E hr h => ?_)
  · obtain ⟨p, many, rfl, _⟩ := h
    rfl
  · obtain ⟨p, many, rfl, ⟨c, m, hp, ok⟩, h1, h2, k⟩ := h
    obtain ⟨c0, m0, m1⟩ := id ok
    have nd := scTake.nd
    refine ⟨_, (pss_cons (ps_if (pt_cmpR op_gt (pe_ix (ixK K rfl) (pv 0) pe_int (fun _ _ => rfl)) pe_int (nomark _))
    (pss_cons (ps_set (i := 2) nd rfl (Or.inl rfl) (pe_op op_mod (pe_ix (ixK K rfl) (pv 0) pe_int (fun _ _ => rfl)) (pv 1)))
    (pss_cons (ps_asg (pe_op op_fdivW (pe_ix (ixK K rfl) (pv 0) pe_int (fun _ _ => rfl)) (pv 1)) (pg_sub (pv 0) pe_int set_list))
    (pss_one (ps_ret (pv 2)))))
    pss_nil)
    (pss_cons (ps_set (i := 3) nd rfl (Or.inl rfl) pe_int)
    (pss_cons (ps_set (i := 4) nd rfl (Or.inl rfl) pe_int)
    (pss_cons (ps_while PassesOwn.never (pt_cmpR op_lt (pv 4) (pv 1) (nomark _))
    (pss_cons (ps_asg (pe_op op_mod (pe_op op_pow (pe_op op_add (pe_op op_mulG (pe_ix (ixK K rfl) (pv 0) pe_int (fun _ _ => rfl)) pe_int) pe_int) pe_int) pe_int) (pg_sub (pv 0) pe_int set_list))
    (pss_cons (ps_set (i := 3) nd rfl (Or.inl rfl) (pe_op op_add (pe_op op_mulG (pv 3) pe_int) (pe_op op_mod (pe_op op_mulG (pe_op op_fdivW (pe_ix (ixK K rfl) (pv 0) pe_int (fun _ _ => rfl)) pe_int) pe_int) pe_int)))
    (pss_one (ps_set (i := 4) nd rfl (Or.inl rfl) (pe_op op_mulG (pv 4) pe_int))))))
    (pss_one (ps_ret (pe_op op_mod (pv 3) (pv 1)))))))), ?_⟩
    -- if bag[0] > 0
    refine ⟨_, rfl, .inl ⟨p, _, 0, .int c, rfl, rfl, SqL.of hp, rfl, _, _, rfl, rfl, _, rfl, ?_⟩⟩
    refine ite2 (fun hc => ?_) (fun _ => ?_)
    · refine ⟨_, rfl, .inl ⟨p, _, 0, .int c, rfl, rfl, SqL.of hp, rfl, _, rfl, _, _, rfl, rfl, h1, ?_⟩⟩
      refine ⟨_, rfl, .inl ⟨p, _, 0, .int c, rfl, rfl, SqL.of hp, rfl, _, rfl, _, _, rfl, rfl, ⟨h1, wd40 (by omega) h2⟩, ?_⟩⟩
      refine ⟨_, rfl, p, _, 0, 0, rfl, rfl, hp, rfl, ?_⟩
      refine ⟨_, rfl, ?_⟩
      exact k _ _ (Int.emod_nonneg _ (by omega)) (Int.emod_lt_of_pos _ (by omega)) (BagX.upd ⟨Int.ediv_nonneg c0 (by omega), m0, m1⟩)
    · refine while_by (fun σ H2 => ∃ (v : Option V) (n r : Int), σ = [some (.ref p), some (.int many), v, some (.int n), some (.int r)] ∧ BagX p H H2 ∧ 1 ≤ r) (fun σ _ => match σ with | [_, _, _, _, some (.int r)] => (many - r).toNat | _ => 0) ?_ ?_ ?_
      · exact ⟨none, 0, 1, rfl, .refl ⟨c, m, hp, ok⟩, Int.le_refl _⟩
      · rintro σ H2 ⟨v, n, r, rfl, bx, hr1⟩
        obtain ⟨c', m', hp', c0', m0', m1'⟩ := id bx.bag
        refine ⟨_, rfl, _, rfl, _, _, rfl, rfl, _, rfl, ?_⟩
        refine ite2 (fun hc => ?_) (fun hc => ?_)
        · have hlt : r < many := of_decide_eq_true hc
          refine ⟨_, rfl, .inl ⟨p, _, 1, .int m', rfl, rfl, SqL.of hp', rfl, _, _, rfl, rfl, .of_right (intBits_le_64 (by decide) (by decide)), _, _, rfl, rfl, _, _, rfl, rfl, ⟨by decide, by decide, ?_⟩, _, _, rfl, rfl, (by show (0 : Int) < 2147483629; decide), ?_⟩⟩
          · have h64 : (2 : Nat) ^ 64 = 18446744073709551616 := by decide
            rw [h64]; omega
          refine ⟨_, rfl, p, _, 1, 1, rfl, rfl, hp', rfl, ?_⟩
          have g0 : 0 ≤ ((m' * 48271 + 7919) ^ (5 : Int).toNat) % 2147483629 := Int.emod_nonneg _ (by decide)
          have g1 : ((m' * 48271 + 7919) ^ (5 : Int).toNat) % 2147483629 < 2147483629 := Int.emod_lt_of_pos _ (by decide)
          have bx2 : BagX p H (L2.upd H2 p (.lst [.int c', .int (((m' * 48271 + 7919) ^ (5 : Int).toNat) % 2147483629)])) := bx.trans (.upd ⟨c0', g0, Int.lt_trans g1 (by decide)⟩)
          refine ⟨_, rfl, _, _, rfl, rfl, .of_right (intBits_le_64 (by decide) (by decide)), _, rfl, .inl ⟨p, _, 1, .int _, rfl, rfl, SqL.of upd_same, rfl, _, _, rfl, rfl, ⟨by decide, wd40 (by decide) (by decide)⟩, _, _, rfl, rfl, .of_right (intBits_le_64 (by decide) (by decide)), _, _, rfl, rfl, (by show (0 : Int) < 1073741789; decide), _, _, rfl, rfl, ?_⟩⟩
          refine ⟨_, rfl, _, _, rfl, rfl, .of_right (intBits_le_64 (by decide) (by decide)), ?_⟩
          refine ⟨⟨v, _, _, rfl, bx2, ?_⟩, ?_⟩
          · omega
          · show (many - r * 1073741789).toNat < (many - r).toNat
            omega
        · refine ⟨_, rfl, _, rfl, _, _, rfl, rfl, h1, ?_⟩
          exact k _ _ (Int.emod_nonneg _ (by omega)) (Int.emod_lt_of_pos _ (by omega)) bx
      · rintro σ H2 Q1 Q2 hq ⟨v1, e1, v2, e2, i, j, e3, e4, kk, e5, q⟩
        exact ⟨v1, e1, v2, e2, i, j, e3, e4, kk, e5, hq _ _ q⟩
end
end Lw



set_option Elab.async false
set_option linter.all false
set_option maxRecDepth 100000
set_option maxHeartbeats 1000000
namespace Lw
open PySem PySem.Spec PyProof.Rows L2
section
variable {P : Program} {w : World} {K : PySem.W.Frag} {mg : Str → Option Value} {base : Heap}

/-! ### _law_bag -/
def spBag (K : PySem.W.Frag) : Sp := fun vs H Q _ => ∃ (a : Addr) (ns : List Int) (at' : Int), vs = [.ref a, .int at'] ∧ SqL K H a (ns.map V.int) ∧ ns.length ≤ 63 ∧ 0 ≤ at' ∧ at' ≤ 100 ∧
  ∀ p H', H p = none → IsBag H' p → Same H H' → Q (.ref p) H'
abbrev sBag : Stmt := top 44
theorem scBag : FnScope ["_law_script", "_law_at", "_law_cell", "_law_mix", "_law_k"] ["_law_script", "_law_at"] (defScope sBag) := ⟨rfl, rfl, rfl, by decide +kernel, rfl, by decide +kernel, by decide +kernel⟩
theorem ints_at {ns : List Int} {j : Nat} (h : j < ns.length) : ∃ z, atI (ns.map V.int) (j : Int) = some (.int z) :=
  ⟨ns[j], atI_nat (by simp [h])⟩
theorem ok_bag (F : FA K mg "_law_bag" sBag) (B : Blt mg) : FnHas P w K mg base "_law_bag" 1 (spBag K) := by
  refine F.has scBag (fun vs H Q E h => ?_) (fun _ _ _ _ _ _ us hl => match us, hl with | [_, _], _ => rfl) (fun f cdv A outer s H vs Q E hr h => ?_)
  · obtain ⟨a, ns, at', rfl, _⟩ := h
    rfl
  · obtain ⟨a, ns, at', rfl, hS, hlen, h0, h1, k⟩ := h
    obtain ⟨j, rfl⟩ : ∃ j : Nat, at' = (j : Int) := ⟨at'.toNat, by omega⟩
    have nd := scBag.nd
    refine ⟨_, (pss_cons (ps_set (i := 2) nd rfl (Or.inl rfl) pe_int)
    (pss_cons (ps_mid (ps_if (pt_cmpR op_lt (pv 1) (pe_callB (x := "len") (lenK K rfl) rfl (B.at "len") PySem.boot_len (pa_cons (pv 0) pa_nil)) (nomark _))
    (pss_one (ps_set (i := 2) nd rfl (Or.inl rfl) (pe_callB (x := "abs") call_abs rfl (B.at "abs") PyProof.Rows.boot_abs (pa_cons (pe_ix (ixK K rfl) (pv 0) (pv 1) (fun _ _ => rfl)) pa_nil))))
    pss_nil))
    (pss_cons (ps_set (i := 3) nd rfl (Or.inl rfl) (pe_op op_add (pe_op op_add (pe_op op_mulG (pe_op op_mulG pe_int (pv 1)) (pv 1)) (pe_op op_mulG pe_int (pv 1))) pe_int))
    (pss_cons (ps_for PassesOwn.never rfl (pi_range1 rfl (B.at "range") (pa_cons (pe_callB (x := "min") (call_min2 rfl) rfl (B.at "min") PyProof.Rows.boot_min (pa_cons (pe_callB (x := "len") (lenK K rfl) rfl (B.at "len") PySem.boot_len (pa_cons (pv 0) pa_nil)) (pa_cons pe_int pa_nil))) pa_nil)) (pg_name (i := 4) nd rfl (Or.inl rfl))
    (pss_one (ps_set (i := 3) nd rfl (Or.inl rfl) (pe_op op_mod (pe_op op_pow (pe_op op_add (pe_op op_add (pe_op op_mulG (pv 3) pe_int) (pe_op op_mod (pe_ix (ixK K rfl) (pv 0) (pv 4) (fun _ _ => rfl)) pe_int)) (pe_op op_mulG (pv 4) (pv 4))) pe_int) pe_int))))
    (pss_cons (ps_mid (ps_if (pt_cmpR op_lt (pv 2) (pe_op op_pow pe_int pe_int) (nomark _))
    (pss_one (ps_set (i := 2) nd rfl (Or.inl rfl) pe_int))
    pss_nil))
    (pss_one (ps_ret (pe_lstA (pa_cons (pv 2) (pa_cons (pv 3) pa_nil)))))))))), ?_⟩
    -- if at < len(script)
    refine ⟨fun σ H' => H' = H ∧ ∃ c : Int, σ = [some (.ref a), some (.int (j : Int)), some (.int c), none, none] ∧ 0 ≤ c, ?_, ?_⟩
    · refine ⟨_, rfl, _, rfl, a, _, rfl, .inl hS, _, _, rfl, rfl, _, rfl, ?_⟩
      refine ite2 (fun hc => ?_) (fun _ => ?_)
      · have hj : (j : Int) < ((ns.map V.int).length : Int) := of_decide_eq_true hc
        rw [List.length_map] at hj
        obtain ⟨z, hz⟩ := ints_at (ns := ns) (j := j) (by omega)
        refine ⟨_, rfl, _, rfl, .inl ⟨a, _, _, _, rfl, rfl, hS, hz, z, rfl, ?_⟩⟩
        exact ⟨rfl, _, rfl, by split <;> omega⟩
      · exact ⟨rfl, 0, rfl, Int.le_refl _⟩
    rintro σ H' ⟨rfl, c, rfl, c0⟩
    -- mix
    refine ⟨_, rfl, _, _, rfl, rfl, .of_left (intBits_le_64 (by decide) (by decide)), _, rfl, _, _, rfl, rfl, .of_right (intBits_le_64 (by omega) (by omega)), _, rfl, _, _, rfl, rfl, .of_left (intBits_le_64 (by decide) (by decide)), _, _, rfl, rfl, _, _, rfl, rfl, ?_⟩
    -- for
    refine ⟨_, rfl, a, _, rfl, .inl hS, _, _, rfl, _, rfl, ?_, ?_, ?_⟩
    · split <;> omega
    · split <;> (try rw [List.length_map]) <;> omega
    refine for_range (Pv := fun i σ H2 => H2 = H' ∧ ∃ (m : Int) (v : Option V), σ = [some (.ref a), some (.int (j : Int)), some (.int c), some (.int m), v] ∧ 0 ≤ m ∧ m < 2147483648) ?_ ?_ ?_
    · refine ⟨rfl, _, none, rfl, ?_, ?_⟩
      · have : (0 : Int) ≤ (j : Int) * (j : Int) := Int.mul_nonneg (by omega) (by omega)
        rw [Int.mul_assoc]; omega
      · have : (j : Int) * (j : Int) ≤ 100 * 100 := Int.mul_le_mul (by omega) (by omega) (by omega) (by omega)
        rw [Int.mul_assoc]; omega
    · rintro i σ H2 hi ⟨rfl, m, v, rfl, m0, m1⟩
      have hi' : i < ns.length := by
        rw [List.length_map] at hi
        split at hi <;> omega
      obtain ⟨z, hz⟩ := ints_at (ns := ns) (j := i) hi'
      rw [← Int.zero_add (i : Int)] at hz
      have hz0 : 0 ≤ z % 2147483647 := Int.emod_nonneg _ (by decide)
      have hz1 : z % 2147483647 < 2147483647 := Int.emod_lt_of_pos _ (by decide)
      have hii0 : (0 : Int) ≤ (0 + (i : Int)) * (0 + (i : Int)) := Int.mul_nonneg (by omega) (by omega)
      have hii : (0 + (i : Int)) * (0 + (i : Int)) ≤ 100 * 100 := Int.mul_le_mul (by omega) (by omega) (by omega) (by omega)
      refine ⟨_, rfl, _, _, rfl, rfl, .of_right (intBits_le_64 (by decide) (by decide)), _, rfl, _, rfl, .inl ⟨a, _, _, _, rfl, rfl, hS, hz, _, _, rfl, rfl, (by show (0 : Int) < 2147483647; decide), _, _, rfl, rfl, _, rfl, _, rfl, _, _, rfl, rfl, .of_right (intBits_le_64 (by omega) (by omega)), _, _, rfl, rfl, _, _, rfl, rfl, ⟨by decide, by decide, ?_⟩, _, _, rfl, rfl, (by show (0 : Int) < 2147483629; decide), ?_⟩⟩
      · have h64 : (2 : Nat) ^ 64 = 18446744073709551616 := by decide
        rw [h64]
        generalize (0 + (i : Int)) * (0 + (i : Int)) = ii at hii0 hii ⊢
        generalize z % 2147483647 = zz at hz0 hz1 ⊢
        omega
      · exact ⟨rfl, _, _, rfl, Int.emod_nonneg _ (by decide), Int.lt_trans (Int.emod_lt_of_pos _ (by decide)) (by decide)⟩
    · rintro σ H2 ⟨rfl, m, v, rfl, m0, m1⟩
      refine ⟨fun σ H3 => H3 = H2 ∧ ∃ c : Int, σ = [some (.ref a), some (.int (j : Int)), some (.int c), some (.int m), v] ∧ 0 ≤ c, ?_, ?_⟩
      · refine ⟨_, rfl, _, _, rfl, rfl, ⟨by decide, by decide, by decide⟩, _, _, rfl, rfl, _, rfl, ?_⟩
        refine ite2 (fun hc => ?_) (fun _ => ?_)
        · exact ⟨rfl, 0, rfl, Int.le_refl _⟩
        · exact ⟨rfl, c, rfl, c0⟩
      rintro σ H3 ⟨rfl, c, rfl, c0⟩
      refine ⟨_, rfl, _, rfl, (by show 2 ≤ sizeLine; decide), fun p H4 nw => ?_⟩
      exact k p H4 nw.no ⟨c, m, nw.at', c0, m0, m1⟩ nw.same

/-! ### _law_divisor -/
def spDiv : Sp := fun vs H Q _ => ∃ (a b : Int), vs = [.int a, .int b] ∧ Q (.int (Int.gcd a b)) H
end
end Lw



set_option Elab.async false
set_option linter.all false
set_option maxRecDepth 100000
set_option maxHeartbeats 1000000
namespace Lw
open PySem PySem.Spec PyProof.Rows L2
section
variable {P : Program} {w : World} {K : PySem.W.Frag} {mg : Str → Option Value} {base : Heap}

/-! ### _law_number -/
/-! ### _law_lowest -/
def spLow : Sp := fun vs H Q _ => ∃ (a b : Int), vs = [.int a, .int b] ∧ b ≠ 0 ∧ Wd b ∧ ∀ t H', Nw H H' t (.tup [.int (Ar.lowP a b), .int (Ar.lowQ a b)]) → Q (.ref t) H'
/-! ### _law_fraction -/
/-- a fraction of up to thirty figures -/
structure Fr30 (a b : Int) : Prop where
  pos : 0 < b
  cop : Int.gcd a b = 1
  na : a.natAbs < 10 ^ 30
  nb : b < 10 ^ 30
end
end Lw



set_option Elab.async false
set_option linter.all false
set_option maxRecDepth 100000
set_option maxHeartbeats 1000000
namespace Lw
open PySem PySem.Spec PyProof.Rows L2
section
variable {P : Program} {w : World} {K : PySem.W.Frag} {mg : Str → Option Value} {base : Heap}
theorem wd30 {a : Int} (h : a.natAbs < 10 ^ 30) : Wd a := Nat.lt_trans h (by decide +kernel)
theorem Fr30.wb {a b : Int} (h : Fr30 a b) : Wd b := wd30 (by have := h.pos; have := h.nb; omega)
/-- a fraction at its address -/
abbrev FA3 := Addr × Int × Int
def FIn (H : Hp) (f : FA3) : Prop := H f.1 = some (.tup [.int f.2.1, .int f.2.2]) ∧ Fr30 f.2.1 f.2.2
theorem FIn.mono {p : Addr} {H H' : Hp} {f : FA3} (h : FIn H f) (bg : IsBag H p) (b : BagX p H H') : FIn H' f := ⟨b.same _ _ (bg.ne_tup h.1) h.1, h.2⟩
theorem FIn.same {H H' : Hp} {f : FA3} (h : FIn H f) (s : Same H H') : FIn H' f := ⟨s _ _ h.1, h.2⟩
/-- products of parts of fractions are wide enough -/
theorem Fr30.bd {a b c d : Int} (h : Fr30 a b) (g : Fr30 c d) : b * d ≠ 0 ∧ Wd (b * d) := by
  have h1 := h.pos
  have h2 := g.pos
  refine ⟨Int.ne_of_gt (Int.mul_pos h1 h2), ?_⟩
  have e1 : b.natAbs < 10 ^ 30 := by have := h.nb; omega
  have e2 : d.natAbs < 10 ^ 30 := by have := g.nb; omega
  show (b * d).natAbs < 2 ^ 5000
  rw [Int.natAbs_mul]
  exact Nat.lt_trans (Nat.mul_lt_mul'' e1 e2) (by decide +kernel)

/-! ### _law_is_whole -/
def isW (T : String) : Bool := tyIs T "int" && !tyIs T "bool"
def spIsW (K : PySem.W.Frag) : Sp := fun vs H Q _ => ∃ v T, vs = [v] ∧ TyN K H v T ∧ Q (.bl (isW T)) H
/-! ### common_divisor, lowest_terms -/
abbrev sCD : Stmt := top 15
theorem scCD : FnScope ["p", "q", "high", "low"] ["p", "q"] (defScope sCD) := ⟨rfl, rfl, rfl, by decide +kernel, rfl, by decide +kernel, by decide +kernel⟩
theorem ok_cd (F : FA K mg "common_divisor" sCD) (B : Blt mg) : FnHas P w K mg base "common_divisor" 1 spDiv := by
  refine F.has scCD (fun vs H Q E h => ?_) (fun _ _ _ _ _ _ us hl => match us, hl with | [_, _], _ => rfl) (fun f cdv A outer s H vs Q E hr h => ?_)
  · obtain ⟨a, b, rfl, _⟩ := h
    rfl
  · obtain ⟨a, b, rfl, k⟩ := h
    have nd := scCD.nd
    refine ⟨_, (pss_cons (ps_par (i := 2) (j := 3) rfl nd rfl rfl (by decide) rfl rfl (pa_cons (pe_callB (x := "abs") call_abs rfl (B.at "abs") PyProof.Rows.boot_abs (pa_cons (pv 0) pa_nil)) (pa_cons (pe_callB (x := "abs") call_abs rfl (B.at "abs") PyProof.Rows.boot_abs (pa_cons (pv 1) pa_nil)) pa_nil)) rfl)
    (pss_cons (ps_while PassesOwn.never (pt_cmpR (neK K rfl hr.units) (pv 3) pe_int (nomark _))
    (pss_one (ps_par (i := 2) (j := 3) rfl nd rfl rfl (by decide) rfl rfl (pa_cons (pv 3) (pa_cons (pe_op op_mod (pv 2) (pv 3)) pa_nil)) rfl)))
    (pss_one (ps_ret (pv 2))))), ?_⟩
    refine ⟨_, rfl, _, rfl, _, rfl, _, rfl, _, _, rfl, ?_⟩
    refine while_by (fun σ H2 => H2 = H ∧ ∃ (x y : Int), σ = [some (.int a), some (.int b), some (.int x), some (.int y)] ∧ 0 ≤ x ∧ 0 ≤ y ∧ Int.gcd x y = Int.gcd a b) (fun σ _ => match σ with | [_, _, _, some (.int y)] => y.natAbs | _ => 0) ?_ ?_ ?_
    · refine ⟨rfl, _, _, rfl, by split <;> omega, by split <;> omega, ?_⟩
      have h1 : (if a < 0 then -a else a).natAbs = a.natAbs := by split <;> omega
      have h2 : (if b < 0 then -b else b).natAbs = b.natAbs := by split <;> omega
      unfold Int.gcd
      rw [h1, h2]
    · rintro σ H2 ⟨rfl, x, y, rfl, x0, y0, e⟩
      refine ⟨_, rfl, .inl ⟨_, _, rfl, rfl, _, rfl, ?_⟩⟩
      refine ite2 (fun hc => ?_) (fun hc => ?_)
      · have hy : y ≠ 0 := by simpa using hc
        have hy' : 0 < y := by omega
        refine ⟨_, rfl, _, rfl, _, rfl, _, _, rfl, rfl, hy', _, _, rfl, ?_⟩
        refine ⟨⟨rfl, _, _, rfl, y0, Int.emod_nonneg _ hy, (Ar.gcd_em hy').trans e⟩, ?_⟩
        show (x % y).natAbs < y.natAbs
        have := Int.emod_nonneg x hy
        have := Int.emod_lt_of_pos x hy'
        omega
      · have hy : y = 0 := by simpa using hc
        subst hy
        refine ⟨_, rfl, ?_⟩
        rw [Int.gcd_zero_right] at e
        have e2 : x = ((Int.gcd a b : Nat) : Int) := by omega
        rw [e2]
        exact k
    · rintro σ H2 Q1 Q2 hq ⟨v1, e1, h⟩
      refine ⟨v1, e1, ?_⟩
      rcases h with ⟨i, j, e3, e4, kk, e5, q⟩ | ⟨d, e, r1, r2, s1, s2, kk, e5, q⟩
      · exact .inl ⟨i, j, e3, e4, kk, e5, hq _ _ q⟩
      · exact .inr ⟨d, e, r1, r2, s1, s2, kk, e5, hq _ _ q⟩
end
end Lw



set_option Elab.async false
set_option linter.all false
set_option maxRecDepth 100000
set_option maxHeartbeats 1000000
namespace Lw
open PySem PySem.Spec PyProof.Rows L2
section
variable {P : Program} {w : World} {K : PySem.W.Frag} {mg : Str → Option Value} {base : Heap}
abbrev sIW : Stmt := top 5
theorem scIW : FnScope ["thing"] ["thing"] (defScope sIW) := ⟨rfl, rfl, rfl, by decide +kernel, rfl, by decide +kernel, by decide +kernel⟩
theorem ok_iw (F : FA K mg "is_whole" sIW) (B : Blt mg) : FnHas P w K mg base "is_whole" 1 (spIsW K) := by
  refine F.has scIW (fun vs H Q E h => ?_) (fun _ _ _ _ _ _ us hl => match us, hl with | [_], _ => rfl) (fun f cdv A outer s H vs Q E hr h => ?_)
  · obtain ⟨v, T, rfl, _⟩ := h
    rfl
  · obtain ⟨v, T, rfl, ty, k⟩ := h
    have nd := scIW.nd
    refine ⟨_, (pss_one (ps_ret (pe_and (pe_callB (x := "isinstance") (isiK K rfl) rfl (B.at "isinstance") PyProof.Rows.boot_isinstance (pa_cons (pv 0) (pa_cons (pe_bltn (x := "int") (v := .ty "int") rfl (B.at "int") PyProof.Rows.boot_int rfl) pa_nil))) (pe_one (pe_not (pe_callB (x := "isinstance") (isiK K rfl) rfl (B.at "isinstance") PyProof.Rows.boot_isinstance (pa_cons (pv 0) (pa_cons (pe_bltn (x := "bool") (v := .ty "bool") rfl (B.at "bool") PyProof.Rows.boot_bool rfl) pa_nil)))))))), ?_⟩
    refine ⟨_, rfl, .inl ⟨_, T, "int", _, rfl, ty, by decide, rfl, _, rfl, ?_⟩⟩
    unfold isW at k
    refine ite2 (fun hc => ?_) (fun hc => ?_)
    · refine ⟨_, rfl, .inl ⟨_, T, "bool", _, rfl, ty, by decide, rfl, _, rfl, ?_⟩⟩
      rw [hc, Bool.true_and] at k
      exact k
    · rw [Bool.eq_false_iff.mpr hc, Bool.false_and] at k
      exact k
end
end Lw



set_option Elab.async false
set_option linter.all false
set_option maxRecDepth 100000
set_option maxHeartbeats 1000000
namespace Lw
open PySem PySem.Spec PyProof.Rows L2 Ln
section
variable {P : Program} {w : World} {K : PySem.W.Frag} {mg : Str → Option Value} {base : Heap}
/-! ### lines -/
def lineD (ns : List Int) (sp : Int) : PyData := .tuple [.str "line", .tuple (ns.map PyData.int), .int sp]
theorem lineD_no (ns : List Int) (sp : Int) : noL (lineD ns sp) = true := by simp [lineD, noL, noLs, noLs_ints]
structure OkL (ax : Nat) (m : Int) (ns : List Int) : Prop where
  len : ns.length = ax
  bd : ∀ z ∈ ns, (z.natAbs : Int) ≤ m
  nz : ∃ z ∈ ns, z ≠ 0
theorem OkL.lead {ax : Nat} {m : Int} {ns : List Int} (h : OkL ax m ns) : 0 < leadN ns ∧ (leadN ns : Int) ≤ m := by
  refine ⟨lead_pos h.nz, ?_⟩
  have hm : 0 ≤ m := by obtain ⟨z, hz, _⟩ := h.nz; have := h.bd z hz; omega
  have := lead_max (ns := ns) (m := m.toNat) fun z hz => by have := h.bd z hz; omega
  omega
theorem OkL.ne {ax : Nat} {m : Int} {ns : List Int} (h : OkL ax m ns) : ns ≠ [] := by
  obtain ⟨z, hz, _⟩ := h.nz
  intro e; subst e; cases hz
/-- a line's parts -/
theorem line_inv {H : Hp} {v : V} {ns : List Int} {sp : Int} (h : RD K H v (lineD ns sp)) : ∃ a b, v = .ref a ∧ SqT K H a [.str "line", .ref b, .int sp] ∧ SqT K H b (ns.map V.int) := by
  obtain ⟨a, xs, rfl, h1, h2⟩ := h.tup_inv
  obtain ⟨x1, r1, rfl, e1, h2⟩ := h2.cons_inv
  obtain ⟨x2, r2, rfl, e2, h2⟩ := h2.cons_inv
  obtain ⟨x3, r3, rfl, e3, h2⟩ := h2.cons_inv
  cases h2.nil_inv
  cases e1.str_inv
  cases e3.int_inv
  obtain ⟨b, ys, rfl, h3, h4⟩ := e2.tup_inv
  rw [h4.ints_inv] at h3
  exact ⟨a, b, rfl, h1, h3⟩
def spLead (K : PySem.W.Frag) : Sp := fun vs H Q _ => ∃ v ns sp, vs = [v] ∧ RD K H v (lineD ns sp) ∧ ns ≠ [] ∧ ns.length ≤ 1000 ∧ ∀ H', Same H H' → Q (.int (leadN ns)) H'
theorem map_getI {ns : List Int} {f : Int → PyData} {i : Nat} {d : PyData} (h : (ns.map f)[i]? = some d) : ∃ n, ns[i]? = some n ∧ f n = d := by
  rw [List.getElem?_map] at h
  cases e : ns[i]? with
  | none => rw [e] at h; cases h
  | some n => rw [e] at h; exact ⟨n, rfl, Option.some.inj h⟩
theorem map_getV {ns : List Int} {i : Nat} {x : V} {n : Int} (h : (ns.map V.int)[i]? = some x) (e : ns[i]? = some n) : x = .int n := by
  rw [List.getElem?_map, e] at h
  exact (Option.some.inj h).symm
abbrev sLead : Stmt := top 57
theorem scLead : FnScope ["_law_line_here"] ["_law_line_here"] (defScope sLead) := ⟨rfl, rfl, rfl, by decide +kernel, rfl, by decide +kernel, by decide +kernel⟩
theorem ok_lead (F : FA K mg "_law_lead" sLead) (B : Blt mg) : FnHas P w K mg base "_law_lead" 1 (spLead K) := by
  refine F.has scLead (fun vs H Q E h => ?_) (fun _ _ _ _ _ _ us hl => match us, hl with | [_], _ => rfl) (fun f cdv A outer s H vs Q E hr h => ?_)
  · obtain ⟨v, ns, sp, rfl, _⟩ := h
    rfl
  · obtain ⟨v, ns, sp, rfl, rd, hne, hz, k⟩ := h
    have nd := scLead.nd
    obtain ⟨a, b, rfl, ha, hb⟩ := line_inv rd
    refine ⟨_, (pss_one (ps_ret (pe_callB (x := "max") (max1K K rfl rfl) rfl (B.at "max") PyProof.Rows.boot_max (pa_cons (pe_comp (N := ["_law_step"]) (js := [none]) rfl rfl rfl (piT K rfl (pe_ix (ixK K rfl) (pv 0) pe_int (fun _ _ => rfl))) (fun _ _ _ _ _ => (pg_name (i := 0) (show List.Nodup (["_law_step"] : List Str) by decide +kernel) rfl (Or.inl rfl))) (fun _ _ _ _ _ => pts_nil) (fun _ _ _ _ _ => (pe_callB (x := "abs") call_abs rfl (B.at "abs") PyProof.Rows.boot_abs (pa_cons (pv 0) pa_nil)))) pa_nil)))), ?_⟩
    refine ⟨_, rfl, .inr ⟨a, _, 1, .ref b, rfl, rfl, ha, rfl, b, rfl, ⟨_, hb⟩, fun D H0 nw => ?_⟩⟩
    refine comp_rdT (K := K) (xs := ns.map V.int) (ds := (ns.map absI).map PyData.int) [] hb nw (by simp) (by simpa using hz) (noLs_ints _) ?_ ?_
    · intro i x d H2 Q' ex ed s2 hq
      obtain ⟨m, em, rfl⟩ := map_getI ed
      rw [List.getElem?_map] at em
      cases en : ns[i]? with
      | none => rw [en] at em; cases em
      | some n =>
        rw [en] at em
        cases em
        cases map_getV ex en
        exact ⟨_, rfl, n, rfl, hq _ _ (Same.refl _) (rd_int _)⟩
    · intro H' ys s2 d2 r2
      rw [r2.ints_inv] at d2
      refine ⟨D, _, rfl, SqL.of d2, by simpa using hne, fun M h1 h2 => ?_⟩
      rw [lead_uniq hne h1 h2]
      exact k H' s2
abbrev sLeadP : Stmt := top 17
theorem scLeadP : FnScope ["line"] ["line"] (defScope sLeadP) := ⟨rfl, rfl, rfl, by decide +kernel, rfl, by decide +kernel, by decide +kernel⟩
theorem ok_leadP (F : FA K mg "lead_of" sLeadP) (B : Blt mg) : FnHas P w K mg base "lead_of" 1 (spLead K) := by
  refine F.has scLeadP (fun vs H Q E h => ?_) (fun _ _ _ _ _ _ us hl => match us, hl with | [_], _ => rfl) (fun f cdv A outer s H vs Q E hr h => ?_)
  · obtain ⟨v, ns, sp, rfl, _⟩ := h
    rfl
  · obtain ⟨v, ns, sp, rfl, rd, hne, hz, k⟩ := h
    have nd := scLeadP.nd
    obtain ⟨a, b, rfl, ha, hb⟩ := line_inv rd
    refine ⟨_, (pss_one (ps_ret (pe_callB (x := "max") (max1K K rfl rfl) rfl (B.at "max") PyProof.Rows.boot_max (pa_cons (pe_comp (N := ["step"]) (js := [none]) rfl rfl rfl (piT K rfl (pe_ix (ixK K rfl) (pv 0) pe_int (fun _ _ => rfl))) (fun _ _ _ _ _ => (pg_name (i := 0) (show List.Nodup (["step"] : List Str) by decide +kernel) rfl (Or.inl rfl))) (fun _ _ _ _ _ => pts_nil) (fun _ _ _ _ _ => (pe_callB (x := "abs") call_abs rfl (B.at "abs") PyProof.Rows.boot_abs (pa_cons (pv 0) pa_nil)))) pa_nil)))), ?_⟩
    refine ⟨_, rfl, .inr ⟨a, _, 1, .ref b, rfl, rfl, ha, rfl, b, rfl, ⟨_, hb⟩, fun D H0 nw => ?_⟩⟩
    refine comp_rdT (K := K) (xs := ns.map V.int) (ds := (ns.map absI).map PyData.int) [] hb nw (by simp) (by simpa using hz) (noLs_ints _) ?_ ?_
    · intro i x d H2 Q' ex ed s2 hq
      obtain ⟨m, em, rfl⟩ := map_getI ed
      rw [List.getElem?_map] at em
      cases en : ns[i]? with
      | none => rw [en] at em; cases em
      | some n =>
        rw [en] at em
        cases em
        cases map_getV ex en
        exact ⟨_, rfl, n, rfl, hq _ _ (Same.refl _) (rd_int _)⟩
    · intro H' ys s2 d2 r2
      rw [r2.ints_inv] at d2
      refine ⟨D, _, rfl, SqL.of d2, by simpa using hne, fun M h1 h2 => ?_⟩
      rw [lead_uniq hne h1 h2]
      exact k H' s2
/-! ### _law_line -/
end
end Lw



set_option Elab.async false
set_option linter.all false
set_option maxRecDepth 100000
set_option maxHeartbeats 1000000
set_option exponentiation.threshold 6000
namespace Lw
open PySem PySem.Spec PyProof.Rows L2 Rt
section
variable {P : Program} {w : World} {K : PySem.W.Frag} {mg : Str → Option Value} {base : Heap}
abbrev sLT : Stmt := top 14
theorem scLT : FnScope ["p", "q", "divisor"] ["p", "q"] (defScope sLT) := ⟨rfl, rfl, rfl, by decide +kernel, rfl, by decide +kernel, by decide +kernel⟩
theorem ok_lt (F : FA K mg "lowest_terms" sLT) (B : Blt mg) (hcommon_divisor : FnHas P w K mg base "common_divisor" 1 spDiv) : FnHas P w K mg base "lowest_terms" 2 spLow := by
  refine F.has scLT (fun vs H Q E h => ?_) (fun _ _ _ _ _ _ us hl => match us, hl with | [_, _], _ => rfl) (fun f cdv A outer s H vs Q E hr h => ?_)
  · obtain ⟨a, b, rfl, _⟩ := h
    rfl
  · obtain ⟨a, b, rfl, hb, wb, k⟩ := h
    have nd := scLT.nd
    have sw : Wd (Ar.sg a b) := Nat.lt_of_le_of_lt (Ar.sg_le hb) wb
    refine ⟨_, (pss_cons (ps_set (i := 2) nd rfl (Or.inl rfl) (pe_fn hcommon_divisor (hr.mono (by decide)) rfl (pa_cons (pv 0) (pa_cons (pv 1) pa_nil))))
    (pss_cons (ps_mid (ps_if (pt_cmpR op_lt (pv 1) pe_int (nomark _))
    (pss_one (ps_set (i := 2) nd rfl (Or.inl rfl) (pe_un un_neg (pv 2))))
    pss_nil))
    (pss_one (ps_ret (pe_tupA (pa_cons (pe_op op_fdivNW (pv 0) (pv 2)) (pa_cons (pe_op op_fdivNW (pv 1) (pv 2)) pa_nil))))))), ?_⟩
    refine ⟨_, rfl, _, rfl, a, b, rfl, ?_⟩
    refine ⟨fun σ H' => H' = H ∧ σ = [some (.int a), some (.int b), some (.int (Ar.sg a b))], ?_, ?_⟩
    · refine ⟨_, rfl, _, _, rfl, rfl, _, rfl, ?_⟩
      refine ite2 (fun hc => ?_) (fun hc => ?_)
      · have hd : b < 0 := of_decide_eq_true hc
        refine ⟨_, rfl, _, rfl, ?_⟩
        refine ⟨rfl, ?_⟩
        unfold Ar.sg; rw [if_pos hd]; rfl
      · have hd : ¬ b < 0 := fun z => hc (decide_eq_true z)
        refine ⟨rfl, ?_⟩
        unfold Ar.sg; rw [if_neg hd]; rfl
    rintro σ H' ⟨rfl, rfl⟩
    refine ⟨_, rfl, _, rfl, _, _, rfl, rfl, ⟨Ar.sg_ne hb, sw⟩, _, rfl, _, rfl, _, _, rfl, rfl, ⟨Ar.sg_ne hb, sw⟩, (by show 2 ≤ sizeLine; decide), fun t H4 nw => ?_⟩
    exact k t H4 nw

/-! ### a fraction as a rational -/
def RatV (K : PySem.W.Frag) (H : Hp) (v : V) (r : Rat) : Prop := ∃ p, v = .ref p ∧ SqT K H p [.int r.num, .int r.den]
theorem RatV.go {H H' : Hp} {v : V} {r : Rat} (h : RatV K H v r) (s : Same H H') : RatV K H' v r := by
  obtain ⟨p, e, q⟩ := h
  exact ⟨p, e, q.go s⟩
def ratD (r : Rat) : PyData := .tuple [.int r.num, .int r.den]
theorem RatV.rd {H : Hp} {v : V} {r : Rat} (h : RatV K H v r) : RD K H v (ratD r) := by
  obtain ⟨p, rfl, q⟩ := h
  exact rd_tup q (rds_cons (rd_int _) (rds_cons (rd_int _) rds_nil))
theorem wdB {n : Nat} {i : Int} (h : i.natAbs < 2 ^ n) (l : n ≤ 5000) : Wd i := Nat.lt_of_lt_of_le h (Nat.pow_le_pow_right (by decide) l)
theorem _root_.Rt.Bd.wn {r : Rat} (h : Bd 2000 r) : Wd r.num := wdB h.num (by decide)
theorem _root_.Rt.Bd.wd {r : Rat} (h : Bd 2000 r) : Wd (r.den : Int) := wdB (n := 2000) (by have := h.den; omega) (by decide)
theorem wdd {r s : Rat} (h : Bd 2000 r) (g : Bd 2000 s) : Wd ((r.den : Int) * (s.den : Int)) := wdB (n := 4000) (den_lt h g) (by decide)
theorem ratV_low {H' : Hp} {t : Addr} {a b : Int} {r : Rat} (hb : b ≠ 0) (e : r = Rat.divInt a b) (h : H' t = some (.tup [.int (Ar.lowP a b), .int (Ar.lowQ a b)])) : RatV K H' (.ref t) r := by
  obtain ⟨e1, e2⟩ := low_rat (a := a) hb
  rw [e1, e2, ← e] at h
  exact ⟨t, rfl, SqT.of h⟩
def spR2 (op : Rat → Rat → Rat) (K : PySem.W.Frag) : Sp := fun vs H Q _ => ∃ v1 v2 r s, vs = [v1, v2] ∧ RatV K H v1 r ∧ RatV K H v2 s ∧ Bd 2000 r ∧ Bd 2000 s ∧ ∀ v H', RatV K H' v (op r s) → Same H H' → Q v H'
abbrev sMinus : Stmt := top 11
theorem scMinus : FnScope ["one", "other", "p", "q", "r", "s"] ["one", "other"] (defScope sMinus) := ⟨rfl, rfl, rfl, by decide +kernel, rfl, by decide +kernel, by decide +kernel⟩
theorem ok_minus (F : FA K mg "minus" sMinus) (B : Blt mg) (hlowest_terms : FnHas P w K mg base "lowest_terms" 2 spLow) : FnHas P w K mg base "minus" 3 (spR2 (· - ·) K) := by
  refine F.has scMinus (fun vs H Q E h => ?_) (fun _ _ _ _ _ _ us hl => match us, hl with | [_, _], _ => rfl) (fun f cdv A outer s H vs Q E hr h => ?_)
  · obtain ⟨v1, v2, r, s, rfl, _⟩ := h
    rfl
  · obtain ⟨v1, v2, r, s, rfl, ⟨p, rfl, hp⟩, ⟨q, rfl, hq⟩, br, bs, k⟩ := h
    have nd := scMinus.nd
    refine ⟨_, (pss_cons (ps_asg (pv 0) (pgT K rfl (n := 2) rfl (pgs_cons (pg_name (i := 2) nd rfl (Or.inl rfl)) (pgs_cons (pg_name (i := 3) nd rfl (Or.inl rfl)) pgs_nil))))
    (pss_cons (ps_asg (pv 1) (pgT K rfl (n := 2) rfl (pgs_cons (pg_name (i := 4) nd rfl (Or.inl rfl)) (pgs_cons (pg_name (i := 5) nd rfl (Or.inl rfl)) pgs_nil))))
    (pss_one (ps_ret (pe_fn hlowest_terms (hr.mono (by decide)) rfl (pa_cons (pe_op op_sub (pe_op op_mulG (pv 2) (pv 5)) (pe_op op_mulG (pv 4) (pv 3))) (pa_cons (pe_op op_mulG (pv 3) (pv 5)) pa_nil))))))), ?_⟩
    refine ⟨_, rfl, _, _, rfl, hp, rfl, _, _, rfl, _, _, rfl, rfl, ?_⟩
    refine ⟨_, rfl, _, _, rfl, hq, rfl, _, _, rfl, _, _, rfl, rfl, ?_⟩
    refine ⟨_, rfl, _, rfl, _, _, rfl, rfl, IntMulOk.of_bits br.wn.bits bs.wd.bits, _, rfl, _, rfl, _, _, rfl, rfl, IntMulOk.of_bits bs.wn.bits br.wd.bits, _, _, rfl, rfl, _, rfl, _, rfl, _, _, rfl, rfl, IntMulOk.of_bits br.wd.bits bs.wd.bits, ?_⟩
    exact ⟨_, _, rfl, ddne r s, wdd br bs, fun t H' nw => k _ _ (ratV_low (ddne r s) (sub_div r s) nw.at') nw.same⟩
def spLess (K : PySem.W.Frag) : Sp := fun vs H Q _ => ∃ v1 v2 r s, vs = [v1, v2] ∧ RatV K H v1 r ∧ RatV K H v2 s ∧ Bd 2000 r ∧ Bd 2000 s ∧ Q (.bl (decide (r < s))) H
abbrev sLess : Stmt := top 12
theorem scLess : FnScope ["one", "other", "p", "q", "r", "s"] ["one", "other"] (defScope sLess) := ⟨rfl, rfl, rfl, by decide +kernel, rfl, by decide +kernel, by decide +kernel⟩
theorem ok_less (F : FA K mg "is_less" sLess) (B : Blt mg) : FnHas P w K mg base "is_less" 1 (spLess K) := by
  refine F.has scLess (fun vs H Q E h => ?_) (fun _ _ _ _ _ _ us hl => match us, hl with | [_, _], _ => rfl) (fun f cdv A outer s H vs Q E hr h => ?_)
  · obtain ⟨v1, v2, r, s, rfl, _⟩ := h
    rfl
  · obtain ⟨v1, v2, r, s, rfl, ⟨p, rfl, hp⟩, ⟨q, rfl, hq⟩, br, bs, k⟩ := h
    have nd := scLess.nd
    refine ⟨_, (pss_cons (ps_asg (pv 0) (pgT K rfl (n := 2) rfl (pgs_cons (pg_name (i := 2) nd rfl (Or.inl rfl)) (pgs_cons (pg_name (i := 3) nd rfl (Or.inl rfl)) pgs_nil))))
    (pss_cons (ps_asg (pv 1) (pgT K rfl (n := 2) rfl (pgs_cons (pg_name (i := 4) nd rfl (Or.inl rfl)) (pgs_cons (pg_name (i := 5) nd rfl (Or.inl rfl)) pgs_nil))))
    (pss_one (ps_ret (pe_cmpR op_lt (pe_op op_mulG (pv 2) (pv 5)) (pe_op op_mulG (pv 4) (pv 3)) (nomark _)))))), ?_⟩
    refine ⟨_, rfl, _, _, rfl, hp, rfl, _, _, rfl, _, _, rfl, rfl, ?_⟩
    refine ⟨_, rfl, _, _, rfl, hq, rfl, _, _, rfl, _, _, rfl, rfl, ?_⟩
    refine ⟨_, rfl, _, rfl, _, _, rfl, rfl, IntMulOk.of_bits br.wn.bits bs.wd.bits, _, rfl, _, rfl, _, _, rfl, rfl, IntMulOk.of_bits bs.wn.bits br.wd.bits, _, _, rfl, rfl, ?_⟩
    have e : decide (r.num * (s.den : Int) < s.num * (r.den : Int)) = decide (r < s) := by
      rw [Bool.eq_iff_iff, decide_eq_true_iff, decide_eq_true_iff, Rat.lt_iff]
    show Q (.bl (decide (r.num * (s.den : Int) < s.num * (r.den : Int)))) H
    rw [e]
    exact k
/-- fractions in a row -/
def RatVs (K : PySem.W.Frag) (H : Hp) : List V → List Rat → Prop
  | [], [] => True
  | v :: vs, r :: rs => RatV K H v r ∧ Bd 2000 r ∧ RatVs K H vs rs
  | _, _ => False
theorem RatVs.go {H H' : Hp} (s : Same H H') : ∀ {vs : List V} {rs : List Rat}, RatVs K H vs rs → RatVs K H' vs rs
  | [], [], _ => trivial
  | v :: vs, r :: rs, h => ⟨h.1.go s, h.2.1, RatVs.go s h.2.2⟩
  | [], _ :: _, h => h.elim
  | _ :: _, [], h => h.elim
theorem RatVs.length {H : Hp} : ∀ {vs : List V} {rs : List Rat}, RatVs K H vs rs → vs.length = rs.length
  | [], [], _ => rfl
  | v :: vs, r :: rs, h => by rw [List.length_cons, List.length_cons, RatVs.length h.2.2]
  | [], _ :: _, h => h.elim
  | _ :: _, [], h => h.elim
theorem RatVs.get {H : Hp} : ∀ {vs : List V} {rs : List Rat} {i : Nat} {v : V}, RatVs K H vs rs → vs[i]? = some v → ∃ r, rs[i]? = some r ∧ RatV K H v r ∧ Bd 2000 r
  | [], [], i, v, _, e => by simp at e
  | v :: vs, r :: rs, 0, v', h, e => by
    have e' : v = v' := by simpa using e
    subst e'
    exact ⟨r, rfl, h.1, h.2.1⟩
  | v :: vs, r :: rs, i + 1, v', h, e => by
    obtain ⟨r', e1, q⟩ := RatVs.get h.2.2 (show vs[i]? = some v' by simpa using e)
    exact ⟨r', by simpa using e1, q⟩
  | [], _ :: _, _, _, h, _ => h.elim
  | _ :: _, [], _, _, h, _ => h.elim
def spLeast (K : PySem.W.Frag) : Sp := fun vs H Q _ => ∃ l xs rs, vs = [.ref l] ∧ SqL K H l xs ∧ RatVs K H xs rs ∧ xs ≠ [] ∧ ∀ (i : Nat) (v : V) (r : Rat), xs[i]? = some v → rs[i]? = some r → (∀ s ∈ rs, r ≤ s) → Q v H
abbrev sLeast : Stmt := top 13
theorem scLeast : FnScope ["some", "best", "one"] ["some"] (defScope sLeast) := ⟨rfl, rfl, rfl, by decide +kernel, rfl, by decide +kernel, by decide +kernel⟩
theorem ok_least (F : FA K mg "least" sLeast) (B : Blt mg) (his_less : FnHas P w K mg base "is_less" 1 (spLess K)) : FnHas P w K mg base "least" 2 (spLeast K) := by
  refine F.has scLeast (fun vs H Q E h => ?_) (fun _ _ _ _ _ _ us hl => match us, hl with | [_], _ => rfl) (fun f cdv A outer s H vs Q E hr h => ?_)
  · obtain ⟨l, xs, rs, rfl, _⟩ := h
    rfl
  · obtain ⟨l, xs, rs, rfl, hl, hr', hne, k⟩ := h
    have nd := scLeast.nd
    refine ⟨_, (pss_cons (ps_set (i := 1) nd rfl (Or.inl rfl) (pe_ix (ixK K rfl) (pv 0) pe_int (fun _ _ => rfl)))
    (pss_cons (ps_for PassesOwn.never rfl (piL K rfl (pv 0)) (pg_name (i := 2) nd rfl (Or.inl rfl))
    (pss_one (ps_if (pt_val (pe_fn his_less (hr.mono (by decide)) rfl (pa_cons (pv 2) (pa_cons (pv 1) pa_nil))))
    (pss_one (ps_set (i := 1) nd rfl (Or.inl rfl) (pv 2)))
    pss_nil)))
    (pss_one (ps_ret (pv 1))))), ?_⟩
    have hlen := hr'.length
    have h0 : 0 < xs.length := List.length_pos_iff.mpr hne
    have e0 := List.getElem?_eq_getElem h0
    refine ⟨_, rfl, .inl ⟨l, xs, 0, xs[0], rfl, rfl, hl, atI_of (by decide) e0, ?_⟩⟩
    refine ⟨_, rfl, l, rfl, ⟨_, hl⟩, for_list (K := K) (a := l) (xs := xs) (fun i σ H2 => H2 = H ∧ ∃ (j : Nat) (b : V) (r : Rat) (v : Option V), xs[j]? = some b ∧ rs[j]? = some r ∧ (∀ (m : Nat) (s : Rat), m < i → rs[m]? = some s → r ≤ s) ∧ σ = [some (.ref l), some b, v]) ?_ (fun i σ H2 _ h => by rw [h.1]; exact hl) ?_ ?_⟩
    · obtain ⟨r, e1, _⟩ := hr'.get e0
      exact ⟨rfl, 0, _, r, none, e0, e1, fun m s hm => absurd hm (Nat.not_lt_zero _), rfl⟩
    · rintro i x σ H2 hx ⟨rfl, j, b, r, v, eb, er, hm, rfl⟩
      obtain ⟨t, et, rt, bt⟩ := hr'.get hx
      obtain ⟨r2, er2, rb, bb⟩ := hr'.get eb
      rw [er] at er2
      cases er2
      refine ⟨_, rfl, _, rfl, x, b, t, r, rfl, rt, rb, bt, bb, _, rfl, ?_⟩
      refine ite2 (fun hc => ?_) (fun hc => ?_)
      · have hlt : t < r := of_decide_eq_true hc
        refine ⟨_, rfl, ?_⟩
        refine ⟨rfl, i, x, t, _, hx, et, fun m s hmi es => ?_, rfl⟩
        rcases Nat.lt_succ_iff_lt_or_eq.mp hmi with h | h
        · exact Rat.le_trans (Rat.le_of_lt hlt) (hm m s h es)
        · subst h
          rw [et] at es
          cases es
          exact Rat.le_refl
      · have hnl : ¬ t < r := fun z => hc (decide_eq_true z)
        refine ⟨rfl, j, b, r, _, eb, er, fun m s hmi es => ?_, rfl⟩
        rcases Nat.lt_succ_iff_lt_or_eq.mp hmi with h | h
        · exact hm m s h es
        · subst h
          rw [et] at es
          cases es
          exact Rat.not_lt.mp hnl
    · rintro σ H2 ⟨rfl, j, b, r, v, eb, er, hm, rfl⟩
      refine ⟨_, rfl, k j b r eb er fun s hs => ?_⟩
      obtain ⟨m, hml, em⟩ := List.mem_iff_getElem.mp hs
      exact hm m s (by omega) (by rw [List.getElem?_eq_getElem hml, em])
def spMk (K : PySem.W.Frag) : Sp := fun vs H Q _ => ∃ a b, vs = [.int a, .int b] ∧ b ≠ 0 ∧ Wd b ∧ ∀ v H', RatV K H' v (Rat.divInt a b) → Same H H' → Q v H'
abbrev sFn : Stmt := top 9
theorem scFn : FnScope ["p", "q"] ["p", "q"] (defScope sFn) := ⟨rfl, rfl, rfl, by decide +kernel, rfl, by decide +kernel, by decide +kernel⟩
theorem ok_fn (F : FA K mg "fraction" sFn) (B : Blt mg) (his_whole : FnHas P w K mg base "is_whole" 1 (spIsW K)) (hlowest_terms : FnHas P w K mg base "lowest_terms" 2 spLow) : FnHas P w K mg base "fraction" 3 (spMk K) := by
  refine F.has scFn (fun vs H Q E h => ?_) (fun _ _ _ _ _ _ us hl => match us, hl with | [_, _], _ => rfl) (fun f cdv A outer s H vs Q E hr h => ?_)
  · obtain ⟨a, b, rfl, _⟩ := h
    rfl
  · obtain ⟨a, b, rfl, hb, wb, k⟩ := h
    have nd := scFn.nd
    refine ⟨_, (pss_cons (ps_if (PW.pt (pw_or (pt_not (pt_val (pe_fn his_whole (hr.mono (by decide)) rfl (pa_cons (pv 0) pa_nil)))) (pw_or1 (pt_not (pt_val (pe_fn his_whole (hr.mono (by decide)) rfl (pa_cons (pv 1) pa_nil)))))))
    (pss_one ps_never)
    pss_nil)
    (pss_cons (ps_if (pt_cmpR (eqK K rfl hr.units) (pv 1) pe_int (nomark _))
    (pss_one ps_never)
    pss_nil)
    (pss_one (ps_ret (pe_fn hlowest_terms (hr.mono (by decide)) rfl (pa_cons (pv 0) (pa_cons (pv 1) pa_nil))))))), ?_⟩
    have iw : isW "int" = true := by decide
    refine ⟨_, rfl, _, "int", rfl, rfl, _, rfl, ?_⟩
    rw [iw]
    refine iteF ?_
    refine ⟨_, rfl, _, "int", rfl, rfl, _, rfl, ?_⟩
    rw [iw]
    refine iteF ?_
    refine ⟨_, rfl, .inl ⟨_, _, rfl, rfl, _, rfl, ?_⟩⟩
    rw [decide_eq_false hb]
    refine iteF ?_
    exact ⟨_, rfl, _, rfl, _, _, rfl, hb, wb, fun t H' nw => k _ _ (ratV_low hb rfl nw.at') nw.same⟩
end
end Lw



set_option Elab.async false
set_option linter.all false
set_option maxRecDepth 100000
set_option maxHeartbeats 1000000
set_option exponentiation.threshold 6000
namespace Lw
open PySem PySem.Spec PyProof.Rows L2 Rt Ln
section
variable {P : Program} {w : World} {K : PySem.W.Frag} {mg : Str → Option Value} {base : Heap}
/-! ### machines -/
def machD (rs : List Int) (r f j t : Int) : PyData := .tuple [.tuple (rs.map PyData.int), .int r, .int f, .int j, .int t]
theorem machD_no (rs : List Int) (r f j t : Int) : noL (machD rs r f j t) = true := by simp [machD, noL, noLs, noLs_ints]
theorem mach_inv {H : Hp} {v : V} {rs : List Int} {r f j t : Int} (h : RD K H v (machD rs r f j t)) : ∃ a b, v = .ref a ∧ SqT K H a [.ref b, .int r, .int f, .int j, .int t] ∧ SqT K H b (rs.map V.int) := by
  obtain ⟨a, xs, rfl, h1, h2⟩ := h.tup_inv
  obtain ⟨x1, r1, rfl, e1, h2⟩ := h2.cons_inv
  obtain ⟨x2, r2, rfl, e2, h2⟩ := h2.cons_inv
  obtain ⟨x3, r3, rfl, e3, h2⟩ := h2.cons_inv
  obtain ⟨x4, r4, rfl, e4, h2⟩ := h2.cons_inv
  obtain ⟨x5, r5, rfl, e5, h2⟩ := h2.cons_inv
  cases h2.nil_inv
  cases e2.int_inv
  cases e3.int_inv
  cases e4.int_inv
  cases e5.int_inv
  obtain ⟨b, ys, rfl, h3, h4⟩ := e1.tup_inv
  rw [h4.ints_inv] at h3
  exact ⟨a, b, rfl, h1, h3⟩
structure OkM (rs : List Int) (r f j t : Int) : Prop where
  len : rs.length = 2 ∨ rs.length = 3
  rl : ∀ z ∈ rs, 1 ≤ z ∧ z ≤ 100
  r1 : 1 ≤ r ∧ r ≤ 50
  f1 : 1 ≤ f ∧ f ≤ 50
  j1 : 1 ≤ j ∧ j ≤ 50
  t1 : 1 ≤ t ∧ t ≤ 100
def spMach (K : PySem.W.Frag) : Sp := fun vs H Q _ => ∃ p, vs = [.ref p] ∧ IsBag H p ∧ ∀ v rs r f j t H', RD K H' v (machD rs r f j t) → OkM rs r f j t → BagX p H H' → Q v H'
abbrev sMach : Stmt := top 51
theorem scMach : FnScope ["_law_bag_here", "_law_kind", "_law_most", "_law_rails"] ["_law_bag_here"] (defScope sMach) := ⟨rfl, rfl, rfl, by decide +kernel, rfl, by decide +kernel, by decide +kernel⟩
theorem ok_mach (F : FA K mg "_law_machine" sMach) (B : Blt mg) (hL_take : FnHas P w K mg base "_law_take" 1 spTake) : FnHas P w K mg base "_law_machine" 2 (spMach K) := by
  refine F.has scMach (fun vs H Q E h => ?_) (fun _ _ _ _ _ _ us hl => match us, hl with | [_], _ => rfl) (fun f cdv A outer s H vs Q E hr h => ?_)
  · obtain ⟨p, rfl, _⟩ := h
    rfl
  · obtain ⟨p, rfl, bg, k⟩ := h
    have nd := scMach.nd
    refine ⟨_, (pss_cons (ps_set (i := 1) nd rfl (Or.inl rfl) (pe_fn hL_take (hr.mono (by decide)) rfl (pa_cons (pv 0) (pa_cons pe_int pa_nil))))
    (pss_cons (ps_set (i := 2) nd rfl (Or.inr rfl) (pe_ix (ixK K rfl) (pe_lstA (pa_cons pe_int (pa_cons pe_int (pa_cons pe_int (pa_cons pe_int (pa_cons pe_int (pa_cons pe_int (pa_cons pe_int (pa_cons pe_int pa_nil))))))))) (pv 1) (fun _ _ => rfl)))
    (pss_cons (ps_set (i := 3) nd rfl (Or.inl rfl) (pe_callTy (x := "tuple") (tupleK K rfl) rfl (B.at "tuple") PyProof.Rows.boot_tuple (pa_cons (pe_comp (N := ["_law_axis", "_law_bag_here", "_law_most"]) (js := [none, some 0, some 2]) rfl rfl rfl (pi_range1 rfl (B.at "range") (pa_cons (pe_op op_add pe_int (pe_fn hL_take (hr.mono (by decide)) rfl (pa_cons (pv 0) (pa_cons pe_int pa_nil)))) pa_nil)) (fun _ _ _ _ _ => (pg_name (i := 0) (show List.Nodup (["_law_axis", "_law_bag_here", "_law_most"] : List Str) by decide +kernel) rfl (Or.inl rfl))) (fun _ _ _ _ _ => pts_nil) (fun _ _ _ _ _ => (pe_op op_add pe_int (pe_fn hL_take (hr.mono (by decide)) rfl (pa_cons (pv 1) (pa_cons (pv 2) pa_nil)))))) pa_nil)))
    (pss_cons (ps_if (pt_cmpR (eqK K rfl hr.units) (pv 1) pe_int (nomark _))
    (pss_one (ps_ret (pe_tupA (pa_cons (pv 3) (pa_cons (pe_op op_add pe_int (pe_op op_mulG pe_int (pe_fn hL_take (hr.mono (by decide)) rfl (pa_cons (pv 0) (pa_cons pe_int pa_nil))))) (pa_cons (pe_op op_add pe_int (pe_op op_mulG pe_int (pe_fn hL_take (hr.mono (by decide)) rfl (pa_cons (pv 0) (pa_cons pe_int pa_nil))))) (pa_cons (pe_op op_add pe_int (pe_op op_mulG pe_int (pe_fn hL_take (hr.mono (by decide)) rfl (pa_cons (pv 0) (pa_cons pe_int pa_nil))))) (pa_cons pe_int pa_nil))))))))
    pss_nil)
    (pss_one (ps_ret (pe_tupA (pa_cons (pv 3) (pa_cons (pe_op op_add pe_int (pe_fn hL_take (hr.mono (by decide)) rfl (pa_cons (pv 0) (pa_cons pe_int pa_nil)))) (pa_cons (pe_op op_add pe_int (pe_fn hL_take (hr.mono (by decide)) rfl (pa_cons (pv 0) (pa_cons pe_int pa_nil)))) (pa_cons (pe_op op_add pe_int (pe_fn hL_take (hr.mono (by decide)) rfl (pa_cons (pv 0) (pa_cons pe_int pa_nil)))) (pa_cons (pe_op op_add pe_int (pe_fn hL_take (hr.mono (by decide)) rfl (pa_cons (pv 0) (pa_cons pe_int pa_nil)))) pa_nil)))))))))))), ?_⟩
    refine ⟨_, rfl, p, 8, rfl, bg, by decide, by decide, fun kd H1 k0 k1 b1 => ?_⟩
    refine ⟨smallN _ (Nat.le_of_ble_eq_true rfl), fun l H2 nw => ?_⟩
    have b2 : BagX p H1 H2 := .ofSame b1.bag nw.same
    obtain ⟨far, mf, ef⟩ := ints_ix [100, 100, 100, 60, 60, 20, 5, 100] k0 k1
    have f1 : 1 ≤ far ∧ far ≤ 100 := by
      have h : ∀ z ∈ ([100, 100, 100, 60, 60, 20, 5, 100] : List Int), 1 ≤ z ∧ z ≤ 100 := by decide
      exact h far mf
    refine ⟨_, rfl, .inl ⟨l, _, _, _, rfl, rfl, SqL.of nw.at', ef, ?_⟩⟩
    refine ⟨_, rfl, p, 2, rfl, b2.bag, by decide, by decide, fun ax H3 a0 a1 b3 => ?_⟩
    refine ⟨_, _, rfl, rfl, _, rfl, by omega, by omega, fun D H4 n4 => ?_⟩
    refine comp_bag (J := Itr 0 (2 + ax).toNat) (p := p) (H := H3) (2 + ax).toNat _ n4 b3.bag (by omega) (fun i => .int (0 + (i : Int))) (fun i H5 hi _ => ⟨hi, fun y H6 ⟨e, q⟩ => ⟨e, q⟩⟩) (fun H5 _ => Nat.le_refl _) (fun z => 1 ≤ z ∧ z ≤ 100) ?_ ?_
    · intro i H5 Q' hi b5 hq
      refine ⟨_, rfl, _, rfl, p, far, rfl, b5.bag, f1.1, by omega, fun d H6 d0 d1 b6 => ?_⟩
      exact ⟨_, _, rfl, rfl, hq _ _ (by omega) b6⟩
    intro H5 is b5 d5 l5 bd5
    have b15 := b1.trans (b2.trans (b3.trans b5))
    refine ⟨D, _, rfl, .inl ⟨SqL.of d5, fun q H6 n6 => ?_⟩⟩
    have b6 : BagX p H5 H6 := .ofSame b15.bag n6.same
    have q6 : SqT K H6 q (is.map V.int) := SqT.of n6.at'
    refine ⟨_, rfl, .inl ⟨_, _, rfl, rfl, _, rfl, ?_⟩⟩
    refine ite2 (fun hc => ?_) (fun hc => ?_)
    · refine ⟨_, rfl, _, rfl, p, 2, rfl, b6.bag, by decide, by decide, fun ri H7 ri0 ri1 b7 => ?_⟩
      refine ⟨_, _, rfl, rfl, .of_left (intBits_le_64 (by decide) (by decide)), _, _, rfl, rfl, ?_⟩
      refine ⟨_, rfl, p, 2, rfl, b7.bag, by decide, by decide, fun fa H8 fa0 fa1 b8 => ?_⟩
      refine ⟨_, _, rfl, rfl, .of_left (intBits_le_64 (by decide) (by decide)), _, _, rfl, rfl, ?_⟩
      refine ⟨_, rfl, p, 2, rfl, b8.bag, by decide, by decide, fun ju H9 ju0 ju1 b9 => ?_⟩
      refine ⟨_, _, rfl, rfl, .of_left (intBits_le_64 (by decide) (by decide)), _, _, rfl, rfl, ?_⟩
      refine ⟨smallN _ (Nat.le_of_ble_eq_true rfl), fun t H10 n10 => ?_⟩
      have b10 : BagX p H9 H10 := .ofSame b9.bag n10.same
      have b610 := b7.trans (b8.trans (b9.trans b10))
      have q10 : SqT K H10 q (is.map V.int) := SqT.t (BagX.t b6.bag b610) q6
      exact k (.ref t) is (1 + 49 * ri) (1 + 49 * fa) (1 + 49 * ju) 100 H10 (rd_tup (SqT.of n10.at') (rds_cons (rd_tup q10 (rds_ints is)) (rds_cons (rd_int _) (rds_cons (rd_int _) (rds_cons (rd_int _) (rds_cons (rd_int _) rds_nil)))))) ⟨by omega, bd5, by omega, by omega, by omega, by omega⟩ (b15.trans (b6.trans b610))
    · refine ⟨_, rfl, _, rfl, p, 50, rfl, b6.bag, by decide, by decide, fun ri H7 ri0 ri1 b7 => ?_⟩
      refine ⟨_, _, rfl, rfl, ?_⟩
      refine ⟨_, rfl, p, 50, rfl, b7.bag, by decide, by decide, fun fa H8 fa0 fa1 b8 => ?_⟩
      refine ⟨_, _, rfl, rfl, ?_⟩
      refine ⟨_, rfl, p, 50, rfl, b8.bag, by decide, by decide, fun ju H9 ju0 ju1 b9 => ?_⟩
      refine ⟨_, _, rfl, rfl, ?_⟩
      refine ⟨_, rfl, p, 100, rfl, b9.bag, by decide, by decide, fun ti H10 ti0 ti1 b10 => ?_⟩
      refine ⟨_, _, rfl, rfl, smallN _ (Nat.le_of_ble_eq_true rfl), fun t H11 n11 => ?_⟩
      have b11 : BagX p H10 H11 := .ofSame b10.bag n11.same
      have b611 := b7.trans (b8.trans (b9.trans (b10.trans b11)))
      have q11 : SqT K H11 q (is.map V.int) := SqT.t (BagX.t b6.bag b611) q6
      exact k (.ref t) is (1 + ri) (1 + fa) (1 + ju) (1 + ti) H11 (rd_tup (SqT.of n11.at') (rds_cons (rd_tup q11 (rds_ints is)) (rds_cons (rd_int _) (rds_cons (rd_int _) (rds_cons (rd_int _) (rds_cons (rd_int _) rds_nil)))))) ⟨by omega, bd5, by omega, by omega, by omega, by omega⟩ (b15.trans (b6.trans b611))
def spFracL (K : PySem.W.Frag) : Sp := fun vs H Q _ => ∃ a b, vs = [.int a, .int b] ∧ 0 < b ∧ Wd b ∧ ∀ v H', RatV K H' v (Rat.divInt a b) → Same H H' → Q v H'
abbrev sFracL : Stmt := top 47
theorem scFracL : FnScope ["_law_p", "_law_q", "_law_one", "_law_other_here"] ["_law_p", "_law_q"] (defScope sFracL) := ⟨rfl, rfl, rfl, by decide +kernel, rfl, by decide +kernel, by decide +kernel⟩
theorem ok_fracL (F : FA K mg "_law_frac" sFracL) (B : Blt mg) : FnHas P w K mg base "_law_frac" 1 (spFracL K) := by
  refine F.has scFracL (fun vs H Q E h => ?_) (fun _ _ _ _ _ _ us hl => match us, hl with | [_, _], _ => rfl) (fun f cdv A outer s H vs Q E hr h => ?_)
  · obtain ⟨a, b, rfl, _⟩ := h
    rfl
  · obtain ⟨a, b, rfl, hb, wb, k⟩ := h
    have nd := scFracL.nd
    refine ⟨_, (pss_cons (ps_par (i := 2) (j := 3) rfl nd rfl rfl (by decide) rfl rfl (pa_cons (pe_callB (x := "abs") call_abs rfl (B.at "abs") PyProof.Rows.boot_abs (pa_cons (pv 0) pa_nil)) (pa_cons (pv 1) pa_nil)) rfl)
    (pss_cons (ps_while PassesOwn.never (pt_cmpR op_gt (pv 3) pe_int (nomark _))
    (pss_one (ps_par (i := 2) (j := 3) rfl nd rfl rfl (by decide) rfl rfl (pa_cons (pv 3) (pa_cons (pe_op op_mod (pv 2) (pv 3)) pa_nil)) rfl)))
    (pss_one (ps_ret (pe_tupA (pa_cons (pe_op op_fdivW (pv 0) (pv 2)) (pa_cons (pe_op op_fdivW (pv 1) (pv 2)) pa_nil))))))), ?_⟩
    refine ⟨_, rfl, _, rfl, _, rfl, _, _, rfl, ?_⟩
    refine while_by (fun σ H2 => H2 = H ∧ ∃ (x y : Int), σ = [some (.int a), some (.int b), some (.int x), some (.int y)] ∧ 0 ≤ x ∧ 0 ≤ y ∧ Int.gcd x y = Int.gcd a b) (fun σ _ => match σ with | [_, _, _, some (.int y)] => y.natAbs | _ => 0) ?_ ?_ ?_
    · refine ⟨rfl, _, _, rfl, by split <;> omega, by omega, ?_⟩
      have h1 : (if a < 0 then -a else a).natAbs = a.natAbs := by split <;> omega
      unfold Int.gcd
      rw [h1]
    · rintro σ H2 ⟨rfl, x, y, rfl, x0, y0, e⟩
      refine ⟨_, rfl, _, _, rfl, rfl, _, rfl, ?_⟩
      refine ite2 (fun hc => ?_) (fun hc => ?_)
      · have hy' : 0 < y := of_decide_eq_true hc
        have hy : y ≠ 0 := by omega
        refine ⟨_, rfl, _, rfl, _, rfl, _, _, rfl, rfl, hy', _, _, rfl, ?_⟩
        refine ⟨⟨rfl, _, _, rfl, y0, Int.emod_nonneg _ hy, (Ar.gcd_em hy').trans e⟩, ?_⟩
        show (x % y).natAbs < y.natAbs
        have := Int.emod_nonneg x hy
        have := Int.emod_lt_of_pos x hy'
        omega
      · have hy : y = 0 := by
          have : ¬ y > 0 := fun z => hc (decide_eq_true z)
          omega
        subst hy
        rw [Int.gcd_zero_right] at e
        have ex : x = ((Int.gcd a b : Nat) : Int) := by omega
        have hbn : b ≠ 0 := by omega
        have gp := Ar.gcd_pos (p := a) hbn
        have es : Ar.sg a b = (Int.gcd a b : Int) := by unfold Ar.sg; rw [if_neg (by omega)]
        have gw : Wd (Int.gcd a b : Int) := by
          rw [← es]
          exact Nat.lt_of_le_of_lt (Ar.sg_le hbn) wb
        obtain ⟨e1, e2⟩ := low_rat (a := a) hbn
        have f1 : a / (Int.gcd a b : Int) = (Rat.divInt a b).num := by
          rw [← e1]; unfold Ar.lowP; rw [es, Int.fdiv_eq_ediv_of_nonneg _ (by omega)]
        have f2 : b / (Int.gcd a b : Int) = ((Rat.divInt a b).den : Int) := by
          rw [← e2]; unfold Ar.lowQ; rw [es, Int.fdiv_eq_ediv_of_nonneg _ (by omega)]
        subst ex
        refine ⟨_, rfl, _, rfl, _, _, rfl, rfl, ⟨gp, gw⟩, _, rfl, _, rfl, _, _, rfl, rfl, ⟨gp, gw⟩, smallN _ (Nat.le_of_ble_eq_true rfl), fun t H6 n6 => ?_⟩
        have at6 := n6.at'
        simp only [f1, f2] at at6
        exact k _ _ ⟨t, rfl, SqT.of at6⟩ n6.same
    · rintro σ H2 Q1 Q2 hq ⟨v1, e1, i, j, e3, e4, kk, e5, q⟩
      exact ⟨v1, e1, i, j, e3, e4, kk, e5, hq _ _ q⟩
abbrev sLNum : Stmt := top 46
theorem scLNum : FnScope ["_law_thing"] ["_law_thing"] (defScope sLNum) := ⟨rfl, rfl, rfl, by decide +kernel, rfl, by decide +kernel, by decide +kernel⟩
theorem ok_lnum (F : FA K mg "_law_number" sLNum) (B : Blt mg) : FnHas P w K mg base "_law_number" 1 (spIsW K) := by
  refine F.has scLNum (fun vs H Q E h => ?_) (fun _ _ _ _ _ _ us hl => match us, hl with | [_], _ => rfl) (fun f cdv A outer s H vs Q E hr h => ?_)
  · obtain ⟨v, T, rfl, _⟩ := h
    rfl
  · obtain ⟨v, T, rfl, ty, k⟩ := h
    have nd := scLNum.nd
    refine ⟨_, (pss_one (ps_ret (pe_and (pe_callB (x := "isinstance") (isiK K rfl) rfl (B.at "isinstance") PyProof.Rows.boot_isinstance (pa_cons (pv 0) (pa_cons (pe_bltn (x := "int") (v := .ty "int") rfl (B.at "int") PyProof.Rows.boot_int rfl) pa_nil))) (pe_one (pe_not (pe_callB (x := "isinstance") (isiK K rfl) rfl (B.at "isinstance") PyProof.Rows.boot_isinstance (pa_cons (pv 0) (pa_cons (pe_bltn (x := "bool") (v := .ty "bool") rfl (B.at "bool") PyProof.Rows.boot_bool rfl) pa_nil)))))))), ?_⟩
    refine ⟨_, rfl, .inl ⟨_, T, "int", _, rfl, ty, by decide, rfl, _, rfl, ?_⟩⟩
    unfold isW at k
    refine ite2 (fun hc => ?_) (fun hc => ?_)
    · refine ⟨_, rfl, .inl ⟨_, T, "bool", _, rfl, ty, by decide, rfl, _, rfl, ?_⟩⟩
      rw [hc, Bool.true_and] at k
      exact k
    · rw [Bool.eq_false_iff.mpr hc, Bool.false_and] at k
      exact k
end
end Lw



set_option Elab.async false
set_option linter.all false
set_option maxRecDepth 100000
set_option maxHeartbeats 1000000
set_option exponentiation.threshold 6000
namespace Lw
open PySem PySem.Spec PyProof.Rows L2 Rt Ln
section
variable {P : Program} {w : World} {K : PySem.W.Frag} {mg : Str → Option Value} {base : Heap}
theorem tyTT : tyIs "tuple" "tuple" = true := by decide
theorem tyLL : tyIs "list" "list" = true := by decide
/-! ### items -/
abbrev Itm := Option (List Int × Int)
def itR (d : PyData) (o : Itm) : Prop := (∃ ns sp, d = lineD ns sp ∧ o = some (ns, sp)) ∨ ∃ w x, d = .tuple [.str w, x] ∧ (w = "wait" ∨ w = "tool" ∨ w = "mark") ∧ noL x = true ∧ o = none
theorem itR.no {d : PyData} {o : Itm} (h : itR d o) : noL d = true := by
  rcases h with ⟨ns, sp, rfl, _⟩ | ⟨w, x, rfl, _, h, _⟩
  · exact lineD_no _ _
  · simp [noL, noLs, h]
theorem it_word {H : Hp} {v : V} {d : PyData} {o : Itm} (h : RD K H v d) (i : itR d o) : ∃ a w ys, v = .ref a ∧ SqT K H a (.str w :: ys) ∧ (PyData.eqv (.str w) (.str "line") = o.isSome) ∧ SeqAt.shaped (.str w) = true := by
  rcases i with ⟨ns, sp, rfl, rfl⟩ | ⟨w, x, rfl, hw, _, rfl⟩
  · obtain ⟨a, b, rfl, h1, _⟩ := line_inv h
    exact ⟨a, _, _, rfl, h1, (by show PyData.eqv (.str "line") (.str "line") = true; decide +kernel), by decide +kernel⟩
  · obtain ⟨a, xs, rfl, h1, h2⟩ := h.tup_inv
    obtain ⟨x1, r1, rfl, e1, h2⟩ := h2.cons_inv
    cases e1.str_inv
    refine ⟨a, w, r1, rfl, h1, ?_, ?_⟩
    · show PyData.eqv (.str w) (.str "line") = false
      rcases hw with rfl | rfl | rfl <;> decide +kernel
    · rcases hw with rfl | rfl | rfl <;> decide +kernel
theorem lineW : SeqAt.shaped (.str "line") = true := by decide +kernel
theorem it_line {d : PyData} {ns : List Int} {sp : Int} (h : itR d (some (ns, sp))) : d = lineD ns sp := by
  rcases h with ⟨ns', sp', e1, e2⟩ | ⟨_, _, _, _, _, e2⟩
  · cases e2; exact e1
  · cases e2
structure RowOk (ax : Nat) (ds : List PyData) (os : List Itm) : Prop where
  len : ds.length = os.length
  it : ∀ (i : Nat) (d : PyData) (o : Itm), ds[i]? = some d → os[i]? = some o → itR d o
  ok : ∀ (i : Nat) (ns : List Int) (sp : Int), os[i]? = some (some (ns, sp)) → OkL ax 100 ns ∧ 1 ≤ sp ∧ sp ≤ 20
theorem RowOk.nil {ax : Nat} : RowOk ax [] [] := ⟨rfl, fun i d o e => by simp at e, fun i ns sp e => by simp at e⟩
theorem snoc_get {α : Type} {xs : List α} {x y : α} {j : Nat} (e : (xs ++ [x])[j]? = some y) : xs[j]? = some y ∨ (j = xs.length ∧ y = x) := by
  by_cases hj : j < xs.length
  · rw [List.getElem?_append_left hj] at e; exact .inl e
  · have hj2 : j = xs.length := by
      have := (List.getElem?_eq_some_iff.mp e).1
      rw [List.length_append] at this
      have : j < xs.length + 1 := this
      omega
    rw [hj2, List.getElem?_append_right (Nat.le_refl _), Nat.sub_self] at e
    exact .inr ⟨hj2, (Option.some.inj e).symm⟩
theorem RowOk.snoc {ax : Nat} {ds : List PyData} {os : List Itm} {d : PyData} {o : Itm} (h : RowOk ax ds os) (i : itR d o) (g : ∀ ns sp, o = some (ns, sp) → OkL ax 100 ns ∧ 1 ≤ sp ∧ sp ≤ 20) : RowOk ax (ds ++ [d]) (os ++ [o]) := by
  have hl := h.len
  refine ⟨by rw [List.length_append, List.length_append, h.len]; rfl, fun j d' o' e1 e2 => ?_, fun j ns sp e => ?_⟩
  · rcases snoc_get e1 with e1 | ⟨j1, rfl⟩
    · rcases snoc_get e2 with e2 | ⟨j2, rfl⟩
      · exact h.it j d' o' e1 e2
      · have := (List.getElem?_eq_some_iff.mp e1).1; omega
    · rcases snoc_get e2 with e2 | ⟨j2, rfl⟩
      · have := (List.getElem?_eq_some_iff.mp e2).1; omega
      · exact i
  · rcases snoc_get e with e | ⟨_, e⟩
    · exact h.ok j ns sp e
    · exact g ns sp e.symm
theorem RowOk.no {ax : Nat} {ds : List PyData} {os : List Itm} (h : RowOk ax ds os) : noLs ds = true := noLs_mem.mpr fun d hd => by
  obtain ⟨i, hi⟩ := List.mem_iff_getElem?.mp hd
  have hl := (List.getElem?_eq_some_iff.mp hi).1
  exact (h.it i d _ hi (List.getElem?_eq_getElem (by rw [← h.len]; exact hl))).no
theorem RowOk.get {ax : Nat} {ds : List PyData} {os : List Itm} (h : RowOk ax ds os) {i : Nat} {d : PyData} (e : ds[i]? = some d) : ∃ o, os[i]? = some o ∧ itR d o := by
  have hl := (List.getElem?_eq_some_iff.mp e).1
  have e2 := List.getElem?_eq_getElem (show i < os.length by rw [← h.len]; exact hl)
  exact ⟨_, e2, h.it i d _ e e2⟩
theorem RowOk.take {ax : Nat} {ds : List PyData} {os : List Itm} (h : RowOk ax ds os) (n : Nat) : RowOk ax (ds.take n) (os.take n) := by
  have key : ∀ {α : Type} {xs : List α} {i : Nat} {x : α}, (xs.take n)[i]? = some x → xs[i]? = some x := fun {α xs i x} e => by
    rw [List.getElem?_take] at e
    split at e
    · exact e
    · cases e
  exact ⟨by rw [List.length_take, List.length_take, h.len], fun i d o e1 e2 => h.it i d o (key e1) (key e2), fun i ns sp e => h.ok i ns sp (key e)⟩
theorem RDs.snocT {H : Hp} {l : Addr} {ys : List V} {y : V} {ds : List PyData} {d : PyData} (dl : H l = some (.lst ys)) (r : RDs K H ys ds) (rd : RD K H y d) (n1 : noLs ds = true) (n2 : noL d = true) : RDs K (L2.upd H l (.lst (ys ++ [y]))) (ys ++ [y]) (ds ++ [d]) := by
  have t : SameT H (L2.upd H l (.lst (ys ++ [y]))) := .updL dl
  exact (RDs.t t _ n1 r).append (rds_cons (RD.t t _ n2 rd) rds_nil)
def spIsLn (K : PySem.W.Frag) : Sp := fun vs H Q _ => ∃ v d o, vs = [v] ∧ RD K H v d ∧ itR d o ∧ Q (.bl o.isSome) H
abbrev sIsLn : Stmt := top 30
theorem scIsLn : FnScope ["item"] ["item"] (defScope sIsLn) := ⟨rfl, rfl, rfl, by decide +kernel, rfl, by decide +kernel, by decide +kernel⟩
theorem ok_isln (F : FA K mg "is_line" sIsLn) (B : Blt mg) : FnHas P w K mg base "is_line" 1 (spIsLn K) := by
  refine F.has scIsLn (fun vs H Q E h => ?_) (fun _ _ _ _ _ _ us hl => match us, hl with | [_], _ => rfl) (fun f cdv A outer s H vs Q E hr h => ?_)
  · obtain ⟨v, d, o, rfl, _⟩ := h
    rfl
  · obtain ⟨v, d, o, rfl, ri, it, k⟩ := h
    have nd := scIsLn.nd
    refine ⟨_, (pss_one (ps_ret (pe_cmpR (eqK K rfl hr.units) (pe_ix (ixK K rfl) (pv 0) pe_int (fun _ _ => rfl)) pe_str (nomark _)))), ?_⟩
    obtain ⟨a, wd, ys, rfl, h1, ew, sw⟩ := it_word ri it
    refine ⟨_, rfl, .inr ⟨a, _, 0, .str wd, rfl, rfl, h1, atI_of (Int.le_refl 0) rfl, .inr ⟨_, _, rd_str _, rd_str _, sw, lineW, ?_⟩⟩⟩
    rw [ew]
    exact k
/-! ### other items -/
theorem strs_inv {H : Hp} : ∀ {xs : List V} {zs : List Str}, RDs K H xs (zs.map PyData.str) → xs = zs.map V.str
  | xs, [], h => h.nil_inv
  | xs, n :: ns, h => by
    obtain ⟨y, ys, rfl, h1, h2⟩ := h.cons_inv
    rw [h1.str_inv, strs_inv h2]; rfl
def abc : Str := "abcdefghijklmnopqrstuvwxyz"
theorem abc_len : abc.cps.toList.length = 26 := by decide +kernel
abbrev sOth : Stmt := top 54
theorem scOth : FnScope ["_law_bag_here", "_law_kind", "_law_letters"] ["_law_bag_here"] (defScope sOth) := ⟨rfl, rfl, rfl, by decide +kernel, rfl, by decide +kernel, by decide +kernel⟩
end
end Lw



set_option Elab.async false
set_option linter.all false
set_option maxRecDepth 100000
set_option maxHeartbeats 1000000
set_option exponentiation.threshold 6000
namespace Lw
open PySem PySem.Spec PyProof.Rows L2 Rt Ln
section
variable {P : Program} {w : World} {K : PySem.W.Frag} {mg : Str → Option Value} {base : Heap}
theorem at_last {α : Type} {xs : List α} {x : α} (h : xs.getLast? = some x) : atI xs (-1) = some x := by
  unfold atI ixN
  have hl : xs ≠ [] := by intro e; rw [e] at h; cases h
  have h0 : 0 < xs.length := List.length_pos_iff.mpr hl
  rw [if_neg (by decide), if_pos (by omega)]
  rw [List.getLast?_eq_getElem?] at h
  show xs[((-1 : Int) + (xs.length : Int)).toNat]? = some x
  have e : ((-1 : Int) + (xs.length : Int)).toNat = xs.length - 1 := by omega
  rw [e]; exact h
end
end Lw



set_option Elab.async false
set_option linter.all false
set_option maxRecDepth 100000
set_option maxHeartbeats 1000000
set_option exponentiation.threshold 6000
namespace Lw
open PySem PySem.Spec PyProof.Rows L2 Rt
section
variable {P : Program} {w : World} {K : PySem.W.Frag} {mg : Str → Option Value} {base : Heap}
/-- fractions in a tuple -/
def waysD (ns : List Int) : PyData := .tuple (ns.map fun z => ratD (Rat.divInt z (Ln.leadN ns)))
theorem ratD_no (r : Rat) : noL (ratD r) = true := by simp [ratD, noL, noLs]
theorem noLs_map {α : Type} {f : α → PyData} (h : ∀ a, noL (f a) = true) (l : List α) : noLs (l.map f) = true := noLs_mem.mpr fun d hd => by
  obtain ⟨a, _, rfl⟩ := List.mem_map.mp hd
  exact h a
def spWays (K : PySem.W.Frag) : Sp := fun vs H Q _ => ∃ v ns sp, vs = [v] ∧ RD K H v (lineD ns sp) ∧ OkL ns.length 1000 ns ∧ ns.length ≤ 1000 ∧ ∀ v' H', RD K H' v' (waysD ns) → Same H H' → Q v' H'
abbrev sWays : Stmt := top 18
theorem scWays : FnScope ["line", "lead"] ["line"] (defScope sWays) := ⟨rfl, rfl, rfl, by decide +kernel, rfl, by decide +kernel, by decide +kernel⟩
theorem ok_ways (F : FA K mg "ways_of" sWays) (B : Blt mg) (hlead_of : FnHas P w K mg base "lead_of" 1 (spLead K)) (hfraction : FnHas P w K mg base "fraction" 3 (spMk K)) : FnHas P w K mg base "ways_of" 4 (spWays K) := by
  refine F.has scWays (fun vs H Q E h => ?_) (fun _ _ _ _ _ _ us hl => match us, hl with | [_], _ => rfl) (fun f cdv A outer s H vs Q E hr h => ?_)
  · obtain ⟨v, ns, sp, rfl, _⟩ := h
    rfl
  · obtain ⟨v, ns, sp, rfl, rd, ok, hz, k⟩ := h
    have nd := scWays.nd
    refine ⟨_, (pss_cons (ps_set (i := 1) nd rfl (Or.inr rfl) (pe_fn hlead_of (hr.mono (by decide)) rfl (pa_cons (pv 0) pa_nil)))
    (pss_one (ps_ret (pe_callTy (x := "tuple") (tupleK K rfl) rfl (B.at "tuple") PyProof.Rows.boot_tuple (pa_cons (pe_comp (N := ["step", "lead"]) (js := [none, some 1]) rfl rfl rfl (piT K rfl (pe_ix (ixK K rfl) (pv 0) pe_int (fun _ _ => rfl))) (fun _ _ _ _ _ => (pg_name (i := 0) (show List.Nodup (["step", "lead"] : List Str) by decide +kernel) rfl (Or.inl rfl))) (fun _ _ _ _ _ => pts_nil) (fun _ _ _ _ _ => (pe_fn hfraction (hr.mono (by decide)) rfl (pa_cons (pv 0) (pa_cons (pv 1) pa_nil))))) pa_nil))))), ?_⟩
    refine ⟨_, rfl, v, ns, sp, rfl, rd, ok.ne, hz, fun H1 s1 => ?_⟩
    obtain ⟨a, b, rfl, ha, hb⟩ := line_inv (RD.mono s1 _ rd)
    obtain ⟨lp, lm⟩ := ok.lead
    refine ⟨_, rfl, .inr ⟨a, _, 1, .ref b, rfl, rfl, ha, rfl, b, rfl, ⟨_, hb⟩, fun D H0 nw => ?_⟩⟩
    refine comp_rdT (K := K) (xs := ns.map V.int) (ds := ns.map fun z => ratD (Rat.divInt z (Ln.leadN ns))) _ hb nw (by simp) (by simpa using hz) (noLs_map (fun _ => ratD_no _) _) ?_ ?_
    · intro i x d H2 Q' ex ed s2 hq
      obtain ⟨n, en, rfl⟩ := map_getI ed
      cases map_getV ex en
      refine ⟨_, rfl, _, rfl, n, _, rfl, by omega, wdB (n := 20) (by omega) (by decide), fun v3 H3 r3 s3 => ?_⟩
      exact hq _ _ s3 r3.rd
    · intro H' ys s2 d2 r2
      refine ⟨D, _, rfl, .inl ⟨SqL.of d2, fun t H4 n4 => ?_⟩⟩
      exact k _ _ (rd_tup (SqT.of n4.at') (RDs.mono n4.same _ r2)) (s1.trans (s2.trans n4.same))
end
end Lw



set_option Elab.async false
set_option linter.all false
set_option maxRecDepth 100000
set_option maxHeartbeats 1000000
namespace Lw
open PySem PySem.Spec PyProof.Rows L2
section
variable {P : Program} {w : World} {K : PySem.W.Frag} {mg : Str → Option Value} {base : Heap}
/-! ### _law_odd_thing -/
end
end Lw



set_option Elab.async false
set_option linter.all false
set_option maxRecDepth 100000
set_option maxHeartbeats 1000000
namespace Lw
open PySem PySem.Spec PyProof.Rows L2
section
variable {P : Program} {w : World} {K : PySem.W.Frag} {mg : Str → Option Value} {base : Heap}
theorem whole_cases (d : PyData) : (∃ i, d = .int i ∧ isW (tyD d) = true) ∨ (isW (tyD d) = false ∧ ∀ i, d ≠ .int i) := by
  cases d with
  | int i => exact .inl ⟨i, rfl, by simp [tyD]; decide⟩
  | _ => exact .inr ⟨by simp [tyD]; decide, fun _ z => nomatch z⟩
/-- a whole number between two others -/
def inW (lo hi : Int) : PyData → Bool
  | .int i => decide (lo ≤ i) && decide (i ≤ hi)
  | _ => false
theorem inW_no {lo hi : Int} {d : PyData} (h : ∀ i, d ≠ .int i) : inW lo hi d = false := by
  cases d <;> first | rfl | exact absurd rfl (h _)
def spWW (K : PySem.W.Frag) : Sp := fun vs H Q _ => ∃ v d lo hi, vs = [v, .int lo, .int hi] ∧ RD K H v d ∧ Q (.bl (inW lo hi d)) H
abbrev sWW : Stmt := top 6
theorem scWW : FnScope ["thing", "low", "high"] ["thing", "low", "high"] (defScope sWW) := ⟨rfl, rfl, rfl, by decide +kernel, rfl, by decide +kernel, by decide +kernel⟩
theorem ok_ww (F : FA K mg "is_whole_within" sWW) (B : Blt mg) (his_whole : FnHas P w K mg base "is_whole" 1 (spIsW K)) : FnHas P w K mg base "is_whole_within" 2 (spWW K) := by
  refine F.has scWW (fun vs H Q E h => ?_) (fun _ _ _ _ _ _ us hl => match us, hl with | [_, _, _], _ => rfl) (fun f cdv A outer s H vs Q E hr h => ?_)
  · obtain ⟨v, d, lo, hi, rfl, _⟩ := h
    rfl
  · obtain ⟨v, d, lo, hi, rfl, rd, k⟩ := h
    have nd := scWW.nd
    refine ⟨_, (pss_one (ps_ret (pe_and (pe_fn his_whole (hr.mono (by decide)) rfl (pa_cons (pv 0) pa_nil)) (pe_one (pe_chain op_le op_le (pv 1) (pv 0) (pv 2)))))), ?_⟩
    refine ⟨_, rfl, _, _, rfl, rd.ty, _, rfl, ?_⟩
    rcases whole_cases d with ⟨i, rfl, e⟩ | ⟨e, hn⟩
    · cases rd.int_inv
      rw [e]
      refine iteT ?_
      have k : Q (.bl (decide (lo ≤ i) && decide (i ≤ hi))) H := k
      refine ⟨_, rfl, _, rfl, _, _, rfl, rfl, _, rfl, ?_⟩
      refine ite2 (fun hc => ?_) (fun hc => ?_)
      · have hc' : decide (lo ≤ i) = true := hc
        rw [hc', Bool.true_and] at k
        exact ⟨_, rfl, _, _, rfl, rfl, k⟩
      · have hc' : decide (lo ≤ i) = false := Bool.eq_false_iff.mpr hc
        rw [hc', Bool.false_and] at k
        exact k
    · rw [e]
      refine iteF ?_
      rw [inW_no hn] at k
      exact k
end
end Lw



set_option Elab.async false
set_option linter.all false
set_option maxRecDepth 100000
set_option maxHeartbeats 1000000
set_option exponentiation.threshold 6000
namespace Lw
open PySem PySem.Spec PyProof.Rows L2 Rt Ln Cn
section
variable {P : Program} {w : World} {K : PySem.W.Frag} {mg : Str → Option Value} {base : Heap}
theorem zip_at {ns ms : List Int} {i : Nat} {a b : Int} (h1 : ns[i]? = some a) (h2 : ms[i]? = some b) : (crossZ ns ms)[i]? = some (a * (leadN ms : Int) - b * (leadN ns : Int)) := by
  unfold crossZ
  rw [List.getElem?_map, (List.getElem?_zip_eq_some (z := (a, b))).mpr ⟨h1, h2⟩]; rfl
/-! ### _law_corner -/
def cornD (j : Int) (ns ms : List Int) : PyData := if leadN (crossZ ns ms) = 0 then .none else ratD (Rat.divInt ((j * leadN ns * leadN ms) ^ 2) ((leadN (crossZ ns ms) : Int) ^ 2))
def spCorn (K : PySem.W.Frag) : Sp := fun vs H Q _ => ∃ v v1 v2 rs r f j t ns ms sp1 sp2, vs = [v, v1, v2] ∧ RD K H v (machD rs r f j t) ∧ RD K H v1 (lineD ns sp1) ∧ RD K H v2 (lineD ms sp2) ∧ OkL ns.length 1000 ns ∧ OkL ns.length 1000 ms ∧ ns.length ≤ 1000 ∧ 1 ≤ j ∧ j ≤ 50 ∧
  ∀ v' H', RD K H' v' (cornD j ns ms) → Same H H' → Q v' H'
theorem zip2 {ns ms : List Int} (h : ms.length = ns.length) {i : Nat} {x y : V} (ex : (ns.map V.int)[i]? = some x) (ey : (ms.map V.int)[i]? = some y) : ∃ a b, ns[i]? = some a ∧ ms[i]? = some b ∧ x = .int a ∧ y = .int b := by
  rw [List.getElem?_map] at ex ey
  cases e1 : ns[i]? with
  | none => rw [e1] at ex; cases ex
  | some a =>
    cases e2 : ms[i]? with
    | none => rw [e2] at ey; cases ey
    | some b =>
      rw [e1] at ex
      rw [e2] at ey
      exact ⟨a, b, rfl, rfl, (Option.some.inj ex).symm, (Option.some.inj ey).symm⟩
/-! ### the program's corner -/
def spTurn (K : PySem.W.Frag) : Sp := fun vs H Q _ => ∃ v1 v2 ns ms sp1 sp2, vs = [v1, v2] ∧ RD K H v1 (lineD ns sp1) ∧ RD K H v2 (lineD ms sp2) ∧ OkL ns.length 1000 ns ∧ OkL ns.length 1000 ms ∧ ns.length ≤ 1000 ∧
  ∀ v' H', RatV K H' v' (Rat.divInt (leadN (crossZ ns ms)) ((leadN ns : Int) * leadN ms)) → Same H H' → Q v' H'
abbrev sTurn : Stmt := top 28
theorem scTurn : FnScope ["one", "other", "greatest", "way", "new_way", "p", "q", "difference"] ["one", "other"] (defScope sTurn) := ⟨rfl, rfl, rfl, by decide +kernel, rfl, by decide +kernel, by decide +kernel⟩
theorem ok_turn (F : FA K mg "greatest_turn" sTurn) (B : Blt mg) (hways_of : FnHas P w K mg base "ways_of" 4 (spWays K)) (hminus : FnHas P w K mg base "minus" 3 (spR2 (· - ·) K)) (his_less : FnHas P w K mg base "is_less" 1 (spLess K)) : FnHas P w K mg base "greatest_turn" 5 (spTurn K) := by
  refine F.has scTurn (fun vs H Q E h => ?_) (fun _ _ _ _ _ _ us hl => match us, hl with | [_, _], _ => rfl) (fun f cdv A outer s H vs Q E hr h => ?_)
  · obtain ⟨v1, v2, ns, ms, sp1, sp2, rfl, _⟩ := h
    rfl
  · obtain ⟨v1, v2, ns, ms, sp1, sp2, rfl, rd1, rd2, ok1, ok2, hz, k⟩ := h
    have nd := scTurn.nd
    obtain ⟨lp1, lm1⟩ := ok1.lead
    obtain ⟨lp2, lm2⟩ := ok2.lead
    have hz2 : ms.length ≤ 1000 := by rw [ok2.len]; exact hz
    have ok2' : OkL ms.length 1000 ms := ⟨rfl, ok2.bd, ok2.nz⟩
    have cb := cross_bd (fun z hz => by have := ok1.bd z hz; omega) (fun z hz => by have := ok2.bd z hz; omega) (ns := ns) (ms := ms)
    have L0 : (0 : Int) < (leadN ns : Int) * leadN ms := Int.mul_pos (by omega) (by omega)
    have Lb : ((leadN ns : Int) * leadN ms).natAbs ≤ 1000 * 1000 := mul_bd (by omega) (by omega)
    have clen : (crossZ ns ms).length = ns.length := by simp [crossZ, ok2.len]
    have hbd : ∀ c : Int, c.natAbs ≤ 2000000 → Bd 2000 (Rat.divInt c ((leadN ns : Int) * leadN ms)) := fun c hc => (of_div (n := 30) (by omega) (by omega) (by omega)).mono (by decide)
    refine ⟨_, (pss_cons (ps_set (i := 2) nd rfl (Or.inl rfl) (pe_tupA (pa_cons pe_int (pa_cons pe_int pa_nil))))
    (pss_cons (ps_for PassesOwn.never rfl (pi_zip K rfl false false rfl (B.at "zip") (pa_cons (pe_fn hways_of (hr.mono (by decide)) rfl (pa_cons (pv 0) pa_nil)) (pa_cons (pe_fn hways_of (hr.mono (by decide)) rfl (pa_cons (pv 1) pa_nil)) pa_nil))) (pgT K rfl (n := 2) rfl (pgs_cons (pg_name (i := 3) nd rfl (Or.inl rfl)) (pgs_cons (pg_name (i := 4) nd rfl (Or.inl rfl)) pgs_nil)))
    (pss_cons (ps_asg (pe_fn hminus (hr.mono (by decide)) rfl (pa_cons (pv 4) (pa_cons (pv 3) pa_nil))) (pgT K rfl (n := 2) rfl (pgs_cons (pg_name (i := 5) nd rfl (Or.inl rfl)) (pgs_cons (pg_name (i := 6) nd rfl (Or.inl rfl)) pgs_nil))))
    (pss_cons (ps_set (i := 7) nd rfl (Or.inl rfl) (pe_tupA (pa_cons (pe_callB (x := "abs") call_abs rfl (B.at "abs") PyProof.Rows.boot_abs (pa_cons (pv 5) pa_nil)) (pa_cons (pv 6) pa_nil))))
    (pss_one (ps_if (pt_val (pe_fn his_less (hr.mono (by decide)) rfl (pa_cons (pv 2) (pa_cons (pv 7) pa_nil))))
    (pss_one (ps_set (i := 2) nd rfl (Or.inl rfl) (pv 7)))
    pss_nil)))))
    (pss_one (ps_ret (pv 2))))), ?_⟩
    refine ⟨smallN _ (Nat.le_of_ble_eq_true rfl), fun g0 H1 n1 => ?_⟩
    refine ⟨_, rfl, v1, ns, sp1, rfl, RD.mono n1.same _ rd1, ok1, hz, fun w1 H2 r2 s2 => ?_⟩
    have t2 := n1.same.trans s2
    refine ⟨_, rfl, v2, ms, sp2, rfl, RD.mono t2 _ rd2, ok2', hz2, fun w2 H3 r3 s3 => ?_⟩
    have t3 := t2.trans s3
    obtain ⟨c1, xs1, rfl, h1, q1⟩ := (RD.mono s3 _ r2).tup_inv
    obtain ⟨c2, xs2, rfl, h2, q2⟩ := r3.tup_inv
    have l1 := q1.length
    have l2 := q2.length
    rw [List.length_map] at l1 l2
    refine ⟨c1, c2, rfl, ⟨_, h1⟩, ⟨_, h2⟩, ?_⟩
    refine for_zip (K := K) (b1 := false) (b2 := false) (xs := xs1) (ys := xs2) ns.length (by rw [l1, l2, ok2.len]; omega) (fun i σ H4 => Same H3 H4 ∧ ∃ g u1 u2 u3 u4 u5, RatV K H4 g (Rat.divInt (hiN (crossZ ns ms) i) ((leadN ns : Int) * leadN ms)) ∧ σ = [some v1, some v2, some g, u1, u2, u3, u4, u5]) ?_ (fun i σ H4 _ h => ⟨h1.go h.1, h2.go h.1⟩) ?_ ?_
    · refine ⟨Same.refl _, .ref g0, none, none, none, none, none, ⟨g0, rfl, ?_⟩, rfl⟩
      have e0 : Rat.divInt ((hiN (crossZ ns ms) 0 : Nat) : Int) ((leadN ns : Int) * leadN ms) = 0 := by
        show Rat.divInt 0 _ = 0
        exact Rat.zero_divInt _
      rw [e0]
      exact SqT.of (s3 _ _ (s2 _ _ n1.at'))
    · rintro i x y σ H4 ex ey ⟨s4, g, u1, u2, u3, u4, u5, rg, rfl⟩ T H5 n5
      obtain ⟨d1, e1, rx⟩ := q1.get' i ex
      obtain ⟨d2, e2, ry⟩ := q2.get' i ey
      obtain ⟨a, ea, rfl⟩ := map_getI e1
      obtain ⟨b, eb, rfl⟩ := map_getI e2
      have qa := ok1.bd a (List.mem_of_getElem? ea)
      have qb := ok2.bd b (List.mem_of_getElem? eb)
      have cz := zip_at ea eb
      have czb := cb _ (List.mem_of_getElem? cz)
      have t5 := s4.trans n5.same
      refine ⟨T, _, rfl, SqT.of n5.at', rfl, _, _, rfl, _, _, rfl, rfl, ?_⟩
      have ratOf : ∀ {H' : Hp} {v : V} {r : Rat}, RD K H' v (ratD r) → RatV K H' v r := fun {H' v r} h => by
        obtain ⟨p, xs, rfl, h1, h2⟩ := h.tup_inv
        have := h2.ints_inv (ns := [r.num, r.den])
        subst this
        exact ⟨p, rfl, h1⟩
      refine ⟨_, rfl, _, rfl, y, x, _, _, rfl, ratOf (RD.mono t5 _ ry), ratOf (RD.mono t5 _ rx), (of_div (n := 30) (by omega) (by omega) (by omega)).mono (by decide), (of_div (n := 30) (by omega) (by omega) (by omega)).mono (by decide), fun v6 H6 r6 s6 => ?_⟩
      have ed : Rat.divInt b (leadN ms) - Rat.divInt a (leadN ns) = Rat.divInt (b * leadN ns - a * leadN ms) ((leadN ns : Int) * leadN ms) := sub_ways (by omega) (by omega)
      have r6 : RatV K H6 v6 (Rat.divInt b (leadN ms) - Rat.divInt a (leadN ns)) := r6
      rw [ed] at r6
      obtain ⟨p6, rfl, h6⟩ := r6
      refine ⟨p6, _, rfl, h6, rfl, _, _, rfl, _, _, rfl, rfl, ?_⟩
      refine ⟨_, rfl, _, rfl, _, rfl, smallN _ (Nat.le_of_ble_eq_true rfl), fun dd H7 n7 => ?_⟩
      have s57 := s6.trans n7.same
      have rD : RatV K H7 (.ref dd) (Rat.divInt (((a * (leadN ms : Int) - b * (leadN ns : Int)).natAbs : Nat) : Int) ((leadN ns : Int) * leadN ms)) := by
        have e : Rat.divInt (((a * (leadN ms : Int) - b * (leadN ns : Int)).natAbs : Nat) : Int) ((leadN ns : Int) * leadN ms) = absR (Rat.divInt (b * leadN ns - a * leadN ms) ((leadN ns : Int) * leadN ms)) := by
          rw [absR_div L0, absI_eq]; congr 1; omega
        rw [e]
        refine ⟨dd, rfl, ?_⟩
        rw [absR_num, absR_den]
        exact SqT.of n7.at'
      have rG : RatV K H7 g _ := (rg.go n5.same).go s57
      have hG : hiN (crossZ ns ms) i ≤ 2000000 := lead_max fun z hz => cb z (List.mem_of_mem_take hz)
      refine ⟨_, rfl, _, rfl, g, .ref dd, _, _, rfl, rG, rD, hbd _ (by omega), hbd _ (by omega), _, rfl, ?_⟩
      have hs := hiN_succ cz
      refine ite2 (fun hc => ?_) (fun hc => ?_)
      · have hlt := (div_lt L0).mp (of_decide_eq_true hc)
        refine ⟨_, rfl, ?_⟩
        refine ⟨t5.trans s57, _, _, _, _, _, _, ?_, rfl⟩
        rw [hs, Nat.max_eq_right (by omega)]
        exact rD
      · have hge : ¬ _ := fun z => hc (decide_eq_true ((div_lt L0).mpr z))
        refine ⟨t5.trans s57, _, _, _, _, _, _, ?_, rfl⟩
        rw [hs, Nat.max_eq_left (by omega)]
        exact rG
    · rintro σ H4 ⟨s4, g, u1, u2, u3, u4, u5, rg, rfl⟩
      refine ⟨_, rfl, k _ _ ?_ (t3.trans s4)⟩
      have : hiN (crossZ ns ms) ns.length = leadN (crossZ ns ms) := by
        unfold hiN
        rw [List.take_of_length_le (by omega)]
      rw [this] at rg
      exact rg
abbrev sCornP : Stmt := top 25
theorem scCornP : FnScope ["machine", "one", "other", "jump", "p", "q"] ["machine", "one", "other"] (defScope sCornP) := ⟨rfl, rfl, rfl, by decide +kernel, rfl, by decide +kernel, by decide +kernel⟩
theorem ok_cornP (F : FA K mg "corner_square" sCornP) (B : Blt mg) (hgreatest_turn : FnHas P w K mg base "greatest_turn" 5 (spTurn K)) (hfraction : FnHas P w K mg base "fraction" 3 (spMk K)) : FnHas P w K mg base "corner_square" 6 (spCorn K) := by
  refine F.has scCornP (fun vs H Q E h => ?_) (fun _ _ _ _ _ _ us hl => match us, hl with | [_, _, _], _ => rfl) (fun f cdv A outer s H vs Q E hr h => ?_)
  · obtain ⟨v, v1, v2, rs, r, f', j, t, ns, ms, sp1, sp2, rfl, _⟩ := h
    rfl
  · obtain ⟨v, v1, v2, rs, r, f', j, t, ns, ms, sp1, sp2, rfl, rd, rd1, rd2, ok1, ok2, hz, j1, j2, k⟩ := h
    have nd := scCornP.nd
    obtain ⟨lp1, lm1⟩ := ok1.lead
    obtain ⟨lp2, lm2⟩ := ok2.lead
    have L0 : (0 : Int) < (leadN ns : Int) * leadN ms := Int.mul_pos (by omega) (by omega)
    have Lb : ((leadN ns : Int) * leadN ms).natAbs ≤ 1000 * 1000 := mul_bd (by omega) (by omega)
    have cb := cross_bd (fun z hz => by have := ok1.bd z hz; omega) (fun z hz => by have := ok2.bd z hz; omega) (ns := ns) (ms := ms)
    have hH := lead_max cb
    refine ⟨_, (pss_cons (ps_set (i := 3) nd rfl (Or.inl rfl) (pe_ix (ixK K rfl) (pv 0) pe_int (fun _ _ => rfl)))
    (pss_cons (ps_asg (pe_fn hgreatest_turn (hr.mono (by decide)) rfl (pa_cons (pv 1) (pa_cons (pv 2) pa_nil))) (pgT K rfl (n := 2) rfl (pgs_cons (pg_name (i := 4) nd rfl (Or.inl rfl)) (pgs_cons (pg_name (i := 5) nd rfl (Or.inl rfl)) pgs_nil))))
    (pss_cons (ps_if (pt_cmpR (eqK K rfl hr.units) (pv 4) pe_int (nomark _))
    (pss_one (ps_ret pe_non))
    pss_nil)
    (pss_one (ps_ret (pe_fn hfraction (hr.mono (by decide)) rfl (pa_cons (pe_op op_mulG (pe_op op_mulG (pe_op op_mulG (pv 3) (pv 3)) (pv 5)) (pv 5)) (pa_cons (pe_op op_mulG (pv 4) (pv 4)) pa_nil)))))))), ?_⟩
    obtain ⟨am, bm, rfl, hma, hmb⟩ := mach_inv rd
    refine ⟨_, rfl, .inr ⟨am, _, 3, .int j, rfl, rfl, hma, rfl, ?_⟩⟩
    refine ⟨_, rfl, _, rfl, v1, v2, ns, ms, sp1, sp2, rfl, rd1, rd2, ok1, ok2, hz, fun v3 H3 r3 s3 => ?_⟩
    obtain ⟨b30⟩ : Nonempty (Bd 30 (Rat.divInt (leadN (crossZ ns ms)) ((leadN ns : Int) * leadN ms))) := ⟨of_div (n := 30) (by omega) (by omega) (by omega)⟩
    have en := Rat.num_divInt_den (Rat.divInt (leadN (crossZ ns ms)) ((leadN ns : Int) * leadN ms))
    obtain ⟨R, hR⟩ : ∃ R, Rat.divInt (leadN (crossZ ns ms)) ((leadN ns : Int) * leadN ms) = R := ⟨_, rfl⟩
    rw [hR] at r3 b30 en
    have dp := den_pos R
    have cross : R.num * ((leadN ns : Int) * leadN ms) = leadN (crossZ ns ms) * R.den := by
      rw [← hR] at en
      have := (Rat.divInt_eq_divInt_iff (by rw [hR]; omega) (by omega)).mp en
      rw [hR] at this
      exact this
    have nb := b30.num
    have db := b30.den
    obtain ⟨p3, rfl, h3⟩ := r3
    refine ⟨p3, _, rfl, h3, rfl, _, _, rfl, _, _, rfl, rfl, ?_⟩
    refine ⟨_, rfl, .inl ⟨_, _, rfl, rfl, _, rfl, ?_⟩⟩
    refine ite2 (fun hc => ?_) (fun hc => ?_)
    · have h0 : R.num = 0 := by simpa using hc
      have hl : leadN (crossZ ns ms) = 0 := by
        rw [h0, Int.zero_mul] at cross
        rcases Int.mul_eq_zero.mp cross.symm with h | h
        · omega
        · omega
      refine k .non H3 ?_ s3
      unfold cornD
      rw [if_pos hl]
      exact rd_non
    · have h0 : R.num ≠ 0 := by simpa using hc
      have hl : leadN (crossZ ns ms) ≠ 0 := by
        intro z
        rw [z] at cross
        have : R.num * ((leadN ns : Int) * leadN ms) = 0 := by rw [cross]; exact Int.zero_mul _
        rcases Int.mul_eq_zero.mp this with h | h
        · exact h0 h
        · omega
      have m1 : (j * j).natAbs ≤ 50 * 50 := mul_bd (by omega) (by omega)
      have h64 : (2 : Nat) ^ 64 = 18446744073709551616 := by decide
      refine ⟨_, rfl, _, rfl, _, _, rfl, rfl, .of_left (intBits_le_64 (by omega) (by omega)), _, rfl, _, _, rfl, rfl, .of_left (intBits_le_64 (by omega) (by omega)), _, rfl, _, _, rfl, rfl, .of_right (intBits_le_64 (by omega) (by omega)), ?_⟩
      refine ⟨_, rfl, _, rfl, _, _, rfl, rfl, .of_left (intBits_le_64 (by omega) (by omega)), ?_⟩
      refine ⟨_, _, rfl, Int.mul_ne_zero h0 h0, ?_, fun v4 H4 r4 s4 => ?_⟩
      · refine wdB (n := 60) ?_ (by decide)
        rw [Int.natAbs_mul]
        exact mul_lt (n := 30) (m := 30) nb nb
      · refine k _ _ ?_ (s3.trans s4)
        unfold cornD
        rw [if_neg hl]
        have e := corner_eq (j := j) (p := R.num) (q := R.den) (h := leadN (crossZ ns ms)) (L := (leadN ns : Int) * leadN ms) h0 (by omega) cross
        rw [e, ← Int.mul_assoc] at r4
        exact r4.rd
def rateOk (d : PyData) : Bool := inW 10 200 d
def spRate (K : PySem.W.Frag) : Sp := fun vs H Q _ => ∃ v d, vs = [v] ∧ RD K H v d ∧ Q (.bl (rateOk d)) H
abbrev sIsRate : Stmt := top 27
theorem scIsRate : FnScope ["thing"] ["thing"] (defScope sIsRate) := ⟨rfl, rfl, rfl, by decide +kernel, rfl, by decide +kernel, by decide +kernel⟩
theorem ok_israte (F : FA K mg "is_rate" sIsRate) (B : Blt mg) (h_LEAST_RATE : GV mg "LEAST_RATE" (.int 10)) (h_GREATEST_RATE : GV mg "GREATEST_RATE" (.int 200)) (his_whole_within : FnHas P w K mg base "is_whole_within" 2 (spWW K)) : FnHas P w K mg base "is_rate" 3 (spRate K) := by
  refine F.has scIsRate (fun vs H Q E h => ?_) (fun _ _ _ _ _ _ us hl => match us, hl with | [_], _ => rfl) (fun f cdv A outer s H vs Q E hr h => ?_)
  · obtain ⟨v, d, rfl, _⟩ := h
    rfl
  · obtain ⟨v, d, rfl, rd, k⟩ := h
    have nd := scIsRate.nd
    refine ⟨_, (pss_one (ps_ret (pe_fn his_whole_within (hr.mono (by decide)) rfl (pa_cons (pv 0) (pa_cons (pe_gv (x := "LEAST_RATE") rfl h_LEAST_RATE) (pa_cons (pe_gv (x := "GREATEST_RATE") rfl h_GREATEST_RATE) pa_nil)))))), ?_⟩
    exact ⟨_, rfl, v, d, 10, 200, rfl, rd, k⟩
def spTop (K : PySem.W.Frag) : Sp := fun vs H Q _ => ∃ v ns sp r, vs = [v, .int r] ∧ RD K H v (lineD ns sp) ∧ 1 ≤ sp ∧ sp ≤ 20 ∧ 10 ≤ r ∧ r ≤ 200 ∧ ∀ v' H', RatV K H' v' (Rat.divInt ((sp * r) ^ 2) 10000) → Same H H' → Q v' H'
theorem sq4 (a b : Int) : a * a * b * b = (a * b) ^ 2 := by
  rw [Int.pow_succ, Int.pow_succ, Int.pow_zero, Int.one_mul]; ac_rfl
theorem rate_in {r : Int} (h1 : 10 ≤ r) (h2 : r ≤ 200) : rateOk (.int r) = true := by
  show (decide (10 ≤ r) && decide (r ≤ 200)) = true
  rw [decide_eq_true h1, decide_eq_true h2]; rfl
abbrev sTop : Stmt := top 26
theorem scTop : FnScope ["line", "rate", "speed"] ["line", "rate"] (defScope sTop) := ⟨rfl, rfl, rfl, by decide +kernel, rfl, by decide +kernel, by decide +kernel⟩
theorem ok_top (F : FA K mg "top_square" sTop) (B : Blt mg) (his_rate : FnHas P w K mg base "is_rate" 3 (spRate K)) (hfraction : FnHas P w K mg base "fraction" 3 (spMk K)) : FnHas P w K mg base "top_square" 4 (spTop K) := by
  refine F.has scTop (fun vs H Q E h => ?_) (fun _ _ _ _ _ _ us hl => match us, hl with | [_, _], _ => rfl) (fun f cdv A outer s H vs Q E hr h => ?_)
  · obtain ⟨v, ns, sp, r, rfl, _⟩ := h
    rfl
  · obtain ⟨v, ns, sp, r, rfl, rd, s1, s2, r1, r2, k⟩ := h
    have nd := scTop.nd
    refine ⟨_, (pss_cons (ps_if (pt_not (pt_val (pe_fn his_rate (hr.mono (by decide)) rfl (pa_cons (pv 1) pa_nil))))
    (pss_one ps_never)
    pss_nil)
    (pss_cons (ps_set (i := 2) nd rfl (Or.inl rfl) (pe_ix (ixK K rfl) (pv 0) pe_int (fun _ _ => rfl)))
    (pss_one (ps_ret (pe_fn hfraction (hr.mono (by decide)) rfl (pa_cons (pe_op op_mulG (pe_op op_mulG (pe_op op_mulG (pv 2) (pv 2)) (pv 1)) (pv 1)) (pa_cons (pe_op op_mulG pe_int pe_int) pa_nil))))))), ?_⟩
    refine ⟨_, rfl, _, .int r, rfl, rd_int r, _, rfl, ?_⟩
    rw [rate_in r1 r2]
    refine iteF ?_
    obtain ⟨a, b, rfl, ha, hb⟩ := line_inv rd
    refine ⟨_, rfl, .inr ⟨a, _, 2, .int sp, rfl, rfl, ha, rfl, ?_⟩⟩
    have m1 : (sp * sp).natAbs ≤ 20 * 20 := by rw [Int.natAbs_mul]; exact Nat.mul_le_mul (by omega) (by omega)
    refine ⟨_, rfl, _, rfl, _, _, rfl, rfl, .of_left (intBits_le_64 (by omega) (by omega)), _, rfl, _, _, rfl, rfl, .of_left (intBits_le_64 (by omega) (by omega)), _, rfl, _, _, rfl, rfl, .of_right (intBits_le_64 (by omega) (by omega)), ?_⟩
    refine ⟨_, _, rfl, rfl, .of_left (intBits_le_64 (by decide) (by decide)), ?_⟩
    refine ⟨_, _, rfl, by decide, wdB (n := 20) (by decide) (by decide), fun v' H' r' s' => k v' H' ?_ s'⟩
    rw [sq4] at r'
    exact r'
def spTopL (K : PySem.W.Frag) : Sp := fun vs H Q _ => ∃ v ns sp r, vs = [v, .int r] ∧ RD K H v (lineD ns sp) ∧ 1 ≤ sp ∧ sp ≤ 20 ∧ 10 ≤ r ∧ r ≤ 200 ∧ ∀ v' H', RatV K H' v' (Rat.divInt ((sp * r) ^ 2) 10000) → Same H H' → Q v' H'
abbrev sTopL : Stmt := top 60
theorem scTopL : FnScope ["_law_line_here", "_law_rate"] ["_law_line_here", "_law_rate"] (defScope sTopL) := ⟨rfl, rfl, rfl, by decide +kernel, rfl, by decide +kernel, by decide +kernel⟩
end
end Lw



set_option Elab.async false
set_option linter.all false
set_option maxRecDepth 100000
set_option maxHeartbeats 1000000
set_option exponentiation.threshold 6000
namespace Lw
open PySem PySem.Spec PyProof.Rows L2 Rt Ln Cn Pn
open Ow (topR cornO mnO betR atO ownF leadF ownL OkI OkIs)
section
variable {P : Program} {w : World} {K : PySem.W.Frag} {mg : Str → Option Value} {base : Heap}
theorem smallL (n : Nat) (h : n ≤ 1000) : n < sizeLine := Nat.lt_of_le_of_lt h (by decide)
theorem ratOf {H : Hp} {v : V} {r : Rat} (h : RD K H v (ratD r)) : RatV K H v r := by
  obtain ⟨p, xs, rfl, h1, h2⟩ := h.tup_inv
  have := h2.ints_inv (ns := [r.num, r.den])
  subst this
  exact ⟨p, rfl, h1⟩
theorem OkL.up {ax : Nat} {ns : List Int} (h : OkL ax 100 ns) : OkL ns.length 1000 ns := ⟨rfl, fun z hz => by have := h.bd z hz; omega, h.nz⟩
theorem RowOk.okI {ax : Nat} {ds : List PyData} {os : List Itm} (h : RowOk ax ds os) : OkIs os := fun i ns sp e => by
  unfold atO at e
  cases ho : os[i]? with
  | none => rw [ho] at e; cases e
  | some o =>
    rw [ho] at e
    have e' : o = some (ns, sp) := e
    subst e'
    obtain ⟨a, b, c⟩ := h.ok i ns sp ho
    exact ⟨a.bd, b, c⟩
theorem add_int (r : Rat) (n : Int) : r + (n : Rat) = Rat.divInt (r.num + n * (r.den : Int)) (r.den : Int) := by
  rw [add_div]
  show Rat.divInt (r.num * ((1 : Nat) : Int) + n * (r.den : Int)) ((r.den : Int) * ((1 : Nat) : Int)) = _
  simp
/-! ### own bounds, by the program -/
theorem nought {H : Hp} {a : Addr} (h : SqT K H a [.int 0, .int 1]) : RatV K H (.ref a) 0 := ⟨a, rfl, h⟩
theorem cornD_O (j : Int) (ns ms : List Int) : cornD j ns ms = match cornO j ns ms with | none => .none | some c => ratD c := by
  unfold cornD cornO; split <;> rfl
def spBet (K : PySem.W.Frag) : Sp := fun vs H Q _ => ∃ m v1 v2 rate rs r f j t d1 d2 o1 o2 ax, vs = [m, v1, v2, .int rate] ∧ RD K H m (machD rs r f j t) ∧ 1 ≤ j ∧ j ≤ 50 ∧ RD K H v1 d1 ∧ RD K H v2 d2 ∧ itR d1 o1 ∧ itR d2 o2 ∧ (∀ ns sp, o1 = some (ns, sp) → OkL ax 100 ns ∧ 1 ≤ sp ∧ sp ≤ 20) ∧ (∀ ns sp, o2 = some (ns, sp) → OkL ax 100 ns ∧ 1 ≤ sp ∧ sp ≤ 20) ∧ ax ≤ 100 ∧ 10 ≤ rate ∧ rate ≤ 200 ∧ ∀ v H', RatV K H' v (betR j rate o1 o2) → Same H H' → Q v H'
abbrev sBet : Stmt := top 33
theorem scBet : FnScope ["machine", "one", "other", "rate", "squares", "corner"] ["machine", "one", "other", "rate"] (defScope sBet) := ⟨rfl, rfl, rfl, by decide +kernel, rfl, by decide +kernel, by decide +kernel⟩
theorem ok_bet (F : FA K mg "bound_between" sBet) (B : Blt mg) (gN : GT K mg "NOUGHT" [.int 0, .int 1]) (his_line : FnHas P w K mg base "is_line" 1 (spIsLn K)) (htop_square : FnHas P w K mg base "top_square" 4 (spTop K)) (hcorner_square : FnHas P w K mg base "corner_square" 6 (spCorn K)) (hleast : FnHas P w K mg base "least" 2 (spLeast K)) : FnHas P w K mg base "bound_between" 7 (spBet K) := by
  obtain ⟨aN, h_NOUGHT, sqN⟩ := gN
  refine F.has scBet (fun vs H Q E h => ?_) (fun _ _ _ _ _ _ us hl => match us, hl with | [_, _, _, _], _ => rfl) (fun f cdv A outer s H vs Q E hr h => ?_)
  · obtain ⟨m, v1, v2, rate, rs, r, f, j, t, d1, d2, o1, o2, ax, rfl, _⟩ := h
    rfl
  · obtain ⟨m, v1, v2, rate, rs, r, f, j, t, d1, d2, o1, o2, ax, rfl, rm, j1, j2, r1, r2, i1, i2, k1, k2, hax, rt1, rt2, k⟩ := h
    have nd := scBet.nd
    refine ⟨_, (pss_cons (ps_if (PW.pt (pw_or (pt_not (pt_val (pe_fn his_line (hr.mono (by decide)) rfl (pa_cons (pv 1) pa_nil)))) (pw_or1 (pt_not (pt_val (pe_fn his_line (hr.mono (by decide)) rfl (pa_cons (pv 2) pa_nil)))))))
    (pss_one (ps_ret (pe_gv (x := "NOUGHT") rfl h_NOUGHT)))
    pss_nil)
    (pss_cons (ps_set (i := 4) nd rfl (Or.inl rfl) (pe_lstA (pa_cons (pe_fn htop_square (hr.mono (by decide)) rfl (pa_cons (pv 1) (pa_cons (pv 3) pa_nil))) (pa_cons (pe_fn htop_square (hr.mono (by decide)) rfl (pa_cons (pv 2) (pa_cons (pv 3) pa_nil))) pa_nil))))
    (pss_cons (ps_set (i := 5) nd rfl (Or.inl rfl) (pe_fn hcorner_square (hr.mono (by decide)) rfl (pa_cons (pv 0) (pa_cons (pv 1) (pa_cons (pv 2) pa_nil)))))
    (pss_cons (ps_mid (ps_if (pt_cmpR op_notN (pv 5) pe_non (nomark _))
    (pss_one (ps_expr (peApp K rfl (pv 4) (pa_cons (pv 5) pa_nil))))
    pss_nil))
    (pss_one (ps_ret (pe_fn hleast (hr.mono (by decide)) rfl (pa_cons (pv 4) pa_nil)))))))), ?_⟩
    refine ⟨_, rfl, v1, d1, o1, rfl, r1, i1, _, rfl, ?_⟩
    cases o1 with
    | none =>
      refine iteT (iteT ?_)
      have := k _ H (nought (sqN H)) (Same.refl _)
      exact this
    | some q1 =>
      obtain ⟨ns, sp⟩ := q1
      refine iteF ?_
      refine ⟨_, rfl, v2, d2, o2, rfl, r2, i2, _, rfl, ?_⟩
      cases o2 with
      | none =>
        refine iteT ?_
        exact k _ H (nought (sqN H)) (Same.refl _)
      | some q2 =>
        obtain ⟨ms, sq⟩ := q2
        refine iteF ?_
        have e1 := it_line i1
        have e2 := it_line i2
        subst e1 e2
        obtain ⟨ok1, a1, a2⟩ := k1 ns sp rfl
        obtain ⟨ok2, b1, b2⟩ := k2 ms sq rfl
        refine ⟨_, rfl, _, rfl, v1, ns, sp, rate, rfl, r1, a1, a2, rt1, rt2, fun t1 H1 rt1' s1 => ?_⟩
        refine ⟨_, rfl, _, rfl, v2, ms, sq, rate, rfl, RD.mono s1 _ r2, b1, b2, rt1, rt2, fun t2 H2 rt2' s2 => ?_⟩
        refine ⟨smallN _ (Nat.le_of_ble_eq_true rfl), fun l H3 n3 => ?_⟩
        have t3 := s1.trans (s2.trans n3.same)
        have okM : OkL ns.length 1000 ms := ⟨by rw [ok1.len, ok2.len], ok2.up.bd, ok2.nz⟩
        refine ⟨_, rfl, _, rfl, _, rfl, m, v1, v2, rs, r, f, j, t, ns, ms, sp, sq, rfl, RD.mono t3 _ rm, RD.mono t3 _ r1, RD.mono t3 _ r2, ok1.up, okM, by rw [ok1.len]; omega, j1, j2, fun c H4 rc s4 => ?_⟩
        have T1 : Bd 2000 (topR rate sp) := (Ow.topR_bd a1 a2 rt1 rt2).mono (by decide)
        have T2 : Bd 2000 (topR rate sq) := (Ow.topR_bd b1 b2 rt1 rt2).mono (by decide)
        have R1 : RatV K H4 t1 (topR rate sp) := ((rt1'.go s2).go n3.same).go s4
        have R2 : RatV K H4 t2 (topR rate sq) := (rt2'.go n3.same).go s4
        have t4 := t3.trans s4
        rw [cornD_O] at rc
        cases hc : cornO j ns ms with
        | none =>
          rw [hc] at rc
          cases rc.non_inv
          refine ⟨fun σ H5 => H5 = H4 ∧ σ = [some m, some v1, some v2, some (.int rate), some (.ref l), some .non], ?_, ?_⟩
          · refine ⟨_, rfl, rfl, _, rfl, iteF ?_⟩
            exact ⟨rfl, rfl⟩
          rintro σ H5 ⟨rfl, rfl⟩
          refine ⟨_, rfl, l, [t1, t2], [topR rate sp, topR rate sq], rfl, SqL.of (s4 _ _ n3.at'), ⟨R1, T1, R2, T2, trivial⟩, by simp, fun i v q e1 e2 hq => ?_⟩
          have hqe : betR j rate (some (ns, sp)) (some (ms, sq)) = q := by
            show mnO (mn _ _) (cornO j ns ms) = q
            rw [hc]
            refine mn_eq_of ?_ (hq _ (by simp)) (hq _ (by simp))
            match i, e2 with
            | 0, e2 => cases e2; exact .inl rfl
            | 1, e2 => cases e2; exact .inr rfl
          refine k v _ ?_ t4
          rw [hqe]
          match i, e1, e2 with
          | 0, e1, e2 => cases e1; cases e2; exact R1
          | 1, e1, e2 => cases e1; cases e2; exact R2
        | some cq =>
          rw [hc] at rc
          have Rc : RatV K H4 c cq := ratOf rc
          have Tc : Bd 2000 cq := (Ow.cornO_bd j1 j2 ok1.bd ok2.bd hc).mono (by decide)
          have dl4 := s4 _ _ n3.at'
          have tU : SameT H4 (L2.upd H4 l (.lst ([t1, t2] ++ [c]))) := .updL dl4
          refine ⟨fun σ H5 => H5 = L2.upd H4 l (.lst ([t1, t2] ++ [c])) ∧ σ = [some m, some v1, some v2, some (.int rate), some (.ref l), some c], ?_, ?_⟩
          · obtain ⟨pc, rfl, _⟩ := id Rc
            refine ⟨_, rfl, rfl, _, rfl, iteT ?_⟩
            refine ⟨_, rfl, .inl ⟨rfl, _, SqL.of dl4⟩, _, rfl, l, [t1, t2], _, rfl, rfl, dl4, smallL _ (Nat.le_of_ble_eq_true rfl), ?_⟩
            exact ⟨rfl, rfl⟩
          rintro σ H5 ⟨rfl, rfl⟩
          have up : ∀ {v : V} {q : Rat}, RatV K H4 v q → RatV K (L2.upd H4 l (.lst ([t1, t2] ++ [c]))) v q := fun {v q} h => ratOf (RD.t tU _ (ratD_no q) h.rd)
          refine ⟨_, rfl, l, [t1, t2, c], [topR rate sp, topR rate sq, cq], rfl, SqL.of upd_same, ⟨up R1, T1, up R2, T2, up Rc, Tc, trivial⟩, by simp, fun i v q e1 e2 hq => ?_⟩
          have hqe : betR j rate (some (ns, sp)) (some (ms, sq)) = q := by
            show mnO (mn _ _) (cornO j ns ms) = q
            rw [hc]
            show mn (mn _ _) cq = q
            have h1 := hq _ (show topR rate sp ∈ [topR rate sp, topR rate sq, cq] by simp)
            have h2 := hq _ (show topR rate sq ∈ [topR rate sp, topR rate sq, cq] by simp)
            have h3 := hq _ (show cq ∈ [topR rate sp, topR rate sq, cq] by simp)
            refine mn_eq_of ?_ (le_mn h1 h2) h3
            match i, e2 with
            | 0, e2 => cases e2; exact .inl (mn_eq_of (.inl rfl) h1 h2).symm
            | 1, e2 => cases e2; exact .inl (mn_eq_of (.inr rfl) h1 h2).symm
            | 2, e2 => cases e2; exact .inr rfl
          have sU : Same H (L2.upd H4 l (.lst ([t1, t2] ++ [c]))) := fun b o e => by
            have h0 : H2 l = none := n3.no
            have e2 := s2 b o (s1 b o e)
            rw [upd_ne (ne_of_none e2 h0)]
            exact t4 b o e
          refine k v _ ?_ sU
          rw [hqe]
          match i, e1, e2 with
          | 0, e1, e2 => cases e1; cases e2; exact up R1
          | 1, e1, e2 => cases e1; cases e2; exact up R2
          | 2, e1, e2 => cases e1; cases e2; exact up Rc
end
end Lw



set_option Elab.async false
set_option linter.all false
set_option maxRecDepth 100000
set_option maxHeartbeats 1000000
set_option exponentiation.threshold 6000
namespace Lw
open PySem PySem.Spec PyProof.Rows L2 Rt Ln Cn Pn
open Ow (topR cornO mnO betR atO ownF leadF ownL OkI OkIs)
section
variable {P : Program} {w : World} {K : PySem.W.Frag} {mg : Str → Option Value} {base : Heap}
theorem noLs_rat (qs : List Rat) : noLs (qs.map ratD) = true := noLs_map ratD_no qs
theorem RDs.setT {H : Hp} {l : Addr} {ys : List V} {y : V} {ds : List PyData} {d : PyData} {i : Nat} (dl : H l = some (.lst ys)) (r : RDs K H ys ds) (rd : RD K H y d) (n1 : noLs ds = true) (n2 : noL d = true) : RDs K (L2.upd H l (.lst (ys.set i y))) (ys.set i y) (ds.set i d) := by
  have t : SameT H (L2.upd H l (.lst (ys.set i y))) := .updL dl
  have r' := RDs.t t _ n1 r
  have rd' := RD.t t _ n2 rd
  clear r rd dl t
  generalize L2.upd H l (.lst (ys.set i y)) = H' at r' rd'
  induction ds generalizing ys i with
  | nil => cases r'.nil_inv; exact rds_nil
  | cons d0 ds ih =>
    obtain ⟨y0, yr, rfl, h1, h2⟩ := r'.cons_inv
    have n1' : noLs ds = true := by rw [noLs, Bool.and_eq_true] at n1; exact n1.2
    cases i with
    | zero => exact rds_cons rd' h2
    | succ i => exact rds_cons h1 (ih n1' h2)
theorem cut_tail (xs : List V) : cutV xs (some 1) none = xs.drop 1 := by
  unfold cutV
  have e : HT.sIx xs.length 0 (some 1) = min 1 xs.length := HT.sIx_nat _ _ 1
  rw [e, HT.sIx_none]
  cases xs with
  | nil => rfl
  | cons x xs =>
    have e2 : min 1 (x :: xs).length = 1 := by simp
    rw [e2, List.take_of_length_le (by simp)]
def spOwn (K : PySem.W.Frag) : Sp := fun vs H Q _ => ∃ m iv rate rs r f j t ds os, vs = [m, iv, .int rate] ∧ RD K H m (machD rs r f j t) ∧ OkM rs r f j t ∧ RD K H iv (.tuple ds) ∧ RowOk rs.length ds os ∧ ds.length ≤ 100 ∧ 10 ≤ rate ∧ rate ≤ 200 ∧ ∀ l ys H', H l = none → H' l = some (.lst ys) → RDs K H' ys ((ownL j rate os).map ratD) → Same H H' → Q (.ref l) H'
abbrev sOwn : Stmt := top 32
theorem scOwn : FnScope ["machine", "items", "rate", "between"] ["machine", "items", "rate"] (defScope sOwn) := ⟨rfl, rfl, rfl, by decide +kernel, rfl, by decide +kernel, by decide +kernel⟩
theorem ok_own (F : FA K mg "own_bounds" sOwn) (B : Blt mg) (gN : GT K mg "NOUGHT" [.int 0, .int 1]) (hbound_between : FnHas P w K mg base "bound_between" 7 (spBet K)) : FnHas P w K mg base "own_bounds" 8 (spOwn K) := by
  obtain ⟨aN, h_NOUGHT, sqN⟩ := gN
  refine F.has scOwn (fun vs H Q E h => ?_) (fun _ _ _ _ _ _ us hl => match us, hl with | [_, _, _], _ => rfl) (fun f cdv A outer s H vs Q E hr h => ?_)
  · obtain ⟨m, iv, rate, rs, r, f, j, t, ds, os, rfl, _⟩ := h
    rfl
  · obtain ⟨m, iv, rate, rs, r, f, j, t, ds, os, rfl, rm, okm, ri, row, hz, rt1, rt2, k⟩ := h
    have nd := scOwn.nd
    have rN : ∀ H', RD K H' (.ref aN) (ratD 0) := fun H' => (nought (sqN H')).rd
    refine ⟨_, (pss_cons (ps_if (pt_not (pt_truK K rfl (pv 1)))
    (pss_one (ps_ret (pe_lstA (pa_cons (pe_gv (x := "NOUGHT") rfl h_NOUGHT) pa_nil))))
    pss_nil)
    (pss_cons (ps_setC (i0 := 3) nd rfl (Or.inl rfl) (N := ["one", "other", "machine", "rate"]) (js := [none, none, some 0, some 2]) rfl rfl rfl (pi_zip K rfl false false rfl (B.at "zip") (pa_cons (pv 1) (pa_cons (pe_slice (slK K rfl) (pv 1) (po_some pe_int) po_none) pa_nil))) (fun _ _ _ _ _ => (pgT K rfl (n := 2) rfl (pgs_cons (pg_name (i := 0) (show List.Nodup (["one", "other", "machine", "rate"] : List Str) by decide +kernel) rfl (Or.inl rfl)) (pgs_cons (pg_name (i := 1) (show List.Nodup (["one", "other", "machine", "rate"] : List Str) by decide +kernel) rfl (Or.inl rfl)) pgs_nil)))) (fun _ _ _ _ _ => pts_nil) (fun _ _ _ _ _ => (pe_fn hbound_between (hr.mono (by decide)) rfl (pa_cons (pv 2) (pa_cons (pv 0) (pa_cons (pv 1) (pa_cons (pv 3) pa_nil)))))))
    (pss_one (ps_ret (pe_op (catL K rfl) (pe_op (catL K rfl) (pe_lstA (pa_cons (pe_gv (x := "NOUGHT") rfl h_NOUGHT) pa_nil)) (pv 3)) (pe_lstA (pa_cons (pe_gv (x := "NOUGHT") rfl h_NOUGHT) pa_nil))))))), ?_⟩
    obtain ⟨ia, xs, rfl, hi, hxs⟩ := ri.tup_inv
    have lx := hxs.length
    have ll := row.len
    refine ⟨_, rfl, _, .inr (.inl ⟨_, hi, rfl⟩), ?_⟩
    cases hd : xs with
    | nil =>
      subst hd
      refine iteT ?_
      refine ⟨smallN _ (Nat.le_of_ble_eq_true rfl), fun l H1 n1 => ?_⟩
      refine k l [.ref aN] H1 n1.no n1.at' ?_ n1.same
      have e : os = [] := by
        have : os.length = 0 := by rw [← ll, ← lx]; rfl
        exact List.length_eq_zero_iff.mp this
      rw [e]
      exact rds_cons (rN H1) rds_nil
    | cons x0 xr =>
      refine iteF ?_
      have hne : os ≠ [] := by
        intro e
        rw [e] at ll
        rw [hd] at lx
        simp at ll lx
        rw [ll] at lx; cases lx
      have hx0 : 0 < xs.length := by rw [hd]; simp
      refine ⟨_, rfl, _, rfl, 1, rfl, ia, xs, rfl, .inr ⟨hi, ?_, fun tl H1 n1 => ?_⟩⟩
      · rintro ⟨h1, _⟩
        have e : HT.sIx xs.length 0 (some 1) = min 1 xs.length := HT.sIx_nat _ _ 1
        rw [e] at h1
        omega
      refine ⟨ia, tl, rfl, ⟨_, hi.go n1.same⟩, ⟨_, SqT.of n1.at'⟩, fun D H2 n2 => ?_⟩
      have et := n1.at'
      rw [cut_tail] at et
      have oki : ∀ (i : Nat) (o : Itm), os[i]? = some o → ∀ (ns : List Int) (sp : Int), o = some (ns, sp) → OkL rs.length 100 ns ∧ 1 ≤ sp ∧ sp ≤ 20 := fun i o e ns sp e' => row.ok i ns sp (by rw [e, e'])
      have lr := okm.len
      refine comp_rdZ (K := K) (b1 := false) (b2 := false) (xs := xs) (ys := xs.drop 1) (ds := ((List.range (os.length - 1)).map (fun i => ownF j rate os (i + 1))).map ratD) _ rfl (hi.go n1.same) (SqT.of et) n2 (by rw [List.length_drop]; simp; omega) (by simp; omega) (noLs_rat _) ?_ ?_
      · intro i x y d H3 Q' ex ey ed s3 hq
        have s13 := n1.same.trans s3
        rw [List.getElem?_drop] at ey
        obtain ⟨d1, e1, r1⟩ := hxs.get' i ex
        obtain ⟨d2, e2, r2⟩ := hxs.get' (1 + i) ey
        obtain ⟨o1, eo1, i1⟩ := row.get e1
        obtain ⟨o2, eo2, i2⟩ := row.get e2
        have hi2 : 1 + i < os.length := (List.getElem?_eq_some_iff.mp eo2).1
        have ed' : d = ratD (betR j rate o1 o2) := by
          rw [List.getElem?_map, List.getElem?_map, List.getElem?_eq_getElem (by simp; omega), List.getElem_range] at ed
          have := (Option.some.inj ed).symm
          rw [this]
          show ratD (betR j rate (atO os i) (atO os (i + 1))) = _
          rw [Ow.atO_of eo1, Ow.atO_of (show os[i + 1]? = some o2 by rw [Nat.add_comm]; exact eo2)]
        subst ed'
        refine ⟨_, rfl, _, rfl, _, rfl, _, rfl, m, x, y, rate, rs, r, f, j, t, d1, d2, o1, o2, rs.length, rfl, RD.mono s13 _ rm, okm.j1.1, okm.j1.2, RD.mono s13 _ r1, RD.mono s13 _ r2, i1, i2, oki _ _ eo1, oki _ _ eo2, by omega, rt1, rt2, fun v H4 rv s4 => ?_⟩
        exact hq _ _ s4 rv.rd
      · intro H3 zs s3 d3 r3
        have lz := r3.length
        simp at lz
        refine ⟨smallN _ (Nat.le_of_ble_eq_true rfl), fun l1 H4 n4 => ?_⟩
        refine ⟨_, rfl, l1, D, _, zs, rfl, rfl, SqL.of n4.at', SqL.of (n4.same _ _ d3), smallN _ (by simp; omega), fun l2 H5 n5 => ?_⟩
        refine ⟨smallN _ (Nat.le_of_ble_eq_true rfl), fun l3 H6 n6 => ?_⟩
        refine ⟨l2, l3, _, _, rfl, rfl, SqL.of (n6.same _ _ n5.at'), SqL.of n6.at', smallN _ (by simp; omega), fun l H7 n7 => ?_⟩
        have s06 : Same H H6 := n1.same.trans (s3.trans (n4.same.trans (n5.same.trans n6.same)))
        have nl : H l = none := by
          cases e : H l with
          | none => rfl
          | some o => have := s06 _ _ e; rw [n7.no] at this; cases this
        refine k l _ H7 nl n7.at' ?_ (s06.trans n7.same)
        rw [Ow.ownL_eq j rate hne, List.map_append, List.map_append]
        exact ((rds_cons (rN H7) rds_nil).append (RDs.mono (n4.same.trans (n5.same.trans (n6.same.trans n7.same))) _ r3)).append (rds_cons (rN H7) rds_nil)
end
end Lw



set_option Elab.async false
set_option linter.all false
set_option maxRecDepth 100000
set_option maxHeartbeats 1000000
set_option exponentiation.threshold 6000
namespace Lw
open PySem PySem.Spec PyProof.Rows L2 Rt Ln Cn Pn
open Ow (topR cornO mnO betR atO ownF leadF ownL OkI OkIs)
section
variable {P : Program} {w : World} {K : PySem.W.Frag} {mg : Str → Option Value} {base : Heap}
end
end Lw



set_option Elab.async false
set_option linter.all false
set_option maxRecDepth 100000
set_option maxHeartbeats 1000000
set_option exponentiation.threshold 6000
namespace Lw
open PySem PySem.Spec PyProof.Rows L2 Rt Ln Cn Pn
open Ow (topR cornO mnO betR atO ownF leadF ownL OkI OkIs)
section
variable {P : Program} {w : World} {K : PySem.W.Frag} {mg : Str → Option Value} {base : Heap}
def spPW (K : PySem.W.Frag) : Sp := fun vs H Q _ => ∃ v r z, vs = [v, .int z] ∧ RatV K H v r ∧ Bd 2000 r ∧ z.natAbs < 2 ^ 24 ∧ ∀ v H', RatV K H' v (r + (z : Rat)) → Same H H' → Q v H'
abbrev sPW : Stmt := top 10
theorem xr_addz {r : Rat} {z : Int} (m : r + (z : Rat) = Rat.divInt (r.num * (1:Nat) + z * r.den) (r.den * (1:Nat))) : r.num + z * r.den = (r + (z : Rat)).num ∧ (r.den : Int) = (r + (z : Rat)).den := by
  have c : (r.num + z * r.den).natAbs.Coprime r.den := (Int.gcd_add_mul_right_left (r.den : Int) r.num z).trans r.reduced
  have e : r + (z : Rat) = ⟨r.num + z * r.den, r.den, r.den_nz, c⟩ := by
    rw [m, Rat.mk_eq_divInt, Int.natCast_one, Int.mul_one, Int.mul_one]
  rw [e]
  exact ⟨rfl, rfl⟩
theorem scPW : FnScope ["one","more","p","q"] ["one", "more"] (defScope sPW) := ⟨rfl, rfl, rfl, by decide +kernel, rfl, by decide +kernel, by decide +kernel⟩
theorem ok_pw (F : FA K mg "plus_whole" sPW) (B : Blt mg) : FnHas P w K mg base "plus_whole" 4 (spPW K) := by
  refine F.has scPW (fun vs H Q E h => ?_) (fun _ _ _ _ _ _ us hl => match us, hl with | [_, _], _ => rfl) (fun f cdv A outer s H vs Q E hr h => ?_)
  · obtain ⟨v, r, z, rfl, _⟩ := h
    rfl
  · obtain ⟨v, r, z, rfl, rv, br, hz, k⟩ := h
    have nd:=scPW.nd
    obtain ⟨p,rfl,hp⟩:=rv
    refine ⟨_,(pss_cons (ps_asg (pv 0) (pgT K rfl (n := 2) rfl (pgs_cons (pg_name (i := 2) nd rfl (Or.inl rfl)) (pgs_cons (pg_name (i := 3) nd rfl (Or.inl rfl)) pgs_nil)))) (pss_one (ps_ret (pe_tupA (pa_cons (pe_op op_add (pv 2) (pe_op op_mulG (pv 1) (pv 3))) (pa_cons (pv 3) pa_nil)))))),?_⟩
    refine ⟨_,rfl,_,_,rfl,hp,rfl,_,_,rfl,_,_,rfl,rfl,?_⟩
    have bz : Bd 24 (z : Rat) := ⟨hz, by show 1 < 2 ^ 24; decide⟩
    obtain ⟨e1,e2⟩:=xr_addz (add_div r z)
    refine ⟨_,rfl,_,rfl,_,rfl,_,_,rfl,rfl,IntMulOk.of_bits (bz.mono (by decide)).wn.bits br.wd.bits,_,_,rfl,rfl,_,rfl,smallN _ (Nat.le_of_ble_eq_true rfl),fun t H' n=>k _ _ ⟨t,rfl,SqT.of ?_⟩ n.same⟩
    rw [← e1,← e2]; exact n.at'
theorem leadF_some {os : List Itm} {i : Nat} {ns : List Int} {sp : Int} (h : os[i]? = some (some (ns, sp))) : leadF os i = some (leadN ns) := by
  unfold leadF; rw [Ow.atO_of h]; rfl
theorem leadF_none {os : List Itm} {i : Nat} (h : os[i]? = some none) : leadF os i = none := by
  unfold leadF; rw [Ow.atO_of h]; rfl
theorem leadF_le {os : List Itm} (h : OkIs os) {i m : Nat} (e : leadF os i = some m) : m ≤ 100 := by
  unfold leadF at e
  cases ho : atO os i with
  | none => rw [ho] at e; cases e
  | some q =>
    rw [ho] at e
    cases e
    obtain ⟨a, _, _⟩ := h i q.1 q.2 ho
    exact lead_max fun z hz => by have := a z hz; omega
theorem up_small {r : Int} {m : Nat} (h1 : 1 ≤ r) (h2 : r ≤ 50) (h3 : m ≤ 100) : (2 * r * (m : Int)).natAbs < 2 ^ 24 := by
  have h24 : (2 : Nat) ^ 24 = 16777216 := by decide
  have := mul_bd (a := 2 * r) (b := (m : Int)) (m := 100) (n := 100) (by omega) (by omega)
  rw [h24]; omega
def spRise (K : PySem.W.Frag) : Sp := fun vs H Q _ => ∃ m iv l ys rs r f j t ds os g, vs = [m, iv, .ref l] ∧ RD K H m (machD rs r f j t) ∧ OkM rs r f j t ∧ RD K H iv (.tuple ds) ∧ RowOk rs.length ds os ∧ ds.length ≤ 30 ∧ H l = some (.lst ys) ∧ RDs K H ys ((lst os.length g).map ratD) ∧ (∀ i, Bd 64 (g i)) ∧
  ∀ l ys H', H l = none → H' l = some (.lst ys) → RDs K H' ys ((lst os.length (Rz g (leadF os) (2 * r))).map ratD) → Same H H' → Q (.ref l) H'
abbrev sRise : Stmt := top 35
theorem scRise : FnScope ["machine", "items", "squares", "rise", "kept", "i", "item"] ["machine", "items", "squares"] (defScope sRise) := ⟨rfl, rfl, rfl, by decide +kernel, rfl, by decide +kernel, by decide +kernel⟩
theorem ok_rise (F : FA K mg "kept_by_rise" sRise) (B : Blt mg) (his_line : FnHas P w K mg base "is_line" 1 (spIsLn K)) (hlead_of : FnHas P w K mg base "lead_of" 1 (spLead K)) (hplus_whole : FnHas P w K mg base "plus_whole" 4 (spPW K)) (hleast : FnHas P w K mg base "least" 2 (spLeast K)) : FnHas P w K mg base "kept_by_rise" 5 (spRise K) := by
  refine F.has scRise (fun vs H Q E h => ?_) (fun _ _ _ _ _ _ us hl => match us, hl with | [_, _, _], _ => rfl) (fun f cdv A outer s H vs Q E hr h => ?_)
  · obtain ⟨m, iv, l, ys, rs, r, f, j, t, ds, os, g, rfl, _⟩ := h
    rfl
  · obtain ⟨m, iv, l, ys, rs, r, f, j, t, ds, os, g, rfl, rm, okm, ri, row, hz, dl, rds, bg, k⟩ := h
    have nd := scRise.nd
    refine ⟨_, (pss_cons (ps_set (i := 3) nd rfl (Or.inl rfl) (pe_ix (ixK K rfl) (pv 0) pe_int (fun _ _ => rfl)))
    (pss_cons (ps_set (i := 4) nd rfl (Or.inl rfl) (pe_callTy (x := "list") (listK K rfl) rfl (B.at "list") PyProof.Rows.boot_list (pa_cons (pv 2) pa_nil)))
    (pss_cons (ps_for PassesOwn.never rfl (pi_enum K rfl false rfl (B.at "enumerate") (pa_cons (pv 1) pa_nil)) (pgT K rfl (n := 2) rfl (pgs_cons (pg_name (i := 5) nd rfl (Or.inl rfl)) (pgs_cons (pg_name (i := 6) nd rfl (Or.inl rfl)) pgs_nil)))
    (pss_one (ps_if (pt_val (pe_fn his_line (hr.mono (by decide)) rfl (pa_cons (pv 6) pa_nil)))
    (pss_one (ps_asg (pe_fn hleast (hr.mono (by decide)) rfl (pa_cons (pe_lstA (pa_cons (pe_ix (ixK K rfl) (pv 4) (pe_op op_add (pv 5) pe_int) (fun _ _ => rfl)) (pa_cons (pe_fn hplus_whole (hr.mono (by decide)) rfl (pa_cons (pe_ix (ixK K rfl) (pv 4) (pv 5) (fun _ _ => rfl)) (pa_cons (pe_op op_mulG (pe_op op_mulG pe_int (pv 3)) (pe_fn hlead_of (hr.mono (by decide)) rfl (pa_cons (pv 6) pa_nil))) pa_nil))) pa_nil))) pa_nil)) (pg_sub (pv 4) (pe_op op_add (pv 5) pe_int) set_list)))
    pss_nil)))
    (pss_one (ps_ret (pv 4)))))), ?_⟩
    obtain ⟨ma, mb, rfl, hma, hmb⟩ := mach_inv rm
    obtain ⟨ia, xs, rfl, hi, hxs⟩ := ri.tup_inv
    have lx := hxs.length
    have ll := row.len
    have lr := okm.len
    have hL : ∀ i m, leadF os i = some m → (2 * r * (m : Int)).natAbs < 2 ^ 24 := fun i m e => up_small okm.r1.1 okm.r1.2 (leadF_le row.okI e)
    have RB : ∀ i, i ≤ 30 → Bd 900 (Rz g (leadF os) (2 * r) i) := fun i hi => (Rz_bd bg hL i).mono (by omega)
    refine ⟨_, rfl, .inr ⟨ma, _, 1, .int r, rfl, rfl, hma, rfl, ?_⟩⟩
    refine ⟨_, rfl, l, ys, rfl, .inl (SqL.of dl), fun D H1 n1 => ?_⟩
    refine ⟨_, rfl, ia, rfl, ⟨_, hi.go n1.same⟩, for_enum (K := K) (b := false) (a := ia) (xs := xs) (fun i σ H2 => Same H H2 ∧ ∃ zs v1 v2, H2 D = some (.lst zs) ∧ RDs K H2 zs ((lst os.length fun k => if k ≤ i then Rz g (leadF os) (2 * r) k else g k).map ratD) ∧ σ = [some (.ref ma), some (.ref ia), some (.ref l), some (.int r), some (.ref D), v1, v2]) ?_ (fun i σ H2 _ h => hi.go h.1) ?_ ?_⟩
    · refine ⟨n1.same, ys, none, none, n1.at', ?_, rfl⟩
      rw [lst_congr (g := fun k => if k ≤ 0 then Rz g (leadF os) (2 * r) k else g k) (g' := g)]
      · exact RDs.mono n1.same _ rds
      · intro k _
        show g k = if k ≤ 0 then Rz g (leadF os) (2 * r) k else g k
        split
        · next h => have : k = 0 := by omega
                    subst this; rfl
        · rfl
    · rintro i y σ H2 hy ⟨s2, zs, v1, v2, dz, rz, rfl⟩ T H3 n3
      have hix : i < xs.length := (List.getElem?_eq_some_iff.mp hy).1
      obtain ⟨d, ed, rd⟩ := hxs.get' i hy
      obtain ⟨o, eo, it⟩ := row.get ed
      have s3 := s2.trans n3.same
      have lz := rz.length
      rw [List.length_map, lst_len] at lz
      refine ⟨T, _, rfl, SqT.of n3.at', rfl, _, _, rfl, _, _, rfl, rfl, ?_⟩
      refine ⟨_, rfl, y, d, o, rfl, RD.mono s3 _ rd, it, _, rfl, ?_⟩
      cases o with
      | none =>
        refine iteF ?_
        refine ⟨s3, zs, _, _, n3.same _ _ dz, ?_, rfl⟩
        rw [lst_congr (g := fun k => if k ≤ i + 1 then Rz g (leadF os) (2 * r) k else g k) (g' := fun k => if k ≤ i then Rz g (leadF os) (2 * r) k else g k)]
        · exact RDs.mono n3.same _ rz
        · intro k _
          show (if k ≤ i then Rz g (leadF os) (2 * r) k else g k) = if k ≤ i + 1 then Rz g (leadF os) (2 * r) k else g k
          by_cases h1 : k ≤ i
          · rw [if_pos h1, if_pos (by omega)]
          · rw [if_neg h1]
            by_cases h2 : k = i + 1
            · subst h2; rw [if_pos (Nat.le_refl _), Rz_no (leadF_none eo)]
            · rw [if_neg (by omega)]
      | some q =>
        obtain ⟨ns, sp⟩ := q
        refine iteT ?_
        have ed' := it_line it
        subst ed'
        obtain ⟨okn, _, _⟩ := row.ok i ns sp eo
        have dz3 := n3.same _ _ dz
        have rz3 := RDs.mono n3.same _ rz
        obtain ⟨z1, ez1⟩ : ∃ z, zs[i + 1]? = some z := ⟨_, List.getElem?_eq_getElem (show i + 1 < zs.length by omega)⟩
        obtain ⟨z0, ez0⟩ : ∃ z, zs[i]? = some z := ⟨_, List.getElem?_eq_getElem (show i < zs.length by omega)⟩
        have R1 : RatV K H3 z1 (g (i + 1)) := by
          obtain ⟨d1, e1, r1⟩ := rz3.get' (i + 1) ez1
          rw [List.getElem?_map, lst_get _ (show i + 1 ≤ os.length by omega)] at e1
          cases e1
          have : ¬ (i + 1 ≤ i) := by omega
          simp only [if_neg this] at r1
          exact ratOf r1
        have R0 : RatV K H3 z0 (Rz g (leadF os) (2 * r) i) := by
          obtain ⟨d1, e1, r1⟩ := rz3.get' i ez0
          rw [List.getElem?_map, lst_get _ (show i ≤ os.length by omega)] at e1
          cases e1
          simp only [if_pos (Nat.le_refl i)] at r1
          exact ratOf r1
        have eT1 : ((i : Int) + 1).toNat = i + 1 := by omega
        have at1 : atI zs ((i : Int) + 1) = some z1 := atI_of (by omega) (by rw [eT1]; exact ez1)
        have at0 : atI zs (i : Int) = some z0 := atI_of (by omega) (by simpa using ez0)
        refine ⟨_, rfl, _, rfl, _, _, rfl, rfl, .inl ⟨D, _, _, _, rfl, rfl, SqL.of dz3, at1, ?_⟩⟩
        refine ⟨_, rfl, _, rfl, .inl ⟨D, _, _, _, rfl, rfl, SqL.of dz3, at0, ?_⟩⟩
        refine ⟨_, rfl, _, _, rfl, rfl, .of_left (intBits_le_64 (by decide) (by decide)), ?_⟩
        refine ⟨_, rfl, y, ns, sp, rfl, RD.mono s3 _ rd, okn.ne, by rw [okn.len]; omega, fun H4 s4 => ?_⟩
        have r50 := okm.r1
        refine ⟨_, _, rfl, rfl, .of_left (intBits_le_64 (by omega) (by omega)), ?_⟩
        have us := hL i _ (leadF_some eo)
        refine ⟨z0, _, _, rfl, R0.go s4, (RB i (by omega)).mono (by decide), us, fun u H5 ru s5 => ?_⟩
        refine ⟨smallN _ (Nat.le_of_ble_eq_true rfl), fun l2 H6 n6 => ?_⟩
        have s36 := s4.trans (s5.trans n6.same)
        have Rz1 := R1.go s36
        have Ru := ru.go n6.same
        have B1 : Bd 2000 (g (i + 1)) := (bg _).mono (by decide)
        have B2 : Bd 2000 (Rz g (leadF os) (2 * r) i + ((2 * r * (leadN ns : Int) : Int) : Rat)) := (add_bd (RB i (by omega)) us).mono (by decide)
        refine ⟨l2, [z1, u], [_, _], rfl, SqL.of n6.at', ⟨Rz1, B1, Ru, B2, trivial⟩, by simp, fun c v q e1 e2 hq => ?_⟩
        have hqe : mn (g (i + 1)) (Rz g (leadF os) (2 * r) i + ((2 * r * (leadN ns : Int) : Int) : Rat)) = q := by
          refine mn_eq_of ?_ (hq _ (by simp)) (hq _ (by simp))
          match c, e2 with
          | 0, e2 => cases e2; exact .inl rfl
          | 1, e2 => cases e2; exact .inr rfl
        have Rv : RatV K H6 v q := by
          match c, e1, e2 with
          | 0, e1, e2 => cases e1; cases e2; exact Rz1
          | 1, e1, e2 => cases e1; cases e2; exact Ru
        have dz6 := s36 _ _ dz3
        have ix1 : ixN zs.length ((i : Int) + 1) = some (i + 1) := by
          unfold ixN
          rw [if_pos (by omega), if_pos (by omega), eT1]
        refine ⟨_, rfl, _, rfl, _, _, rfl, rfl, D, zs, _, _, rfl, rfl, dz6, ix1, ?_⟩
        refine ⟨fun b o e => ?_, _, _, _, upd_same, ?_, rfl⟩
        · rw [upd_ne (ne_of_none e n1.no)]; exact s36 b o (s3 b o e)
        · have h := RDs.setT (i := i + 1) dz6 (RDs.mono s36 _ rz3) Rv.rd (noLs_rat _) (ratD_no _)
          rw [← List.map_set] at h
          have e : (lst os.length fun k => if k ≤ i then Rz g (leadF os) (2 * r) k else g k).set (i + 1) q = lst os.length fun k => if k ≤ i + 1 then Rz g (leadF os) (2 * r) k else g k := by
            rw [← lst_set (g := fun k => if k ≤ i then Rz g (leadF os) (2 * r) k else g k) (g' := fun k => if k ≤ i + 1 then Rz g (leadF os) (2 * r) k else g k) (i := i + 1)]
            · simp only [if_pos (Nat.le_refl (i + 1))]
              rw [Rz_line (leadF_some eo), hqe]
            · intro k _ hk
              show (if k ≤ i + 1 then _ else _) = if k ≤ i then _ else _
              by_cases h1 : k ≤ i
              · rw [if_pos h1, if_pos (by omega)]
              · rw [if_neg h1, if_neg (by omega)]
          rw [e] at h
          exact h
    · rintro σ H2 ⟨s2, zs, v1, v2, dz, rz, rfl⟩
      rw [lst_congr (g := fun k => if k ≤ xs.length then Rz g (leadF os) (2 * r) k else g k) (g' := Rz g (leadF os) (2 * r)) (fun k hk => by show _ = if k ≤ xs.length then _ else _; rw [if_pos (by omega)])] at rz
      exact ⟨_, rfl, k D zs H2 n1.no dz rz s2⟩
end
end Lw



set_option Elab.async false
set_option linter.all false
set_option maxRecDepth 100000
set_option maxHeartbeats 1000000
set_option exponentiation.threshold 6000
namespace Lw
open PySem PySem.Spec PyProof.Rows L2 Rt Ln Cn Pn
open Ow (topR cornO mnO betR atO ownF leadF ownL OkI OkIs)
section
variable {P : Program} {w : World} {K : PySem.W.Frag} {mg : Str → Option Value} {base : Heap}
def spFall (K : PySem.W.Frag) : Sp := fun vs H Q _ => ∃ m iv l ys rs r f j t ds os g, vs = [m, iv, .ref l] ∧ RD K H m (machD rs r f j t) ∧ OkM rs r f j t ∧ RD K H iv (.tuple ds) ∧ RowOk rs.length ds os ∧ ds.length ≤ 30 ∧ H l = some (.lst ys) ∧ RDs K H ys ((lst os.length g).map ratD) ∧ (∀ i, i ≤ os.length → Bd 900 (g i)) ∧
  ∀ l ys H', H l = none → H' l = some (.lst ys) → RDs K H' ys ((lst os.length (fl os.length (leadF os) (2 * f) g)).map ratD) → Same H H' → Q (.ref l) H'
abbrev sFall : Stmt := top 36
theorem scFall : FnScope ["machine", "items", "squares", "fall", "kept", "i"] ["machine", "items", "squares"] (defScope sFall) := ⟨rfl, rfl, rfl, by decide +kernel, rfl, by decide +kernel, by decide +kernel⟩
theorem ok_fall (F : FA K mg "kept_by_fall" sFall) (B : Blt mg) (his_line : FnHas P w K mg base "is_line" 1 (spIsLn K)) (hlead_of : FnHas P w K mg base "lead_of" 1 (spLead K)) (hplus_whole : FnHas P w K mg base "plus_whole" 4 (spPW K)) (hleast : FnHas P w K mg base "least" 2 (spLeast K)) : FnHas P w K mg base "kept_by_fall" 5 (spFall K) := by
  refine F.has scFall (fun vs H Q E h => ?_) (fun _ _ _ _ _ _ us hl => match us, hl with | [_, _, _], _ => rfl) (fun fa cdv A outer s H vs Q E hr h => ?_)
  · obtain ⟨m, iv, l, ys, rs, r, f, j, t, ds, os, g, rfl, _⟩ := h
    rfl
  · obtain ⟨m, iv, l, ys, rs, r, f, j, t, ds, os, g, rfl, rm, okm, ri, row, hz, dl, rds, bg, k⟩ := h
    have nd := scFall.nd
    refine ⟨_, (pss_cons (ps_set (i := 3) nd rfl (Or.inl rfl) (pe_ix (ixK K rfl) (pv 0) pe_int (fun _ _ => rfl)))
    (pss_cons (ps_set (i := 4) nd rfl (Or.inl rfl) (pe_callTy (x := "list") (listK K rfl) rfl (B.at "list") PyProof.Rows.boot_list (pa_cons (pv 2) pa_nil)))
    (pss_cons (ps_for PassesOwn.never rfl (pi_rev rfl (B.at "reversed") (pa_cons (pe_callTy (x := "range") call_rangeO rfl (B.at "range") PyProof.Rows.boot_range (pa_cons (pe_callB (x := "len") (lenK K rfl) rfl (B.at "len") PySem.boot_len (pa_cons (pv 1) pa_nil)) pa_nil)) pa_nil)) (pg_name (i := 5) nd rfl (Or.inl rfl))
    (pss_one (ps_if (pt_val (pe_fn his_line (hr.mono (by decide)) rfl (pa_cons (pe_ix (ixK K rfl) (pv 1) (pv 5) (fun _ _ => rfl)) pa_nil)))
    (pss_one (ps_asg (pe_fn hleast (hr.mono (by decide)) rfl (pa_cons (pe_lstA (pa_cons (pe_ix (ixK K rfl) (pv 4) (pv 5) (fun _ _ => rfl)) (pa_cons (pe_fn hplus_whole (hr.mono (by decide)) rfl (pa_cons (pe_ix (ixK K rfl) (pv 4) (pe_op op_add (pv 5) pe_int) (fun _ _ => rfl)) (pa_cons (pe_op op_mulG (pe_op op_mulG pe_int (pv 3)) (pe_fn hlead_of (hr.mono (by decide)) rfl (pa_cons (pe_ix (ixK K rfl) (pv 1) (pv 5) (fun _ _ => rfl)) pa_nil))) pa_nil))) pa_nil))) pa_nil)) (pg_sub (pv 4) (pv 5) set_list)))
    pss_nil)))
    (pss_one (ps_ret (pv 4)))))), ?_⟩
    obtain ⟨ma, mb, rfl, hma, hmb⟩ := mach_inv rm
    obtain ⟨ia, xs, rfl, hi, hxs⟩ := ri.tup_inv
    have lx := hxs.length
    have ll := row.len
    have lr := okm.len
    have hL : ∀ i m, leadF os i = some m → (2 * f * (m : Int)).natAbs < 2 ^ 24 := fun i m e => up_small okm.f1.1 okm.f1.2 (leadF_le row.okI e)
    have FB : ∀ i, i ≤ os.length → Bd 1700 (fl os.length (leadF os) (2 * f) g i) := fun i hi => (fl_bd bg hL i hi).mono (by omega)
    refine ⟨_, rfl, .inr ⟨ma, _, 2, .int f, rfl, rfl, hma, rfl, ?_⟩⟩
    refine ⟨_, rfl, l, ys, rfl, .inl (SqL.of dl), fun D H1 n1 => ?_⟩
    refine ⟨_, rfl, ia, _, rfl, .inr (hi.go n1.same), _, rfl, fun pr H2 n2 => ?_⟩
    refine ⟨pr, _, rfl, n2.at', by omega, by omega, ?_⟩
    have eN : ((xs.length : Int)).toNat = os.length := by omega
    rw [eN]
    refine for_rev (Pv := fun i σ H5 => Same H H5 ∧ ∃ zs v1, H5 D = some (.lst zs) ∧ RDs K H5 zs ((lst os.length fun k => if os.length ≤ k + i then fl os.length (leadF os) (2 * f) g k else g k).map ratD) ∧ σ = [some (.ref ma), some (.ref ia), some (.ref l), some (.int f), some (.ref D), v1]) ?_ ?_ ?_
    · refine ⟨n1.same.trans n2.same, ys, none, n2.same _ _ n1.at', ?_, rfl⟩
      rw [lst_congr (g := fun k => if os.length ≤ k + 0 then fl os.length (leadF os) (2 * f) g k else g k) (g' := g)]
      · exact RDs.mono (n1.same.trans n2.same) _ rds
      · intro k hk
        show g k = if os.length ≤ k + 0 then _ else g k
        split
        · next h => have : k = os.length := by omega
                    subst this; exact fl_n.symm
        · rfl
    · rintro i σ H3 hin ⟨s3, zs, v1, dz, rz, rfl⟩
      obtain ⟨x, hx⟩ : ∃ x, xs[os.length - 1 - i]? = some x := ⟨_, List.getElem?_eq_getElem (show os.length - 1 - i < xs.length by omega)⟩
      generalize hc : os.length - 1 - i = c at hx
      have hcl : c < os.length := by omega
      have eI : ((os.length : Int) - 1 - (i : Int)) = (c : Int) := by omega
      rw [eI]
      obtain ⟨d, ed, rd⟩ := hxs.get' c hx
      obtain ⟨o, eo, it⟩ := row.get ed
      have lz := rz.length
      rw [List.length_map, lst_len] at lz
      have atx : atI xs (c : Int) = some x := atI_of (by omega) (by simpa using hx)
      refine ⟨_, rfl, _, rfl, .inr ⟨ia, _, _, _, rfl, rfl, hi.go s3, atx, ?_⟩⟩
      refine ⟨x, d, o, rfl, RD.mono s3 _ rd, it, _, rfl, ?_⟩
      cases o with
      | none =>
        refine iteF ?_
        refine ⟨s3, zs, _, dz, ?_, rfl⟩
        rw [lst_congr (g := fun k => if os.length ≤ k + (i + 1) then fl os.length (leadF os) (2 * f) g k else g k) (g' := fun k => if os.length ≤ k + i then fl os.length (leadF os) (2 * f) g k else g k)]
        · exact rz
        · intro k _
          show (if os.length ≤ k + i then _ else g k) = if os.length ≤ k + (i + 1) then _ else g k
          by_cases h1 : os.length ≤ k + i
          · rw [if_pos h1, if_pos (by omega)]
          · rw [if_neg h1]
            by_cases h2 : k = c
            · subst h2; rw [if_pos (by omega), fl_no hcl (leadF_none eo)]
            · rw [if_neg (by omega)]
      | some q =>
        obtain ⟨ns, sp⟩ := q
        refine iteT ?_
        have ed' := it_line it
        subst ed'
        obtain ⟨okn, _, _⟩ := row.ok c ns sp eo
        obtain ⟨z1, ez1⟩ : ∃ z, zs[c + 1]? = some z := ⟨_, List.getElem?_eq_getElem (show c + 1 < zs.length by omega)⟩
        obtain ⟨z0, ez0⟩ : ∃ z, zs[c]? = some z := ⟨_, List.getElem?_eq_getElem (show c < zs.length by omega)⟩
        have R1 : RatV K H3 z1 (fl os.length (leadF os) (2 * f) g (c + 1)) := by
          obtain ⟨d1, e1, r1⟩ := rz.get' (c + 1) ez1
          rw [List.getElem?_map, lst_get _ (show c + 1 ≤ os.length by omega)] at e1
          cases e1
          have : os.length ≤ c + 1 + i := by omega
          simp only [if_pos this] at r1
          exact ratOf r1
        have R0 : RatV K H3 z0 (g c) := by
          obtain ⟨d1, e1, r1⟩ := rz.get' c ez0
          rw [List.getElem?_map, lst_get _ (show c ≤ os.length by omega)] at e1
          cases e1
          have : ¬ os.length ≤ c + i := by omega
          simp only [if_neg this] at r1
          exact ratOf r1
        have eT1 : ((c : Int) + 1).toNat = c + 1 := by omega
        have at1 : atI zs ((c : Int) + 1) = some z1 := atI_of (by omega) (by rw [eT1]; exact ez1)
        have at0 : atI zs (c : Int) = some z0 := atI_of (by omega) (by simpa using ez0)
        refine ⟨_, rfl, _, rfl, .inl ⟨D, _, _, _, rfl, rfl, SqL.of dz, at0, ?_⟩⟩
        refine ⟨_, rfl, _, rfl, _, _, rfl, rfl, .inl ⟨D, _, _, _, rfl, rfl, SqL.of dz, at1, ?_⟩⟩
        refine ⟨_, rfl, _, _, rfl, rfl, .of_left (intBits_le_64 (by decide) (by decide)), ?_⟩
        refine ⟨_, rfl, _, rfl, .inr ⟨ia, _, _, _, rfl, rfl, hi.go s3, atx, ?_⟩⟩
        refine ⟨x, ns, sp, rfl, RD.mono s3 _ rd, okn.ne, by rw [okn.len]; omega, fun H4 s4 => ?_⟩
        have f50 := okm.f1
        refine ⟨_, _, rfl, rfl, .of_left (intBits_le_64 (by omega) (by omega)), ?_⟩
        have us := hL c _ (leadF_some eo)
        refine ⟨z1, _, _, rfl, R1.go s4, (FB (c + 1) (by omega)).mono (by decide), us, fun u H5 ru s5 => ?_⟩
        refine ⟨smallN _ (Nat.le_of_ble_eq_true rfl), fun l2 H6 n6 => ?_⟩
        have s36 := s4.trans (s5.trans n6.same)
        have Rz0 := R0.go s36
        have Ru := ru.go n6.same
        have B1 : Bd 2000 (g c) := (bg _ (by omega)).mono (by decide)
        have B2 : Bd 2000 (fl os.length (leadF os) (2 * f) g (c + 1) + ((2 * f * (leadN ns : Int) : Int) : Rat)) := (add_bd (FB (c + 1) (by omega)) us).mono (by decide)
        refine ⟨l2, [z0, u], [_, _], rfl, SqL.of n6.at', ⟨Rz0, B1, Ru, B2, trivial⟩, by simp, fun c' v q e1 e2 hq => ?_⟩
        have hqe : mn (g c) (fl os.length (leadF os) (2 * f) g (c + 1) + ((2 * f * (leadN ns : Int) : Int) : Rat)) = q := by
          refine mn_eq_of ?_ (hq _ (by simp)) (hq _ (by simp))
          match c', e2 with
          | 0, e2 => cases e2; exact .inl rfl
          | 1, e2 => cases e2; exact .inr rfl
        have Rv : RatV K H6 v q := by
          match c', e1, e2 with
          | 0, e1, e2 => cases e1; cases e2; exact Rz0
          | 1, e1, e2 => cases e1; cases e2; exact Ru
        have dz6 := s36 _ _ dz
        have ix0 : ixN zs.length (c : Int) = some c := by
          unfold ixN
          rw [if_pos (by omega), if_pos (by omega)]; simp
        refine ⟨_, rfl, _, rfl, D, zs, _, _, rfl, rfl, dz6, ix0, ?_⟩
        refine ⟨fun b o e => ?_, _, _, upd_same, ?_, rfl⟩
        · rw [upd_ne (ne_of_none e n1.no)]; exact s36 b o (s3 b o e)
        · have h := RDs.setT (i := c) dz6 (RDs.mono s36 _ rz) Rv.rd (noLs_rat _) (ratD_no _)
          rw [← List.map_set] at h
          have e : (lst os.length fun k => if os.length ≤ k + i then fl os.length (leadF os) (2 * f) g k else g k).set c q = lst os.length fun k => if os.length ≤ k + (i + 1) then fl os.length (leadF os) (2 * f) g k else g k := by
            rw [← lst_set (g := fun k => if os.length ≤ k + i then fl os.length (leadF os) (2 * f) g k else g k) (g' := fun k => if os.length ≤ k + (i + 1) then fl os.length (leadF os) (2 * f) g k else g k) (i := c)]
            · have : os.length ≤ c + (i + 1) := by omega
              simp only [if_pos this]
              rw [fl_line hcl (leadF_some eo), hqe]
            · intro k _ hk
              show (if os.length ≤ k + (i + 1) then _ else g k) = if os.length ≤ k + i then _ else g k
              by_cases h1 : os.length ≤ k + i
              · rw [if_pos h1, if_pos (by omega)]
              · rw [if_neg h1, if_neg (by omega)]
          rw [e] at h
          exact h
    · rintro σ H3 ⟨s3, zs, v1, dz, rz, rfl⟩
      rw [lst_congr (g := fun k => if os.length ≤ k + os.length then fl os.length (leadF os) (2 * f) g k else g k) (g' := fl os.length (leadF os) (2 * f) g) (fun k hk => by show _ = if os.length ≤ k + os.length then _ else _; rw [if_pos (by omega)])] at rz
      exact ⟨_, rfl, k D zs H3 n1.no dz rz s3⟩
/-- the plan -/
def planF (r f j rate : Int) (os : List Itm) : Nat → Rat := plan os.length (ownF j rate os) (leadF os) (2 * r) (2 * f)
def planL (r f j rate : Int) (os : List Itm) : List Rat := lst os.length (planF r f j rate os)
theorem planL_len (r f j rate : Int) (os : List Itm) : (planL r f j rate os).length = os.length + 1 := lst_len _ _
def spPlan (K : PySem.W.Frag) : Sp := fun vs H Q _ => ∃ m iv rate rs r f j t ds os, vs = [m, iv, .int rate] ∧ RD K H m (machD rs r f j t) ∧ OkM rs r f j t ∧ RD K H iv (.tuple ds) ∧ RowOk rs.length ds os ∧ ds.length ≤ 30 ∧ 10 ≤ rate ∧ rate ≤ 200 ∧ ∀ l ys H', H l = none → H' l = some (.lst ys) → RDs K H' ys ((planL r f j rate os).map ratD) → Same H H' → Q (.ref l) H'
abbrev sPlan : Stmt := top 34
theorem scPlan : FnScope ["machine", "items", "rate", "risen"] ["machine", "items", "rate"] (defScope sPlan) := ⟨rfl, rfl, rfl, by decide +kernel, rfl, by decide +kernel, by decide +kernel⟩
theorem ok_plan (F : FA K mg "plan_of" sPlan) (B : Blt mg) (hown_bounds : FnHas P w K mg base "own_bounds" 8 (spOwn K)) (hkept_by_rise : FnHas P w K mg base "kept_by_rise" 5 (spRise K)) (hkept_by_fall : FnHas P w K mg base "kept_by_fall" 5 (spFall K)) : FnHas P w K mg base "plan_of" 9 (spPlan K) := by
  refine F.has scPlan (fun vs H Q E h => ?_) (fun _ _ _ _ _ _ us hl => match us, hl with | [_, _, _], _ => rfl) (fun fa cdv A outer s H vs Q E hr h => ?_)
  · obtain ⟨m, iv, rate, rs, r, f, j, t, ds, os, rfl, _⟩ := h
    rfl
  · obtain ⟨m, iv, rate, rs, r, f, j, t, ds, os, rfl, rm, okm, ri, row, hz, rt1, rt2, k⟩ := h
    have nd := scPlan.nd
    refine ⟨_, (pss_cons (ps_set (i := 3) nd rfl (Or.inl rfl) (pe_fn hkept_by_rise (hr.mono (by decide)) rfl (pa_cons (pv 0) (pa_cons (pv 1) (pa_cons (pe_fn hown_bounds (hr.mono (by decide)) rfl (pa_cons (pv 0) (pa_cons (pv 1) (pa_cons (pv 2) pa_nil)))) pa_nil)))))
    (pss_one (ps_ret (pe_fn hkept_by_fall (hr.mono (by decide)) rfl (pa_cons (pv 0) (pa_cons (pv 1) (pa_cons (pv 3) pa_nil))))))), ?_⟩
    have ll := row.len
    have hB := Ow.ownF_bd okm.j1.1 okm.j1.2 rt1 rt2 row.okI
    have hL : ∀ i m, leadF os i = some m → (2 * r * (m : Int)).natAbs < 2 ^ 24 := fun i m e => up_small okm.r1.1 okm.r1.2 (leadF_le row.okI e)
    refine ⟨_, rfl, _, rfl, _, rfl, _, rfl, _, rfl, m, iv, rate, rs, r, f, j, t, ds, os, rfl, rm, okm, ri, row, by omega, rt1, rt2, fun l1 y1 H1 nl1 d1 r1 s1 => ?_⟩
    refine ⟨m, iv, l1, y1, rs, r, f, j, t, ds, os, ownF j rate os, rfl, RD.mono s1 _ rm, okm, RD.mono s1 _ ri, row, hz, d1, r1, hB, fun l2 y2 H2 nl2 d2 r2 s2 => ?_⟩
    have s12 := s1.trans s2
    refine ⟨_, rfl, _, rfl, _, rfl, m, iv, l2, y2, rs, r, f, j, t, ds, os, _, rfl, RD.mono s12 _ rm, okm, RD.mono s12 _ ri, row, hz, d2, r2, fun i hi => (Rz_bd hB hL i).mono (by omega), fun l3 y3 H3 nl3 d3 r3 s3 => ?_⟩
    have nl : H l3 = none := by
      cases e : H l3 with
      | none => rfl
      | some o => have := s12 _ _ e; rw [nl3] at this; cases this
    exact k l3 y3 H3 nl d3 r3 (s12.trans s3)
end
end Lw



set_option Elab.async false
set_option linter.all false
set_option maxRecDepth 100000
set_option maxHeartbeats 1000000
set_option exponentiation.threshold 6000
namespace Lw
open PySem PySem.Spec PyProof.Rows L2 Rt Ln Cn Pn
open Ow (topR cornO mnO betR atO ownF leadF ownL OkI OkIs)
section
variable {P : Program} {w : World} {K : PySem.W.Frag} {mg : Str → Option Value} {base : Heap}
abbrev sSumL : Stmt := top 48
theorem scSumL : FnScope ["_law_one", "_law_other_here"] ["_law_one", "_law_other_here"] (defScope sSumL) := ⟨rfl, rfl, rfl, by decide +kernel, rfl, by decide +kernel, by decide +kernel⟩
theorem ok_sumL (F : FA K mg "_law_sum" sSumL) (B : Blt mg) (hL_frac : FnHas P w K mg base "_law_frac" 1 (spFracL K)) : FnHas P w K mg base "_law_sum" 2 (spR2 (· + ·) K) := by
  refine F.has scSumL (fun vs H Q E h => ?_) (fun _ _ _ _ _ _ us hl => match us, hl with | [_, _], _ => rfl) (fun f cdv A outer s H vs Q E hr h => ?_)
  · obtain ⟨v1, v2, r, s, rfl, _⟩ := h
    rfl
  · obtain ⟨v1, v2, r, s, rfl, ⟨p, rfl, hp⟩, ⟨q, rfl, hq⟩, br, bs, k⟩ := h
    have nd := scSumL.nd
    refine ⟨_, (pss_one (ps_ret (pe_fn hL_frac (hr.mono (by decide)) rfl (pa_cons (pe_op op_add (pe_op op_mulG (pe_ix (ixK K rfl) (pv 0) pe_int (fun _ _ => rfl)) (pe_ix (ixK K rfl) (pv 1) pe_int (fun _ _ => rfl))) (pe_op op_mulG (pe_ix (ixK K rfl) (pv 1) pe_int (fun _ _ => rfl)) (pe_ix (ixK K rfl) (pv 0) pe_int (fun _ _ => rfl)))) (pa_cons (pe_op op_mulG (pe_ix (ixK K rfl) (pv 0) pe_int (fun _ _ => rfl)) (pe_ix (ixK K rfl) (pv 1) pe_int (fun _ _ => rfl))) pa_nil))))), ?_⟩
    refine ⟨_, rfl, .inr ⟨p, _, 0, .int r.num, rfl, rfl, hp, rfl, _, rfl, .inr ⟨q, _, 1, .int s.den, rfl, rfl, hq, rfl, _, _, rfl, rfl, IntMulOk.of_bits br.wn.bits bs.wd.bits, ?_⟩⟩⟩
    refine ⟨_, rfl, .inr ⟨q, _, 0, .int s.num, rfl, rfl, hq, rfl, _, rfl, .inr ⟨p, _, 1, .int r.den, rfl, rfl, hp, rfl, _, _, rfl, rfl, IntMulOk.of_bits bs.wn.bits br.wd.bits, ?_⟩⟩⟩
    refine ⟨_, _, rfl, rfl, ?_⟩
    refine ⟨_, rfl, .inr ⟨p, _, 1, .int r.den, rfl, rfl, hp, rfl, _, rfl, .inr ⟨q, _, 1, .int s.den, rfl, rfl, hq, rfl, _, _, rfl, rfl, IntMulOk.of_bits br.wd.bits bs.wd.bits, ?_⟩⟩⟩
    refine ⟨_, _, rfl, Int.mul_pos (den_pos r) (den_pos s), wdd br bs, fun v H' r' s' => k v H' ?_ s'⟩
    show RatV K H' v (r + s)
    rw [add_div]; exact r'
abbrev sLessL : Stmt := top 49
theorem scLessL : FnScope ["_law_one", "_law_other_here"] ["_law_one", "_law_other_here"] (defScope sLessL) := ⟨rfl, rfl, rfl, by decide +kernel, rfl, by decide +kernel, by decide +kernel⟩
theorem ok_lessL (F : FA K mg "_law_less" sLessL) (B : Blt mg) : FnHas P w K mg base "_law_less" 1 (spLess K) := by
  refine F.has scLessL (fun vs H Q E h => ?_) (fun _ _ _ _ _ _ us hl => match us, hl with | [_, _], _ => rfl) (fun f cdv A outer s H vs Q E hr h => ?_)
  · obtain ⟨v1, v2, r, s, rfl, _⟩ := h
    rfl
  · obtain ⟨v1, v2, r, s, rfl, ⟨p, rfl, hp⟩, ⟨q, rfl, hq⟩, br, bs, k⟩ := h
    have nd := scLessL.nd
    refine ⟨_, (pss_one (ps_ret (pe_cmpR op_lt (pe_op op_mulG (pe_ix (ixK K rfl) (pv 0) pe_int (fun _ _ => rfl)) (pe_ix (ixK K rfl) (pv 1) pe_int (fun _ _ => rfl))) (pe_op op_mulG (pe_ix (ixK K rfl) (pv 1) pe_int (fun _ _ => rfl)) (pe_ix (ixK K rfl) (pv 0) pe_int (fun _ _ => rfl))) (nomark _)))), ?_⟩
    refine ⟨_, rfl, .inr ⟨p, _, 0, .int r.num, rfl, rfl, hp, rfl, _, rfl, .inr ⟨q, _, 1, .int s.den, rfl, rfl, hq, rfl, _, _, rfl, rfl, IntMulOk.of_bits br.wn.bits bs.wd.bits, ?_⟩⟩⟩
    refine ⟨_, rfl, .inr ⟨q, _, 0, .int s.num, rfl, rfl, hq, rfl, _, rfl, .inr ⟨p, _, 1, .int r.den, rfl, rfl, hp, rfl, _, _, rfl, rfl, IntMulOk.of_bits bs.wn.bits br.wd.bits, ?_⟩⟩⟩
    refine ⟨_, _, rfl, rfl, ?_⟩
    have e : decide (r.num * (s.den : Int) < s.num * (r.den : Int)) = decide (r < s) := by
      rw [Bool.eq_iff_iff, decide_eq_true_iff, decide_eq_true_iff, Rat.lt_iff]
    show Q (.bl (decide (r.num * (s.den : Int) < s.num * (r.den : Int)))) H
    rw [e]
    exact k
abbrev sMinL : Stmt := top 50
theorem scMinL : FnScope ["_law_some", "_law_best", "_law_one"] ["_law_some"] (defScope sMinL) := ⟨rfl, rfl, rfl, by decide +kernel, rfl, by decide +kernel, by decide +kernel⟩
theorem ok_minL (F : FA K mg "_law_min" sMinL) (B : Blt mg) (hL_less : FnHas P w K mg base "_law_less" 1 (spLess K)) : FnHas P w K mg base "_law_min" 2 (spLeast K) := by
  refine F.has scMinL (fun vs H Q E h => ?_) (fun _ _ _ _ _ _ us hl => match us, hl with | [_], _ => rfl) (fun f cdv A outer s H vs Q E hr h => ?_)
  · obtain ⟨l, xs, rs, rfl, _⟩ := h
    rfl
  · obtain ⟨l, xs, rs, rfl, hl, hr', hne, k⟩ := h
    have nd := scMinL.nd
    refine ⟨_, (pss_cons (ps_set (i := 1) nd rfl (Or.inl rfl) (pe_ix (ixK K rfl) (pv 0) pe_int (fun _ _ => rfl)))
    (pss_cons (ps_for PassesOwn.never rfl (piL K rfl (pv 0)) (pg_name (i := 2) nd rfl (Or.inl rfl))
    (pss_one (ps_if (pt_val (pe_fn hL_less (hr.mono (by decide)) rfl (pa_cons (pv 2) (pa_cons (pv 1) pa_nil))))
    (pss_one (ps_set (i := 1) nd rfl (Or.inl rfl) (pv 2)))
    pss_nil)))
    (pss_one (ps_ret (pv 1))))), ?_⟩
    have hlen := hr'.length
    have h0 : 0 < xs.length := List.length_pos_iff.mpr hne
    have e0 := List.getElem?_eq_getElem h0
    refine ⟨_, rfl, .inl ⟨l, xs, 0, xs[0], rfl, rfl, hl, atI_of (by decide) e0, ?_⟩⟩
    refine ⟨_, rfl, l, rfl, ⟨_, hl⟩, for_list (K := K) (a := l) (xs := xs) (fun i σ H2 => H2 = H ∧ ∃ (j : Nat) (b : V) (r : Rat) (v : Option V), xs[j]? = some b ∧ rs[j]? = some r ∧ (∀ (m : Nat) (s : Rat), m < i → rs[m]? = some s → r ≤ s) ∧ σ = [some (.ref l), some b, v]) ?_ (fun i σ H2 _ h => by rw [h.1]; exact hl) ?_ ?_⟩
    · obtain ⟨r, e1, _⟩ := hr'.get e0
      exact ⟨rfl, 0, _, r, none, e0, e1, fun m s hm => absurd hm (Nat.not_lt_zero _), rfl⟩
    · rintro i x σ H2 hx ⟨rfl, j, b, r, v, eb, er, hm, rfl⟩
      obtain ⟨t, et, rt, bt⟩ := hr'.get hx
      obtain ⟨r2, er2, rb, bb⟩ := hr'.get eb
      rw [er] at er2
      cases er2
      refine ⟨_, rfl, _, rfl, x, b, t, r, rfl, rt, rb, bt, bb, _, rfl, ?_⟩
      refine ite2 (fun hc => ?_) (fun hc => ?_)
      · have hlt : t < r := of_decide_eq_true hc
        refine ⟨_, rfl, ?_⟩
        refine ⟨rfl, i, x, t, _, hx, et, fun m s hmi es => ?_, rfl⟩
        rcases Nat.lt_succ_iff_lt_or_eq.mp hmi with h | h
        · exact Rat.le_trans (Rat.le_of_lt hlt) (hm m s h es)
        · subst h
          rw [et] at es
          cases es
          exact Rat.le_refl
      · have hnl : ¬ t < r := fun z => hc (decide_eq_true z)
        refine ⟨rfl, j, b, r, _, eb, er, fun m s hmi es => ?_, rfl⟩
        rcases Nat.lt_succ_iff_lt_or_eq.mp hmi with h | h
        · exact hm m s h es
        · subst h
          rw [et] at es
          cases es
          exact Rat.not_lt.mp hnl
    · rintro σ H2 ⟨rfl, j, b, r, v, eb, er, hm, rfl⟩
      refine ⟨_, rfl, k j b r eb er fun s hs => ?_⟩
      obtain ⟨m, hml, em⟩ := List.mem_iff_getElem.mp hs
      exact hm m s (by omega) (by rw [List.getElem?_eq_getElem hml, em])
theorem ok_topL (F : FA K mg "_law_top" sTopL) (B : Blt mg) (hL_frac : FnHas P w K mg base "_law_frac" 1 (spFracL K)) : FnHas P w K mg base "_law_top" 2 (spTopL K) := by
  refine F.has scTopL (fun vs H Q E h => ?_) (fun _ _ _ _ _ _ us hl => match us, hl with | [_, _], _ => rfl) (fun f cdv A outer s H vs Q E hr h => ?_)
  · obtain ⟨v, ns, sp, r, rfl, _⟩ := h
    rfl
  · obtain ⟨v, ns, sp, r, rfl, rd, s1, s2, r1, r2, k⟩ := h
    have nd := scTopL.nd
    refine ⟨_, (pss_one (ps_ret (pe_fn hL_frac (hr.mono (by decide)) rfl (pa_cons (pe_op op_mulG (pe_op op_mulG (pe_op op_mulG (pe_ix (ixK K rfl) (pv 0) pe_int (fun _ _ => rfl)) (pe_ix (ixK K rfl) (pv 0) pe_int (fun _ _ => rfl))) (pv 1)) (pv 1)) (pa_cons pe_int pa_nil))))), ?_⟩
    obtain ⟨a, b, rfl, ha, hb⟩ := line_inv rd
    have m1 : (sp * sp).natAbs ≤ 20 * 20 := by rw [Int.natAbs_mul]; exact Nat.mul_le_mul (by omega) (by omega)
    have m2 : (sp * sp * r).natAbs ≤ 400 * 200 := by rw [Int.natAbs_mul]; exact Nat.mul_le_mul (by omega) (by omega)
    refine ⟨_, rfl, .inr ⟨a, _, 2, .int sp, rfl, rfl, ha, rfl, _, rfl, .inr ⟨a, _, 2, .int sp, rfl, rfl, ha, rfl, _, _, rfl, rfl, .of_left (intBits_le_64 (by omega) (by omega)), ?_⟩⟩⟩
    refine ⟨_, rfl, _, _, rfl, rfl, .of_left (intBits_le_64 (by omega) (by omega)), _, rfl, _, _, rfl, rfl, .of_left (intBits_le_64 (by omega) (by omega)), ?_⟩
    refine ⟨_, _, rfl, by decide, wdB (n := 20) (by decide) (by decide), fun v' H' r' s' => k v' H' ?_ s'⟩
    rw [sq4] at r'
    exact r'
/-! ### squares in the middle of the steps -/
def midR (r f : Int) (ld : Nat) (top b e : Rat) (k : Nat) : Rat := mn (mn (b + ((r * (2 * (1 + (k : Int)) - 1) : Int) : Rat)) top) (e + ((f * (2 * ((ld : Int) - (1 + (k : Int))) + 1) : Int) : Rat))
def midL (r f : Int) (ld : Nat) (top b e : Rat) : List Rat := (List.range ld).map (midR r f ld top b e)
theorem mn3 {x y z q : Rat} (h : q = x ∨ q = y ∨ q = z) (h1 : q ≤ x) (h2 : q ≤ y) (h3 : q ≤ z) : mn (mn x y) z = q := by
  refine Rat.le_antisymm ?_ (le_mn (le_mn h1 h2) h3)
  rcases h with h | h | h
  · rw [h]; exact Rat.le_trans (mn_le_l _ _) (mn_le_l _ _)
  · rw [h]; exact Rat.le_trans (mn_le_l _ _) (mn_le_r _ _)
  · rw [h]; exact mn_le_r _ _
theorem rise_bd {r : Int} {k ld : Nat} (h1 : 1 ≤ r) (h2 : r ≤ 50) (hk : k < ld) (hl : ld ≤ 100) : (r * (2 * (1 + (k : Int)) - 1)).natAbs ≤ 50 * 200 := by
  rw [Int.natAbs_mul]; exact Nat.mul_le_mul (by omega) (by omega)
theorem fall_bd {f : Int} {k ld : Nat} (h1 : 1 ≤ f) (h2 : f ≤ 50) (hk : k < ld) (hl : ld ≤ 100) : (f * (2 * ((ld : Int) - (1 + (k : Int))) + 1)).natAbs ≤ 50 * 201 := by
  rw [Int.natAbs_mul]; exact Nat.mul_le_mul (by omega) (by omega)
theorem pow24 : (2 : Nat) ^ 24 = 16777216 := by decide
def spMid (K : PySem.W.Frag) : Sp := fun vs H Q _ => ∃ m iv bv ev rate rs r f j t ns sp b e, vs = [m, iv, bv, ev, .int rate] ∧ RD K H m (machD rs r f j t) ∧ OkM rs r f j t ∧ RD K H iv (lineD ns sp) ∧ OkL rs.length 100 ns ∧ 1 ≤ sp ∧ sp ≤ 20 ∧ RatV K H bv b ∧ RatV K H ev e ∧ Bd 1800 b ∧ Bd 1800 e ∧ 10 ≤ rate ∧ rate ≤ 200 ∧
  ∀ l ys H', H l = none → H' l = some (.lst ys) → RDs K H' ys ((midL r f (leadN ns) (topR rate sp) b e).map ratD) → Same H H' → Q (.ref l) H'
theorem lead_100 {n : Nat} {ns : List Int} (h : OkL n 100 ns) : leadN ns ≤ 100 := by have := h.lead; omega
theorem range_snoc {α : Type} (g : Nat → α) (i : Nat) : (List.range (i + 1)).map g = (List.range i).map g ++ [g i] := by rw [List.range_succ, List.map_append]; rfl
abbrev sMid : Stmt := top 38
theorem scMid : FnScope ["machine", "line", "begin", "end", "rate", "rise", "fall", "top", "lead", "told", "k", "risen", "falling"] ["machine", "line", "begin", "end", "rate"] (defScope sMid) := ⟨rfl, rfl, rfl, by decide +kernel, rfl, by decide +kernel, by decide +kernel⟩
theorem ok_mid (F : FA K mg "middles" sMid) (B : Blt mg) (htop_square : FnHas P w K mg base "top_square" 4 (spTop K)) (hlead_of : FnHas P w K mg base "lead_of" 1 (spLead K)) (hplus_whole : FnHas P w K mg base "plus_whole" 4 (spPW K)) (hleast : FnHas P w K mg base "least" 2 (spLeast K)) : FnHas P w K mg base "middles" 5 (spMid K) := by
  refine F.has scMid (fun vs H Q E h => ?_) (fun _ _ _ _ _ _ us hl => match us, hl with | [_, _, _, _, _], _ => rfl) (fun fa cdv A outer s H vs Q E hr h => ?_)
  · obtain ⟨m, iv, bv, ev, rate, rs, r, f, j, t, ns, sp, b, e, rfl, _⟩ := h
    rfl
  · obtain ⟨m, iv, bv, ev, rate, rs, r, f, j, t, ns, sp, b, e, rfl, rm, okm, ri, okn, sp1, sp2, Rb, Re, bb, be, rt1, rt2, k⟩ := h
    have nd := scMid.nd
    refine ⟨_, (pss_cons (ps_par (i := 5) (j := 6) rfl nd rfl rfl (by decide) rfl rfl (pa_cons (pe_ix (ixK K rfl) (pv 0) pe_int (fun _ _ => rfl)) (pa_cons (pe_ix (ixK K rfl) (pv 0) pe_int (fun _ _ => rfl)) pa_nil)) rfl)
    (pss_cons (ps_set (i := 7) nd rfl (Or.inl rfl) (pe_fn htop_square (hr.mono (by decide)) rfl (pa_cons (pv 1) (pa_cons (pv 4) pa_nil))))
    (pss_cons (ps_set (i := 8) nd rfl (Or.inl rfl) (pe_fn hlead_of (hr.mono (by decide)) rfl (pa_cons (pv 1) pa_nil)))
    (pss_cons (ps_set (i := 9) nd rfl (Or.inl rfl) (pe_lstA pa_nil))
    (pss_cons (ps_for PassesOwn.never rfl (pi_range2 rfl (B.at "range") (pa_cons pe_int (pa_cons (pe_op op_add (pv 8) pe_int) pa_nil))) (pg_name (i := 10) nd rfl (Or.inl rfl))
    (pss_cons (ps_set (i := 11) nd rfl (Or.inl rfl) (pe_fn hplus_whole (hr.mono (by decide)) rfl (pa_cons (pv 2) (pa_cons (pe_op op_mulG (pv 5) (pe_op op_sub (pe_op op_mulG pe_int (pv 10)) pe_int)) pa_nil))))
    (pss_cons (ps_set (i := 12) nd rfl (Or.inl rfl) (pe_fn hplus_whole (hr.mono (by decide)) rfl (pa_cons (pv 3) (pa_cons (pe_op op_mulG (pv 6) (pe_op op_add (pe_op op_mulG pe_int (pe_op op_sub (pv 8) (pv 10))) pe_int)) pa_nil))))
    (pss_one (ps_expr (peApp K rfl (pv 9) (pa_cons (pe_fn hleast (hr.mono (by decide)) rfl (pa_cons (pe_lstA (pa_cons (pv 11) (pa_cons (pv 7) (pa_cons (pv 12) pa_nil)))) pa_nil)) pa_nil)))))))
    (pss_one (ps_ret (pv 9)))))))), ?_⟩
    obtain ⟨ma, mb, rfl, hma, hmb⟩ := mach_inv rm
    have r50 := okm.r1
    have f50 := okm.f1
    have lr := okm.len
    have l100 := lead_100 okn
    refine ⟨_, rfl, .inr ⟨ma, _, 1, .int r, rfl, rfl, hma, rfl, _, rfl, .inr ⟨ma, _, 2, .int f, rfl, rfl, hma, rfl, _, _, rfl, ?_⟩⟩⟩
    refine ⟨_, rfl, _, rfl, iv, ns, sp, rate, rfl, ri, sp1, sp2, rt1, rt2, fun tv H1 Rt1 s1 => ?_⟩
    refine ⟨_, rfl, iv, ns, sp, rfl, RD.mono s1 _ ri, okn.ne, by rw [okn.len]; omega, fun H2 s2 => ?_⟩
    refine ⟨smallN _ (Nat.le_of_ble_eq_true rfl), fun D H3 n3 => ?_⟩
    have s13 := s1.trans (s2.trans n3.same)
    have nD : H D = none := by
      cases e : H D with
      | none => rfl
      | some o => have := (s1.trans s2) _ _ e; rw [n3.no] at this; cases this
    refine ⟨_, rfl, _, _, rfl, rfl, _, _, rfl, ⟨by omega, by omega, by omega, by omega⟩, ?_⟩
    have eN : (((leadN ns : Int) + 1) - 1).toNat = leadN ns := by omega
    rw [eN]
    have tb : Bd 2000 (topR rate sp) := (Ow.topR_bd sp1 sp2 rt1 rt2).mono (by decide)
    refine for_range (Pv := fun i σ H4 => Same H H4 ∧ RatV K H4 tv (topR rate sp) ∧ ∃ zs v1 v2 v3, H4 D = some (.lst zs) ∧ RDs K H4 zs (((List.range i).map (midR r f (leadN ns) (topR rate sp) b e)).map ratD) ∧ σ = [some (.ref ma), some iv, some bv, some ev, some (.int rate), some (.int r), some (.int f), some tv, some (.int (leadN ns)), some (.ref D), v1, v2, v3]) ?_ ?_ ?_
    · exact ⟨s13, Rt1.go (s2.trans n3.same), [], none, none, none, n3.at', rds_nil, rfl⟩
    · rintro i σ H4 hi4 ⟨s4, Rt4, zs, v1, v2, v3, dz, rz, rfl⟩
      have lz := rz.length
      rw [List.length_map, List.length_map, List.length_range] at lz
      have hb1 := rise_bd r50.1 r50.2 hi4 l100
      have hb2 := fall_bd f50.1 f50.2 hi4 l100
      refine ⟨_, rfl, _, rfl, _, rfl, _, _, rfl, rfl, .of_left (intBits_le_64 (by decide) (by decide)), _, _, rfl, rfl, _, _, rfl, rfl, .of_left (intBits_le_64 (by omega) (by omega)), ?_⟩
      refine ⟨bv, b, _, rfl, Rb.go s4, bb.mono (by decide), (by rw [pow24]; omega), fun u1 H5 ru1 s5 => ?_⟩
      refine ⟨_, rfl, _, rfl, _, rfl, _, rfl, _, _, rfl, rfl, _, _, rfl, rfl, .of_left (intBits_le_64 (by decide) (by decide)), _, _, rfl, rfl, _, _, rfl, rfl, .of_left (intBits_le_64 (by omega) (by omega)), ?_⟩
      refine ⟨ev, e, _, rfl, Re.go (s4.trans s5), be.mono (by decide), (by rw [pow24]; omega), fun u2 H6 ru2 s6 => ?_⟩
      have s46 := s5.trans s6
      have dz6 := s46 _ _ dz
      refine ⟨_, rfl, .inl ⟨rfl, _, SqL.of dz6⟩, ?_⟩
      refine ⟨_, rfl, _, rfl, _, rfl, smallN _ (Nat.le_of_ble_eq_true rfl), fun lq H7 n7 => ?_⟩
      have R1 := ru1.go (s6.trans n7.same)
      have R2 := (Rt4.go s46).go n7.same
      have R3 := ru2.go n7.same
      refine ⟨lq, [u1, tv, u2], [_, _, _], rfl, SqL.of n7.at', ⟨R1, (add_bd bb (by rw [pow24]; omega)).mono (by decide), R2, tb, R3, (add_bd be (by rw [pow24]; omega)).mono (by decide), trivial⟩, by simp, fun c v q e1 e2 hq => ?_⟩
      have hqe : midR r f (leadN ns) (topR rate sp) b e i = q := by
        refine mn3 ?_ (hq _ (by simp)) (hq _ (by simp)) (hq _ (by simp))
        match c, e2 with
        | 0, e2 => cases e2; exact .inl rfl
        | 1, e2 => cases e2; exact .inr (.inl rfl)
        | 2, e2 => cases e2; exact .inr (.inr rfl)
      have Rv : RatV K H7 v q := by
        match c, e1, e2 with
        | 0, e1, e2 => cases e1; cases e2; exact R1
        | 1, e1, e2 => cases e1; cases e2; exact R2
        | 2, e1, e2 => cases e1; cases e2; exact R3
      have s47 := s46.trans n7.same
      have dz7 := n7.same _ _ dz6
      refine ⟨D, zs, _, rfl, rfl, dz7, smallL _ (by omega), ?_⟩
      have h8 := RDs.snocT dz7 (RDs.mono s47 _ rz) Rv.rd (noLs_rat _) (ratD_no _)
      have Rt8 : RatV K (L2.upd H7 D (.lst (zs ++ [v]))) tv (topR rate sp) := by
        obtain ⟨ta, rfl, ht⟩ := R2
        exact ⟨ta, rfl, ht.t (.updL dz7)⟩
      refine ⟨fun b o e => ?_, Rt8, _, _, _, _, upd_same, ?_, rfl⟩
      · rw [upd_ne (ne_of_none e nD)]; exact s47 b o (s4 b o e)
      · rw [range_snoc, List.map_append, hqe]
        exact h8
    · rintro σ H4 ⟨s4, Rt4, zs, v1, v2, v3, dz, rz, rfl⟩
      exact ⟨_, rfl, k D zs H4 nD dz rz s4⟩
abbrev sMidL : Stmt := top 64
theorem scMidL : FnScope ["_law_machine_here", "_law_line_here", "_law_begin", "_law_end", "_law_rate", "_law_lead_here", "_law_found", "_law_k", "_law_rises", "_law_falls"] ["_law_machine_here", "_law_line_here", "_law_begin", "_law_end", "_law_rate"] (defScope sMidL) := ⟨rfl, rfl, rfl, by decide +kernel, rfl, by decide +kernel, by decide +kernel⟩
theorem ratZ {H : Hp} {a : Addr} {z : Int} (h : SqT K H a [.int z, .int 1]) : RatV K H (.ref a) (z : Rat) := by
  refine ⟨a, rfl, ?_⟩
  rw [Rat.num_intCast, Rat.den_intCast]; exact h
theorem z_bd {z : Int} (h : z.natAbs ≤ 50 * 201) : Bd 100 (z : Rat) := ⟨by rw [Rat.num_intCast]; exact Nat.lt_of_le_of_lt h (by decide), by rw [Rat.den_intCast]; decide⟩
theorem ok_midL (F : FA K mg "_law_middles" sMidL) (B : Blt mg) (hL_top : FnHas P w K mg base "_law_top" 2 (spTopL K)) (hL_lead : FnHas P w K mg base "_law_lead" 1 (spLead K)) (hL_sum : FnHas P w K mg base "_law_sum" 2 (spR2 (· + ·) K)) (hL_min : FnHas P w K mg base "_law_min" 2 (spLeast K)) : FnHas P w K mg base "_law_middles" 3 (spMid K) := by
  refine F.has scMidL (fun vs H Q E h => ?_) (fun _ _ _ _ _ _ us hl => match us, hl with | [_, _, _, _, _], _ => rfl) (fun fa cdv A outer s H vs Q E hr h => ?_)
  · obtain ⟨m, iv, bv, ev, rate, rs, r, f, j, t, ns, sp, b, e, rfl, _⟩ := h
    rfl
  · obtain ⟨m, iv, bv, ev, rate, rs, r, f, j, t, ns, sp, b, e, rfl, rm, okm, ri, okn, sp1, sp2, Rb, Re, bb, be, rt1, rt2, k⟩ := h
    have nd := scMidL.nd
    refine ⟨_, (pss_cons (ps_set (i := 5) nd rfl (Or.inl rfl) (pe_fn hL_lead (hr.mono (by decide)) rfl (pa_cons (pv 1) pa_nil)))
    (pss_cons (ps_set (i := 6) nd rfl (Or.inl rfl) (pe_lstA pa_nil))
    (pss_cons (ps_for PassesOwn.never rfl (pi_range2 rfl (B.at "range") (pa_cons pe_int (pa_cons (pe_op op_add (pv 5) pe_int) pa_nil))) (pg_name (i := 7) nd rfl (Or.inl rfl))
    (pss_cons (ps_set (i := 8) nd rfl (Or.inl rfl) (pe_fn hL_sum (hr.mono (by decide)) rfl (pa_cons (pv 2) (pa_cons (pe_tupA (pa_cons (pe_op op_mulG (pe_ix (ixK K rfl) (pv 0) pe_int (fun _ _ => rfl)) (pe_op op_sub (pe_op op_mulG pe_int (pv 7)) pe_int)) (pa_cons pe_int pa_nil))) pa_nil))))
    (pss_cons (ps_set (i := 9) nd rfl (Or.inl rfl) (pe_fn hL_sum (hr.mono (by decide)) rfl (pa_cons (pv 3) (pa_cons (pe_tupA (pa_cons (pe_op op_mulG (pe_ix (ixK K rfl) (pv 0) pe_int (fun _ _ => rfl)) (pe_op op_add (pe_op op_mulG pe_int (pe_op op_sub (pv 5) (pv 7))) pe_int)) (pa_cons pe_int pa_nil))) pa_nil))))
    (pss_one (ps_expr (peApp K rfl (pv 6) (pa_cons (pe_fn hL_min (hr.mono (by decide)) rfl (pa_cons (pe_lstA (pa_cons (pv 8) (pa_cons (pv 9) (pa_cons (pe_fn hL_top (hr.mono (by decide)) rfl (pa_cons (pv 1) (pa_cons (pv 4) pa_nil))) pa_nil)))) pa_nil)) pa_nil)))))))
    (pss_one (ps_ret (pv 6)))))), ?_⟩
    obtain ⟨ma, mb, rfl, hma, hmb⟩ := mach_inv rm
    have r50 := okm.r1
    have f50 := okm.f1
    have lr := okm.len
    have l100 := lead_100 okn
    refine ⟨_, rfl, iv, ns, sp, rfl, ri, okn.ne, by rw [okn.len]; omega, fun H2 s2 => ?_⟩
    refine ⟨smallN _ (Nat.le_of_ble_eq_true rfl), fun D H3 n3 => ?_⟩
    have s13 := s2.trans n3.same
    have nD : H D = none := by
      cases e : H D with
      | none => rfl
      | some o => have := s2 _ _ e; rw [n3.no] at this; cases this
    refine ⟨_, rfl, _, _, rfl, rfl, _, _, rfl, ⟨by omega, by omega, by omega, by omega⟩, ?_⟩
    have eN : (((leadN ns : Int) + 1) - 1).toNat = leadN ns := by omega
    rw [eN]
    have tb : Bd 2000 (topR rate sp) := (Ow.topR_bd sp1 sp2 rt1 rt2).mono (by decide)
    refine for_range (Pv := fun i σ H4 => Same H H4 ∧ ∃ zs v1 v2 v3, H4 D = some (.lst zs) ∧ RDs K H4 zs (((List.range i).map (midR r f (leadN ns) (topR rate sp) b e)).map ratD) ∧ σ = [some (.ref ma), some iv, some bv, some ev, some (.int rate), some (.int (leadN ns)), some (.ref D), v1, v2, v3]) ?_ ?_ ?_
    · exact ⟨s13, [], none, none, none, n3.at', rds_nil, rfl⟩
    · rintro i σ H4 hi4 ⟨s4, zs, v1, v2, v3, dz, rz, rfl⟩
      have lz := rz.length
      rw [List.length_map, List.length_map, List.length_range] at lz
      have hb1 := rise_bd r50.1 r50.2 hi4 l100
      have hb2 := fall_bd f50.1 f50.2 hi4 l100
      refine ⟨_, rfl, _, rfl, .inr ⟨ma, _, 1, .int r, rfl, rfl, hma.go s4, rfl, _, rfl, _, _, rfl, rfl, .of_left (intBits_le_64 (by decide) (by decide)), _, _, rfl, rfl, _, _, rfl, rfl, .of_left (intBits_le_64 (by omega) (by omega)), ?_⟩⟩
      refine ⟨smallN _ (Nat.le_of_ble_eq_true rfl), fun t1 H5 n5 => ?_⟩
      refine ⟨bv, .ref t1, b, _, rfl, Rb.go (s4.trans n5.same), ratZ (SqT.of n5.at'), bb.mono (by decide), (z_bd (by omega)).mono (by decide), fun u1 H6 ru1 s6 => ?_⟩
      have s46 := n5.same.trans s6
      refine ⟨_, rfl, _, rfl, .inr ⟨ma, _, 2, .int f, rfl, rfl, hma.go (s4.trans s46), rfl, _, rfl, _, rfl, _, _, rfl, rfl, _, _, rfl, rfl, .of_left (intBits_le_64 (by decide) (by decide)), _, _, rfl, rfl, _, _, rfl, rfl, .of_left (intBits_le_64 (by omega) (by omega)), ?_⟩⟩
      refine ⟨smallN _ (Nat.le_of_ble_eq_true rfl), fun t2 H7 n7 => ?_⟩
      refine ⟨ev, .ref t2, e, _, rfl, Re.go (s4.trans (s46.trans n7.same)), ratZ (SqT.of n7.at'), be.mono (by decide), (z_bd (by omega)).mono (by decide), fun u2 H8 ru2 s8 => ?_⟩
      have s68 := n7.same.trans s8
      have s48 := s46.trans s68
      have dz8 := s48 _ _ dz
      refine ⟨_, rfl, .inl ⟨rfl, _, SqL.of dz8⟩, ?_⟩
      refine ⟨_, rfl, _, rfl, _, rfl, _, rfl, iv, ns, sp, rate, rfl, RD.mono (s4.trans s48) _ ri, sp1, sp2, rt1, rt2, fun tv H9 Rt9 s9 => ?_⟩
      refine ⟨smallN _ (Nat.le_of_ble_eq_true rfl), fun lq H10 n10 => ?_⟩
      have R1 := ru1.go (s68.trans (s9.trans n10.same))
      have R2 := ru2.go (s9.trans n10.same)
      have R3 := Rt9.go n10.same
      refine ⟨lq, [u1, u2, tv], [_, _, topR rate sp], rfl, SqL.of n10.at', ⟨R1, (add_bd bb (by rw [pow24]; omega)).mono (by decide), R2, (add_bd be (by rw [pow24]; omega)).mono (by decide), R3, tb, trivial⟩, by simp, fun c v q e1 e2 hq => ?_⟩
      have hqe : midR r f (leadN ns) (topR rate sp) b e i = q := by
        refine mn3 ?_ (hq _ (by simp)) (hq _ (by simp)) (hq _ (by simp))
        match c, e2 with
        | 0, e2 => cases e2; exact .inl rfl
        | 1, e2 => cases e2; exact .inr (.inr rfl)
        | 2, e2 => cases e2; exact .inr (.inl rfl)
      have Rv : RatV K H10 v q := by
        match c, e1, e2 with
        | 0, e1, e2 => cases e1; cases e2; exact R1
        | 1, e1, e2 => cases e1; cases e2; exact R2
        | 2, e1, e2 => cases e1; cases e2; exact R3
      have s410 := s48.trans (s9.trans n10.same)
      have dz10 := s410 _ _ dz
      refine ⟨D, zs, _, rfl, rfl, dz10, smallL _ (by omega), ?_⟩
      have h11 := RDs.snocT dz10 (RDs.mono s410 _ rz) Rv.rd (noLs_rat _) (ratD_no _)
      refine ⟨fun b o e => ?_, _, _, _, _, upd_same, ?_, rfl⟩
      · rw [upd_ne (ne_of_none e nD)]; exact s410 b o (s4 b o e)
      · rw [range_snoc, List.map_append, hqe]
        exact h11
    · rintro σ H4 ⟨s4, zs, v1, v2, v3, dz, rz, rfl⟩
      exact ⟨_, rfl, k D zs H4 nD dz rz s4⟩
end
end Lw



set_option Elab.async false
set_option linter.all false
set_option maxRecDepth 100000
set_option maxHeartbeats 1000000
set_option exponentiation.threshold 6000
namespace Lw
open PySem PySem.Spec PyProof.Rows L2 Rt Ln Wk
section
variable {P : Program} {w : World} {K : PySem.W.Frag} {mg : Str → Option Value} {base : Heap}
def plD (pl : List Int) : PyData := .tuple (pl.map PyData.int)
theorem plD_no (pl : List Int) : noL (plD pl) = true := by rw [plD, noL]; exact noLs_ints pl
theorem pl_inv {H : Hp} {v : V} {pl : List Int} (h : RD K H v (plD pl)) : ∃ a, v = .ref a ∧ SqT K H a (pl.map V.int) := by
  obtain ⟨a, xs, rfl, h1, h2⟩ := h.tup_inv
  rw [h2.ints_inv] at h1
  exact ⟨a, rfl, h1⟩
theorem pl_rd {H : Hp} {a : Addr} {pl : List Int} (h : SqT K H a (pl.map V.int)) : RD K H (.ref a) (plD pl) := rd_tup h (rds_ints pl)
theorem BagX.putL {p l : Addr} {H H1 : Hp} {xs : List V} (b : BagX p H H1) (hp : l ≠ p) (nl : H l = none) : BagX p H (L2.upd H1 l (.lst xs)) := by
  refine ⟨?_, fun c o n e => ?_⟩
  · obtain ⟨c', m', e, ok⟩ := b.bag
    exact ⟨c', m', by rw [upd_ne hp.symm]; exact e, ok⟩
  · rw [upd_ne (ne_of_none e nl)]; exact b.same c o n e
def spPl (K : PySem.W.Frag) : Sp := fun vs H Q _ => ∃ p m rs r f j t, vs = [.ref p, m] ∧ IsBag H p ∧ RD K H m (machD rs r f j t) ∧ OkM rs r f j t ∧ ∀ v pl H', RD K H' v (plD pl) → OnR rs pl → BagX p H H' → Q v H'
abbrev sPl : Stmt := top 52
theorem scPl : FnScope ["_law_bag_here", "_law_machine_here"] ["_law_bag_here", "_law_machine_here"] (defScope sPl) := ⟨rfl, rfl, rfl, by decide +kernel, rfl, by decide +kernel, by decide +kernel⟩
theorem ok_pl (F : FA K mg "_law_place" sPl) (B : Blt mg) (hL_take : FnHas P w K mg base "_law_take" 1 spTake) : FnHas P w K mg base "_law_place" 2 (spPl K) := by
  refine F.has scPl (fun vs H Q E h => ?_) (fun _ _ _ _ _ _ us hl => match us, hl with | [_, _], _ => rfl) (fun f cdv A outer s H vs Q E hr h => ?_)
  · obtain ⟨p, m, rs, r, f, j, t, rfl, _⟩ := h
    rfl
  · obtain ⟨p, m, rs, r, f, j, t, rfl, bg, rm, okr, k⟩ := h
    have nd := scPl.nd
    refine ⟨_, (pss_one (ps_ret (pe_callTy (x := "tuple") (tupleK K rfl) rfl (B.at "tuple") PyProof.Rows.boot_tuple (pa_cons (pe_comp (N := ["_law_rail", "_law_bag_here"]) (js := [none, some 0]) rfl rfl rfl (piT K rfl (pe_ix (ixK K rfl) (pv 1) pe_int (fun _ _ => rfl))) (fun _ _ _ _ _ => (pg_name (i := 0) (show List.Nodup (["_law_rail", "_law_bag_here"] : List Str) by decide +kernel) rfl (Or.inl rfl))) (fun _ _ _ _ _ => pts_nil) (fun _ _ _ _ _ => (pe_fn hL_take (hr.mono (by decide)) rfl (pa_cons (pv 1) (pa_cons (pe_op op_add (pv 0) pe_int) pa_nil))))) pa_nil)))), ?_⟩
    obtain ⟨ma, mb, rfl, hma, hmb⟩ := mach_inv rm
    have lr := okr.len
    refine ⟨_, rfl, .inr ⟨ma, _, 0, .ref mb, rfl, rfl, hma, atI_of (Int.le_refl 0) rfl, mb, rfl, ⟨_, hmb⟩, fun D H1 n1 => ?_⟩⟩
    refine comp_rdB (K := K) (J := Itt K mb) (p := p) (H := H) rs.length _ n1 bg (by omega) (fun i => .int (rs.getD i 0)) (fun i H2 hi b2 => ?_) (fun H2 b2 => ?_) (fun i d => ∃ z r, d = .int z ∧ rs[i]? = some r ∧ 0 ≤ z ∧ z ≤ r) ?_ ?_
    · have hm2 := hmb.t (BagX.t bg b2)
      have e : (rs.map V.int)[i]? = some (.int (rs.getD i 0)) := by
        rw [List.getElem?_map, List.getD_eq_getElem?_getD, List.getElem?_eq_getElem hi]; rfl
      exact ⟨⟨_, _, hm2, e⟩, fun y H3 ⟨e3, y3⟩ => ⟨e3, by have := y3 _ hm2; rw [e] at this; exact (Option.some.inj this).symm⟩⟩
    · exact ⟨_, hmb.t (BagX.t bg b2), by rw [List.length_map]; exact Nat.le_refl _⟩
    · intro i H2 Q' hi b2 hq
      have er : rs[i]? = some (rs.getD i 0) := by rw [List.getD_eq_getElem?_getD, List.getElem?_eq_getElem hi]; rfl
      obtain ⟨r0, r1⟩ := okr.rl _ (List.mem_of_getElem? er)
      refine ⟨_, rfl, _, rfl, _, _, rfl, rfl, p, _, rfl, b2.bag, by omega, by omega, fun z H3 z0 z1 b3 => ?_⟩
      exact hq _ _ _ ⟨z, _, rfl, er, z0, by omega⟩ rfl (rd_int z) b3
    · intro H2 ys ds b2 d2 r2 l2 nl pd
      have hds : ∃ pl : List Int, ds = pl.map PyData.int ∧ OnR rs pl := by
        have key : ∀ (ds : List PyData), (∀ d ∈ ds, ∃ z : Int, d = .int z) → ∃ pl : List Int, ds = pl.map PyData.int := by
          intro ds
          induction ds with
          | nil => exact fun _ => ⟨[], rfl⟩
          | cons d ds ih =>
            intro h
            obtain ⟨z, rfl⟩ := h d (.head _)
            obtain ⟨pl, rfl⟩ := ih fun x hx => h x (.tail _ hx)
            exact ⟨z :: pl, rfl⟩
        obtain ⟨pl, rfl⟩ := key ds fun d hd => by
          obtain ⟨i, hi⟩ := List.mem_iff_getElem?.mp hd
          obtain ⟨z, _, e, _⟩ := pd i d hi
          exact ⟨z, e⟩
        refine ⟨pl, rfl, by simpa using l2, fun i x r e1 e2 => ?_⟩
        obtain ⟨z, r', e, er, h0, h1⟩ := pd i (.int x) (by rw [List.getElem?_map, e1]; rfl)
        cases e
        rw [e2] at er
        cases er
        exact ⟨h0, h1⟩
      obtain ⟨pl, rfl, on⟩ := hds
      refine ⟨D, _, rfl, .inl ⟨SqL.of d2, fun t H3 n3 => ?_⟩⟩
      have et := n3.at'
      rw [r2.ints_inv] at et
      exact k (.ref t) pl H3 (pl_rd (SqT.of et)) on (b2.trans (.ofSame b2.bag n3.same))
def spLnM (K : PySem.W.Frag) : Sp := fun vs H Q _ => ∃ p m rs r f j t x pl mo, vs = [.ref p, m, x, .int mo] ∧ IsBag H p ∧ RD K H m (machD rs r f j t) ∧ OkM rs r f j t ∧ RD K H x (plD pl) ∧ OnR rs pl ∧ 1 ≤ mo ∧ mo ≤ 100 ∧ ∀ v ns sp H', RD K H' v (lineD ns sp) → OkL rs.length 100 ns → 1 ≤ sp → sp ≤ 20 → OnR rs (addZ pl ns) → BagX p H H' → Q v H'
/-- steps that stay on the rails -/
def Stp (rs pl is : List Int) (mo : Int) : Prop := ∀ (j : Nat) (z a r : Int), is[j]? = some z → pl[j]? = some a → rs[j]? = some r → 0 ≤ a + z ∧ a + z ≤ r ∧ (z.natAbs : Int) ≤ mo
theorem Stp.on {rs pl is : List Int} {mo : Int} (h : Stp rs pl is mo) (lp : pl.length = rs.length) (ls : is.length = pl.length) : OnR rs (addZ pl is) := by
  refine ⟨by rw [addZ_len ls]; exact lp, ?_⟩
  intro j x r ej er'
  have hj : j < pl.length := by
    have := (List.getElem?_eq_some_iff.mp ej).1
    rw [addZ_len ls] at this
    exact this
  have ej2 := addZ_get (List.getElem?_eq_getElem hj) (List.getElem?_eq_getElem (show j < is.length by omega))
  rw [ej] at ej2
  have ej3 := Option.some.inj ej2
  have := h j _ _ r (List.getElem?_eq_getElem (show j < is.length by omega)) (List.getElem?_eq_getElem hj) er'
  omega
theorem Stp.bd {rs pl is : List Int} {mo : Int} (h : Stp rs pl is mo) (lp : pl.length = rs.length) (ls : is.length = pl.length) : ∀ z ∈ is, (z.natAbs : Int) ≤ mo := fun z hz' => by
  obtain ⟨j, hj⟩ := List.mem_iff_getElem?.mp hz'
  have hjl := (List.getElem?_eq_some_iff.mp hj).1
  exact (h j z _ _ hj (List.getElem?_eq_getElem (show j < pl.length by omega)) (List.getElem?_eq_getElem (show j < rs.length by omega))).2.2
theorem Stp.snoc {rs pl is : List Int} {mo z a r : Int} (h : Stp rs pl is mo) (ea : pl[is.length]? = some a) (er : rs[is.length]? = some r) (hz : 0 ≤ a + z ∧ a + z ≤ r ∧ (z.natAbs : Int) ≤ mo) : Stp rs pl (is ++ [z]) mo := by
  intro j z' a' r' ej ea' er'
  by_cases hj : j < is.length
  · rw [List.getElem?_append_left hj] at ej
    exact h j z' a' r' ej ea' er'
  · have hj2 : j = is.length := by
      have := (List.getElem?_eq_some_iff.mp ej).1
      rw [List.length_append] at this
      have : j < is.length + 1 := this
      omega
    rw [hj2, List.getElem?_append_right (Nat.le_refl _), Nat.sub_self] at ej
    cases ej
    rw [hj2] at ea' er'
    rw [ea] at ea'
    rw [er] at er'
    cases ea'
    cases er'
    exact hz
theorem Stp.set {rs pl is : List Int} {mo z a r : Int} {i : Nat} (h : Stp rs pl is mo) (ea : pl[i]? = some a) (er : rs[i]? = some r) (hz : 0 ≤ a + z ∧ a + z ≤ r ∧ (z.natAbs : Int) ≤ mo) : Stp rs pl (is.set i z) mo := by
  intro j z' a' r' ej ea' er'
  by_cases hj : j = i
  · subst hj
    rw [ea] at ea'
    rw [er] at er'
    cases ea'
    cases er'
    have hl : j < is.length := by
      have := (List.getElem?_eq_some_iff.mp ej).1
      rwa [List.length_set] at this
    rw [List.getElem?_set_self hl] at ej
    cases ej
    exact hz
  · rw [List.getElem?_set_ne (Ne.symm hj)] at ej
    exact h j z' a' r' ej ea' er'
abbrev sLnM : Stmt := top 53
theorem scLnM : FnScope ["_law_bag_here", "_law_machine_here", "_law_place_here", "_law_most", "_law_steps", "_law_flat", "_law_axis", "_law_stand_here", "_law_low", "_law_high"] ["_law_bag_here", "_law_machine_here", "_law_place_here", "_law_most"] (defScope sLnM) := ⟨rfl, rfl, rfl, by decide +kernel, rfl, by decide +kernel, by decide +kernel⟩
theorem ok_lnM (F : FA K mg "_law_line" sLnM) (B : Blt mg) (hL_take : FnHas P w K mg base "_law_take" 1 spTake) : FnHas P w K mg base "_law_line" 2 (spLnM K) := by
  refine F.has scLnM (fun vs H Q E h => ?_) (fun _ _ _ _ _ _ us hl => match us, hl with | [_, _, _, _], _ => rfl) (fun fa cdv A outer s H vs Q E hr h => ?_)
  · obtain ⟨p, m, rs, r, f, j, t, x, pl, mo, rfl, _⟩ := h
    rfl
  · obtain ⟨p, m, rs, r, f, j, t, x, pl, mo, rfl, bg, rm, okr, rx, on, mo1, mo2, k⟩ := h
    have nd := scLnM.nd
    refine ⟨_, (pss_cons (ps_set (i := 4) nd rfl (Or.inl rfl) (pe_lstA pa_nil))
    (pss_cons (ps_set (i := 5) nd rfl (Or.inl rfl) (pe_fn hL_take (hr.mono (by decide)) rfl (pa_cons (pv 0) (pa_cons pe_int pa_nil))))
    (pss_cons (ps_for PassesOwn.never rfl (pi_enum K rfl false rfl (B.at "enumerate") (pa_cons (pv 2) pa_nil)) (pgT K rfl (n := 2) rfl (pgs_cons (pg_name (i := 6) nd rfl (Or.inl rfl)) (pgs_cons (pg_name (i := 7) nd rfl (Or.inl rfl)) pgs_nil)))
    (pss_cons (ps_set (i := 8) nd rfl (Or.inl rfl) (pe_callB (x := "max") (call_max2 rfl) rfl (B.at "max") PyProof.Rows.boot_max (pa_cons pe_int (pa_cons (pe_op op_sub (pv 7) (pv 3)) pa_nil))))
    (pss_cons (ps_set (i := 9) nd rfl (Or.inl rfl) (pe_callB (x := "min") (call_min2 rfl) rfl (B.at "min") PyProof.Rows.boot_min (pa_cons (pe_ix (ixK K rfl) (pe_ix (ixK K rfl) (pv 1) pe_int (fun _ _ => rfl)) (pv 6) (fun _ _ => rfl)) (pa_cons (pe_op op_add (pv 7) (pv 3)) pa_nil))))
    (pss_cons (ps_expr (peApp K rfl (pv 4) (pa_cons (pe_op op_sub (pe_op op_add (pv 8) (pe_fn hL_take (hr.mono (by decide)) rfl (pa_cons (pv 0) (pa_cons (pe_op op_add (pe_op op_sub (pv 9) (pv 8)) pe_int) pa_nil)))) (pv 7)) pa_nil)))
    (pss_one (ps_if (pt_cmpR (eqK K rfl hr.units) (pv 5) (pv 6) (nomark _))
    (pss_one (ps_asg pe_int (pg_sub (pv 4) (pv 6) set_list)))
    pss_nil))))))
    (pss_cons (ps_mid (ps_if (pt_not (pt_val (pe_callB (x := "any") (anyIK K rfl rfl) rfl (B.at "any") PyProof.Rows.boot_any (pa_cons (pv 4) pa_nil))))
    (pss_cons (ps_set (i := 6) nd rfl (Or.inl rfl) (pe_fn hL_take (hr.mono (by decide)) rfl (pa_cons (pv 0) (pa_cons (pe_callB (x := "len") (lenK K rfl) rfl (B.at "len") PySem.boot_len (pa_cons (pv 4) pa_nil)) pa_nil))))
    (pss_one (ps_asg (pe_op op_sub pe_int (pe_op op_mulG pe_int (pe_callTy (x := "int") call_int1 rfl (B.at "int") PyProof.Rows.boot_int (pa_cons (pe_cmpR op_gt (pe_ix (ixK K rfl) (pv 2) (pv 6) (fun _ _ => rfl)) pe_int (nomark _)) pa_nil)))) (pg_sub (pv 4) (pv 6) set_list))))
    pss_nil))
    (pss_one (ps_ret (pe_tupA (pa_cons pe_str (pa_cons (pe_callTy (x := "tuple") (tupleK K rfl) rfl (B.at "tuple") PyProof.Rows.boot_tuple (pa_cons (pv 4) pa_nil)) (pa_cons (pe_op op_add pe_int (pe_fn hL_take (hr.mono (by decide)) rfl (pa_cons (pv 0) (pa_cons pe_int pa_nil)))) pa_nil)))))))))), ?_⟩
    have lr := okr.len
    have lp := on.len
    obtain ⟨ma, mb, rfl, hma, hmb⟩ := mach_inv rm
    obtain ⟨xa, rfl, hxa⟩ := pl_inv rx
    refine ⟨smallN _ (Nat.le_of_ble_eq_true rfl), fun l H1 n1 => ?_⟩
    have b1 : BagX p H H1 := .ofSame bg n1.same
    have lnp : l ≠ p := fun z => bg.ne (z ▸ n1.no)
    refine ⟨_, rfl, p, 4, rfl, b1.bag, by decide, by decide, fun fl H2 f0 f1 b2 => ?_⟩
    have b12 := b1.trans b2
    have t12 := BagX.t bg b12
    refine ⟨_, rfl, xa, rfl, ⟨_, hxa.t t12⟩, for_enum (K := K) (b := false) (a := xa) (xs := pl.map V.int) (fun i σ H3 => BagX p H H3 ∧ ∃ (is : List Int) (v1 v2 v3 v4 : Option V), H3 l = some (.lst (is.map V.int)) ∧ is.length = i ∧ Stp rs pl is mo ∧ σ = [some (.ref p), some (.ref ma), some (.ref xa), some (.int mo), some (.ref l), some (.int fl), v1, v2, v3, v4]) ?_ (fun i σ H3 _ h => hxa.t (BagX.t bg h.1)) ?_ ?_⟩
    · exact ⟨b12, [], none, none, none, none, b2.same _ _ lnp n1.at', rfl, fun j z a r e => by simp at e, rfl⟩
    · rintro i y σ H3 hy ⟨b3, is, v1, v2, v3, v4, dl, li, hz, rfl⟩ T H4 n4
      rw [List.getElem?_map] at hy
      obtain ⟨a, ea, rfl⟩ := Option.map_eq_some_iff.mp hy
      have hil : i < pl.length := (List.getElem?_eq_some_iff.mp ea).1
      obtain ⟨rl, er⟩ : ∃ rl, rs[i]? = some rl := ⟨_, List.getElem?_eq_getElem (show i < rs.length by omega)⟩
      obtain ⟨a0, a1⟩ := on.at' i a rl ea er
      obtain ⟨r0, r1⟩ := okr.rl rl (List.mem_of_getElem? er)
      have b4 : BagX p H H4 := b3.trans (.ofSame b3.bag n4.same)
      have t4 := BagX.t bg b4
      have dl4 := n4.same _ _ dl
      have atr : atI (rs.map V.int) (i : Int) = some (.int rl) := atI_of (by omega) (by rw [List.getElem?_map]; simp [er])
      refine ⟨T, _, rfl, SqT.of n4.at', rfl, _, _, rfl, _, _, rfl, rfl, ?_⟩
      refine ⟨_, rfl, _, rfl, _, _, rfl, rfl, _, _, rfl, ?_⟩
      obtain ⟨low, elow, lo0, lo1, lo2⟩ : ∃ low : Int, (if a - mo > 0 then a - mo else 0) = low ∧ 0 ≤ low ∧ a - mo ≤ low ∧ low ≤ a := ⟨_, rfl, by split <;> omega, by split <;> omega, by split <;> omega⟩
      rw [elow]
      refine ⟨_, rfl, .inr ⟨ma, _, 0, .ref mb, rfl, rfl, hma.t t4, rfl, _, rfl, .inr ⟨mb, _, _, .int rl, rfl, rfl, hmb.t t4, atr, _, rfl, _, rfl, _, _, rfl, rfl, _, _, rfl, ?_⟩⟩⟩
      obtain ⟨hi, ehi, hi0, hi1, hi2⟩ : ∃ hi : Int, (if a + mo < rl then a + mo else rl) = hi ∧ a ≤ hi ∧ hi ≤ rl ∧ hi ≤ a + mo := ⟨_, rfl, by split <;> omega, by split <;> omega, by split <;> omega⟩
      rw [ehi]
      refine ⟨_, rfl, .inl ⟨rfl, _, SqL.of dl4⟩, ?_⟩
      refine ⟨_, rfl, _, rfl, _, rfl, _, rfl, _, _, rfl, rfl, _, _, rfl, rfl, p, hi - low + 1, rfl, b4.bag, by omega, by omega, fun d H5 d0 d1 b5 => ?_⟩
      refine ⟨_, _, rfl, rfl, _, rfl, _, _, rfl, rfl, l, _, _, rfl, rfl, b5.same _ _ lnp dl4, ?_, ?_⟩
      · rw [List.length_map, li]
        have : (1000 : Nat) < sizeLine := by decide
        omega
      have b6 : BagX p H (L2.upd H5 l (.lst (is.map V.int ++ [.int (low + d - a)]))) := (b4.trans b5).putL lnp n1.no
      have e6 : (L2.upd H5 l (.lst (is.map V.int ++ [.int (low + d - a)]))) l = some (.lst ((is ++ [low + d - a]).map V.int)) := by rw [upd_same, List.map_append]; rfl
      generalize L2.upd H5 l (.lst (is.map V.int ++ [.int (low + d - a)])) = H6 at b6 e6 ⊢
      rw [← li] at ea er
      have st6 := hz.snoc ea er (z := low + d - a) (by omega)
      refine ⟨_, rfl, _, rfl, .inl ⟨_, _, rfl, rfl, _, rfl, ?_⟩⟩
      refine ite2 (fun hc => ?_) (fun hc => ?_)
      · have ix : ixN ((is ++ [low + d - a]).map V.int).length (i : Int) = some i := by
          unfold ixN
          rw [if_pos (by omega), if_pos (by rw [List.length_map, List.length_append]; show (i : Int) < ((is.length + 1 : Nat) : Int); omega)]; simp
        refine ⟨_, rfl, _, rfl, l, _, _, _, rfl, rfl, e6, ix, ?_⟩
        refine ⟨b6.putL lnp n1.no, (is ++ [low + d - a]).set i 0, _, _, _, _, by rw [upd_same, List.map_set], by rw [List.length_set, List.length_append, li]; rfl, ?_, rfl⟩
        rw [li] at ea er
        exact st6.set ea er (by omega)
      · exact ⟨b6, is ++ [low + d - a], _, _, _, _, e6, by rw [List.length_append, li]; rfl, st6, rfl⟩
    · rintro σ H3 ⟨b3, is, v1, v2, v3, v4, dl, li, hz, rfl⟩
      rw [List.length_map] at li
      have t3 := BagX.t bg b3
      refine ⟨fun σ H4 => BagX p H H4 ∧ ∃ (is : List Int) (v1 : Option V), H4 l = some (.lst (is.map V.int)) ∧ OkL rs.length 100 is ∧ OnR rs (addZ pl is) ∧ σ = [some (.ref p), some (.ref ma), some (.ref xa), some (.int mo), some (.ref l), some (.int fl), v1, v2, v3, v4], ?_, ?_⟩
      · refine ⟨_, rfl, l, is, rfl, .inl (SqL.of dl), _, rfl, ?_⟩
        cases ha : is.any (· != 0) with
        | false =>
          refine iteT ?_
          refine ⟨_, rfl, _, rfl, l, _, rfl, .inl (SqL.of dl), p, _, rfl, b3.bag, (by rw [List.length_map]; omega), (by rw [List.length_map]; omega), fun ax H4 a0 a1 b4 => ?_⟩
          rw [List.length_map] at a1
          have b34 := b3.trans b4
          have hax : ax.toNat < pl.length := by omega
          have ea := List.getElem?_eq_getElem hax
          have er := List.getElem?_eq_getElem (show ax.toNat < rs.length by omega)
          obtain ⟨q0, q1⟩ := on.at' _ _ _ ea er
          obtain ⟨r0, r1⟩ := okr.rl _ (List.mem_of_getElem? er)
          have ata : atI (pl.map V.int) ax = some (.int pl[ax.toNat]) := atI_of a0 (by rw [List.getElem?_map, ea]; rfl)
          generalize pl[ax.toNat] = qa at ea q0 q1 ata
          generalize rs[ax.toNat] = qr at er q1 r0 r1
          refine ⟨_, rfl, _, rfl, .inr ⟨xa, _, _, _, rfl, rfl, hxa.t (BagX.t bg b34), ata, ?_⟩⟩
          refine ⟨_, _, rfl, rfl, .inr ⟨_, rfl, ?_⟩⟩
          refine ⟨_, _, rfl, rfl, .of_left (intBits_le_64 (by decide) (by decide)), _, _, rfl, rfl, ?_⟩
          obtain ⟨y, ey, y1, y2, y3⟩ : ∃ y : Int, (1 - 2 * (if decide (qa > 0) = true then 1 else 0) : Int) = y ∧ y.natAbs = 1 ∧ 0 ≤ qa + y ∧ qa + y ≤ qr := by
            by_cases h : qa > 0
            · rw [decide_eq_true h]; exact ⟨-1, rfl, rfl, by omega, by omega⟩
            · rw [decide_eq_false h]; exact ⟨1, rfl, rfl, by omega, by omega⟩
          have dl4 := b4.same _ _ lnp dl
          have ix : ixN (is.map V.int).length ax = some ax.toNat := by
            unfold ixN
            rw [if_pos a0, if_pos (by rw [List.length_map]; omega)]
          refine ⟨_, rfl, _, rfl, l, _, _, _, rfl, rfl, dl4, ix, ?_⟩
          have st := hz.set (i := ax.toNat) ea er (z := y) (by omega)
          have ls : (is.set ax.toNat y).length = pl.length := by rw [List.length_set]; omega
          refine ⟨b34.putL lnp n1.no, is.set ax.toNat y, _, ?_, ⟨by omega, fun z hz' => ?_, ?_⟩, st.on lp ls, rfl⟩
          · rw [upd_same, ← List.map_set]
            simp only [ey]
          · have := st.bd lp ls z hz'; omega
          · exact ⟨y, List.mem_iff_getElem.mpr ⟨ax.toNat, by rw [List.length_set]; omega, by rw [List.getElem_set_self]⟩, by omega⟩
        | true =>
          refine iteF ?_
          have ls : is.length = pl.length := by omega
          refine ⟨b3, is, _, dl, ⟨by omega, fun z hz' => ?_, ?_⟩, hz.on lp ls, rfl⟩
          · have := hz.bd lp ls z hz'; omega
          · obtain ⟨z, hz', h0⟩ := List.any_eq_true.mp ha
            exact ⟨z, hz', by simpa using h0⟩
      rintro σ H4 ⟨b4, is, v1, dl, ok, on2, rfl⟩
      refine ⟨_, rfl, l, _, rfl, .inl ⟨SqL.of dl, fun q H5 n5 => ?_⟩⟩
      have b5 : BagX p H H5 := b4.trans (.ofSame b4.bag n5.same)
      have qp : q ≠ p := fun e => b4.bag.ne (e ▸ n5.no)
      refine ⟨_, rfl, p, 20, rfl, b5.bag, by decide, by decide, fun sp H6 p0 p1 b6 => ?_⟩
      refine ⟨_, _, rfl, rfl, smallN _ (Nat.le_of_ble_eq_true rfl), fun t H7 n7 => ?_⟩
      have b7 := b5.trans (b6.trans (.ofSame b6.bag n7.same))
      exact k (.ref t) is (1 + sp) H7 (rd_tup (SqT.of n7.at') (rds_cons (rd_str _) (rds_cons (rd_tup (SqT.of (n7.same _ _ (b6.same _ _ qp n5.at'))) (rds_ints is)) (rds_cons (rd_int _) rds_nil)))) ok (by omega) (by omega) on2 b7
end
end Lw



set_option Elab.async false
set_option linter.all false
set_option maxRecDepth 100000
set_option maxHeartbeats 1000000
set_option exponentiation.threshold 6000
namespace Lw
open PySem PySem.Spec PyProof.Rows L2 Rt Ln Wk
section
variable {P : Program} {w : World} {K : PySem.W.Frag} {mg : Str → Option Value} {base : Heap}
def OkS (z : Str) : Prop := ∀ c ∈ z.cps.toList, c < 0x110000
theorem OkS.app {a b : Str} (ha : OkS a) (hb : OkS b) : OkS (a ++ b) := fun c hc => by
  rw [PySem.Str.cps_append, Array.toList_append, List.mem_append] at hc
  exact hc.elim (ha c) (hb c)
theorem OkS.joined {sep : Str} (hs : OkS sep) : ∀ l : List Str, (∀ a ∈ l, OkS a) → OkS (PySem.Str.join sep l)
  | [], _ => fun c hc => by simp [PySem.Str.join, PySem.Str.empty] at hc
  | [x], h => h x (.head _)
  | x :: y :: r, h => ((h x (.head _)).app hs).app (OkS.joined hs (y :: r) fun a ha => h a (.tail _ ha))
theorem OkS.join {sep : Str} {l : List Str} (hs : OkS sep) (h : ∀ a ∈ l, OkS a) : OkS (Txt.join sep l) := by
  show OkS (Builtin.Str.glued sep l)
  rw [StrLaws.glued_eq_join]
  exact OkS.joined hs l h
theorem okd_str {n : Nat} {z : Str} (h : OkS z) : OkD n (.str z) := ⟨by
  show PyData.strOk z = true
  unfold PyData.strOk
  rw [Array.all_eq_true_iff_forall_mem]
  exact fun c hc => decide_eq_true (h c (by simpa using hc)), Nat.zero_le _⟩
theorem oks_of {n : Nat} {z : Str} (h : OkD n (.str z)) : OkS z := fun c hc => by
  have q : PyData.strOk z = true := h.lay
  unfold PyData.strOk at q
  rw [Array.all_eq_true_iff_forall_mem] at q
  exact of_decide_eq_true (q c (by simpa using hc))
theorem oks_lit {z : Str} (h : z.cps.all (· < 0x110000) = true) : OkS z := oks_of (n := 0) ⟨h, Nat.zero_le _⟩
theorem str_list2 : ∀ (ds : List PyData), (∀ d ∈ ds, ∃ z : Str, d = .str z ∧ z.length = 1 ∧ OkS z ∧ z.cps.toList.all (fun c => decide (97 ≤ c) && decide (c ≤ 122)) = true) → ∃ zs : List Str, ds = zs.map PyData.str ∧ ∀ z ∈ zs, z.length = 1 ∧ OkS z ∧ z.cps.toList.all (fun c => decide (97 ≤ c) && decide (c ≤ 122)) = true
  | [], _ => ⟨[], rfl, fun _ h => nomatch h⟩
  | d :: ds, h => by
    obtain ⟨z, rfl, e⟩ := h d (.head _)
    obtain ⟨zs, rfl, q⟩ := str_list2 ds fun x hx => h x (.tail _ hx)
    exact ⟨z :: zs, rfl, fun y hy => by
      rcases List.mem_cons.mp hy with rfl | hy
      · exact e
      · exact q y hy⟩
theorem abc_ok : OkS abc := oks_lit (by decide +kernel)
def lwC (c : Nat) : Bool := decide (97 ≤ c) && decide (c ≤ 122)
def nameB (s : Str) : Bool := (decide (1 ≤ s.length) && decide (s.length ≤ 8)) && s.cps.toList.all lwC
def othN (w s : Str) : Prop := (w = "tool" ∧ (s = "up" ∨ s = "down")) ∨ (w = "mark" ∧ nameB s = true)
def OthOk (d : PyData) : Prop := (∃ n, d = .tuple [.str "wait", .int n] ∧ 1 ≤ n ∧ n ≤ 1000) ∨ ∃ w s, d = .tuple [.str w, .str s] ∧ (w = "tool" ∨ w = "mark") ∧ OkD 0 (.str s) ∧ othN w s
theorem glue_cps : ∀ l : List Str, (PySem.Str.join ("" : Str) l).cps.toList = (l.map fun z => z.cps.toList).flatten
  | [] => by simp [PySem.Str.join, PySem.Str.empty]
  | [x] => by simp [PySem.Str.join]
  | x :: y :: r => by
    show ((x ++ ("" : Str)) ++ PySem.Str.join ("" : Str) (y :: r)).cps.toList = _
    rw [PySem.Str.cps_append, PySem.Str.cps_append, Array.toList_append, Array.toList_append, glue_cps (y :: r)]
    have : (("" : Str)).cps.toList = [] := by decide +kernel
    rw [this]
    simp
theorem name_glue {l : List Str} (h1 : 1 ≤ l.length) (h8 : l.length ≤ 8) (h : ∀ z ∈ l, z.length = 1 ∧ z.cps.toList.all lwC = true) : nameB (Txt.join ("" : Str) l) = true := by
  have e : (Txt.join ("" : Str) l).cps.toList = (l.map fun z => z.cps.toList).flatten := by
    show (Builtin.Str.glued ("" : Str) l).cps.toList = _
    rw [StrLaws.glued_eq_join]; exact glue_cps l
  have el : (Txt.join ("" : Str) l).length = l.length := by
    show (Txt.join ("" : Str) l).cps.size = _
    rw [← Array.length_toList, e, List.length_flatten, List.map_map]
    have : ∀ (l : List Str), (∀ z ∈ l, z.length = 1 ∧ z.cps.toList.all lwC = true) → (l.map (List.length ∘ fun z => z.cps.toList)).sum = l.length := by
      intro l
      induction l with
      | nil => intro _; rfl
      | cons a r ih =>
        intro h
        rw [List.map_cons, List.sum_cons, ih fun z hz => h z (.tail _ hz), List.length_cons]
        have := (h a (.head _)).1
        have e2 : (List.length ∘ fun z : Str => z.cps.toList) a = 1 := by
          show a.cps.toList.length = 1
          rw [Array.length_toList]; exact this
        rw [e2, Nat.add_comm]
    exact this l h
  unfold nameB
  rw [el, e, decide_eq_true h1, decide_eq_true h8, Bool.true_and, Bool.true_and, List.all_eq_true]
  intro c hc
  obtain ⟨cs, hcs, hc2⟩ := List.mem_flatten.mp hc
  obtain ⟨z, hz, rfl⟩ := List.mem_map.mp hcs
  exact List.all_eq_true.mp (h z hz).2 c hc2
theorem OthOk.it {d : PyData} (h : OthOk d) : itR d none := by
  rcases h with ⟨n, rfl, _⟩ | ⟨w, s, rfl, hw | hw, _⟩
  · exact .inr ⟨_, _, rfl, .inl rfl, rfl, rfl⟩
  · exact .inr ⟨_, _, rfl, .inr (.inl hw), rfl, rfl⟩
  · exact .inr ⟨_, _, rfl, .inr (.inr hw), rfl, rfl⟩
def spOt2 (K : PySem.W.Frag) : Sp := fun vs H Q _ => ∃ (p : Addr), vs = [.ref p] ∧ IsBag H p ∧ ∀ v d H', RD K H' v d → OthOk d → BagX p H H' → Q v H'
theorem ok_ot2 (F : FA K mg "_law_other" sOth) (B : Blt mg) (hL_take : FnHas P w K mg base "_law_take" 1 spTake) : FnHas P w K mg base "_law_other" 2 (spOt2 K) := by
  refine F.has scOth (fun vs H Q E h => ?_) (fun _ _ _ _ _ _ us hl => match us, hl with | [_], _ => rfl) (fun f cdv A outer s H vs Q E hr h => ?_)
  · obtain ⟨p, rfl, _⟩ := h
    rfl
  · obtain ⟨p, rfl, bg, k⟩ := h
    have nd := scOth.nd
    refine ⟨_, (pss_cons (ps_set (i := 1) nd rfl (Or.inl rfl) (pe_fn hL_take (hr.mono (by decide)) rfl (pa_cons (pv 0) (pa_cons pe_int pa_nil))))
    (pss_cons (ps_if (pt_cmpR (eqK K rfl hr.units) (pv 1) pe_int (nomark _))
    (pss_one (ps_ret (pe_tupA (pa_cons pe_str (pa_cons (pe_op op_add pe_int (pe_fn hL_take (hr.mono (by decide)) rfl (pa_cons (pv 0) (pa_cons (pe_ix (ixK K rfl) (pe_lstA (pa_cons pe_int (pa_cons pe_int pa_nil))) (pe_fn hL_take (hr.mono (by decide)) rfl (pa_cons (pv 0) (pa_cons pe_int pa_nil))) (fun _ _ => rfl)) pa_nil)))) pa_nil)))))
    pss_nil)
    (pss_cons (ps_if (pt_cmpR (eqK K rfl hr.units) (pv 1) pe_int (nomark _))
    (pss_one (ps_ret (pe_tupA (pa_cons pe_str (pa_cons (pe_ix (ixK K rfl) (pe_lstA (pa_cons pe_str (pa_cons pe_str pa_nil))) (pe_fn hL_take (hr.mono (by decide)) rfl (pa_cons (pv 0) (pa_cons pe_int pa_nil))) (fun _ _ => rfl)) pa_nil)))))
    pss_nil)
    (pss_cons (ps_set (i := 2) nd rfl (Or.inr rfl) pe_str)
    (pss_one (ps_ret (pe_tupA (pa_cons pe_str (pa_cons (peJoin K rfl pe_str (pa_cons (pe_comp (N := ["_law_turn", "_law_letters", "_law_bag_here"]) (js := [none, some 2, some 0]) rfl rfl rfl (pi_range1 rfl (B.at "range") (pa_cons (pe_op op_add pe_int (pe_fn hL_take (hr.mono (by decide)) rfl (pa_cons (pv 0) (pa_cons pe_int pa_nil)))) pa_nil)) (fun _ _ _ _ _ => (pg_name (i := 0) (show List.Nodup (["_law_turn", "_law_letters", "_law_bag_here"] : List Str) by decide +kernel) rfl (Or.inl rfl))) (fun _ _ _ _ _ => pts_nil) (fun _ _ _ _ _ => (pe_ix ix_str (pv 1) (pe_fn hL_take (hr.mono (by decide)) rfl (pa_cons (pv 2) (pa_cons pe_int pa_nil))) (fun _ _ => rfl)))) pa_nil)) pa_nil))))))))), ?_⟩
    refine ⟨_, rfl, p, 3, rfl, bg, by decide, by decide, fun so H1 s0 s1 b1 => ?_⟩
    refine ⟨_, rfl, .inl ⟨_, _, rfl, rfl, _, rfl, ?_⟩⟩
    refine ite2 (fun hc => ?_) (fun hc => ?_)
    · refine ⟨_, rfl, smallN _ (Nat.le_of_ble_eq_true rfl), fun c H2' n2' => ?_⟩
      have b2' : BagX p H1 H2' := .ofSame b1.bag n2'.same
      have cp : c ≠ p := fun z => b1.bag.ne (z ▸ n2'.no)
      refine ⟨_, rfl, p, 2, rfl, b2'.bag, by decide, by decide, fun i H3' i0 i1 b3' => ?_⟩
      have hi : ∃ z : Int, atI ([.int 1000, .int 2] : List V) i = some (.int z) ∧ 2 ≤ z ∧ z ≤ 1000 := by
        rcases (show i = 0 ∨ i = 1 by omega) with rfl | rfl
        · exact ⟨1000, rfl, by decide, by decide⟩
        · exact ⟨2, rfl, by decide, by decide⟩
      obtain ⟨z, ez, z2, z1000⟩ := hi
      refine .inl ⟨c, _, _, _, rfl, rfl, SqL.of (b3'.same _ _ cp n2'.at'), ez, ?_⟩
      refine ⟨p, z, rfl, b3'.bag, by omega, by omega, fun n H2 n0 n1 b2'' => ?_⟩
      have b2 := b2'.trans (b3'.trans b2'')
      refine ⟨_, _, rfl, rfl, smallN _ (Nat.le_of_ble_eq_true rfl), fun t H3 n3 => ?_⟩
      exact k (.ref t) _ H3 (rd_tup (SqT.of n3.at') (rds_cons (rd_str _) (rds_cons (rd_int _) rds_nil))) (.inl ⟨_, rfl, by omega, by omega⟩) (b1.trans (b2.trans (.ofSame b2.bag n3.same)))
    refine ⟨_, rfl, .inl ⟨_, _, rfl, rfl, _, rfl, ?_⟩⟩
    refine ite2 (fun hc => ?_) (fun hc => ?_)
    · refine ⟨smallN _ (Nat.le_of_ble_eq_true rfl), fun c H2 n2 => ?_⟩
      have b2 : BagX p H1 H2 := .ofSame b1.bag n2.same
      have cp : c ≠ p := fun z => b1.bag.ne (z ▸ n2.no)
      refine ⟨_, rfl, p, 2, rfl, b2.bag, by decide, by decide, fun i H3 i0 i1 b3 => ?_⟩
      have hi : ∃ z : Str, atI ([.str "up", .str "down"] : List V) i = some (.str z) ∧ OkD 0 (.str z) ∧ othN "tool" z := by
        rcases (show i = 0 ∨ i = 1 by omega) with rfl | rfl
        · exact ⟨"up", rfl, ⟨by decide +kernel, by decide +kernel⟩, .inl ⟨rfl, .inl rfl⟩⟩
        · exact ⟨"down", rfl, ⟨by decide +kernel, by decide +kernel⟩, .inl ⟨rfl, .inr rfl⟩⟩
      obtain ⟨z, ez, okz, onz⟩ := hi
      refine .inl ⟨c, _, _, _, rfl, rfl, SqL.of (b3.same _ _ cp n2.at'), ez, smallN _ (Nat.le_of_ble_eq_true rfl), fun t H4 n4 => ?_⟩
      exact k (.ref t) _ H4 (rd_tup (SqT.of n4.at') (rds_cons (rd_str _) (rds_cons (rd_str _) rds_nil))) (.inr ⟨_, _, rfl, .inl rfl, okz, onz⟩) (b1.trans (b2.trans (b3.trans (.ofSame b3.bag n4.same))))
    refine ⟨rfl, ?_⟩
    refine ⟨_, rfl, p, 8, rfl, b1.bag, by decide, by decide, fun n H2 n0 n1 b2 => ?_⟩
    refine ⟨_, _, rfl, rfl, _, rfl, by omega, by omega, fun D H3 nD => ?_⟩
    refine comp_rdB (K := K) (J := Itr 0 (1 + n).toNat) (p := p) (H := H2) (1 + n).toNat _ nD b2.bag (by omega) (fun i => .int (0 + (i : Int))) (fun i H3 hi _ => ⟨hi, fun y H4 ⟨e, q⟩ => ⟨e, q⟩⟩) (fun H3 _ => Nat.le_refl _) (fun _ d => ∃ z : Str, d = .str z ∧ z.length = 1 ∧ OkS z ∧ z.cps.toList.all (fun c => decide (97 ≤ c) && decide (c ≤ 122)) = true) ?_ ?_
    · intro i H3 Q' hi b3 hq
      refine ⟨_, rfl, _, rfl, p, 26, rfl, b3.bag, by decide, by decide, fun d H4 d0 d1 b4 => ?_⟩
      have hd : d.toNat < abc.cps.toList.length := by rw [abc_len]; omega
      refine ⟨abc, d, abc.cps.toList[d.toNat], rfl, rfl, by decide +kernel, atI_of d0 (List.getElem?_eq_getElem hd), ?_⟩
      have ok1 : OkS ⟨#[abc.cps.toList[d.toNat]]⟩ := fun c hc => by
        have hc' : c = abc.cps.toList[d.toNat] := List.mem_singleton.mp hc
        rw [hc']; exact abc_ok _ (List.getElem_mem hd)
      have ok2 : (⟨#[abc.cps.toList[d.toNat]]⟩ : Str).cps.toList.all (fun c => decide (97 ≤ c) && decide (c ≤ 122)) = true := by
        have := List.all_eq_true.mp (show abc.cps.toList.all (fun c => decide (97 ≤ c) && decide (c ≤ 122)) = true by decide +kernel) _ (List.getElem_mem hd)
        show ([abc.cps.toList[d.toNat]] : List Nat).all _ = true
        rw [List.all_cons, List.all_nil, Bool.and_true]; exact this
      exact hq _ _ _ ⟨_, rfl, rfl, ok1, ok2⟩ rfl (rd_str _) b4
    · intro H3 ys ds b3 d3 r3 l3 nl pd
      obtain ⟨zs, rfl, hz⟩ := str_list2 ds fun d hd => by
        obtain ⟨i, hi⟩ := List.mem_iff_getElem?.mp hd
        exact pd i d hi
      rw [strs_inv r3] at d3
      rw [List.length_map] at l3
      refine ⟨"", D, zs, rfl, rfl, SqL.of d3, fun z hz' => by rw [(hz z hz').1]; decide, by decide, by omega, smallN _ (Nat.le_of_ble_eq_true rfl), fun t H4 n4 => ?_⟩
      exact k (.ref t) _ H4 (rd_tup (SqT.of n4.at') (rds_cons (rd_str _) (rds_cons (rd_str _) rds_nil))) (.inr ⟨_, _, rfl, .inr rfl, okd_str (OkS.join (oks_lit (by decide +kernel)) fun a ha => (hz a ha).2.1), .inr ⟨rfl, name_glue (by omega) (by omega) fun z hz' => ⟨(hz z hz').1, (hz z hz').2.2⟩⟩⟩) (b1.trans (b2.trans (b3.trans (.ofSame b3.bag n4.same))))
end
end Lw



set_option Elab.async false
set_option linter.all false
set_option maxRecDepth 100000
set_option maxHeartbeats 1000000
set_option exponentiation.threshold 6000
namespace Lw
open PySem PySem.Spec PyProof.Rows L2 Rt Ln Wk
section
variable {P : Program} {w : World} {K : PySem.W.Frag} {mg : Str → Option Value} {base : Heap}
def RowW (ds : List PyData) (os : List Itm) : Prop := ∀ (i : Nat) (d : PyData), os[i]? = some none → ds[i]? = some d → OthOk d
theorem RowW.snoc {ds : List PyData} {os : List Itm} {d : PyData} {o : Itm} (h : RowW ds os) (hl : ds.length = os.length) (hd : o = none → OthOk d) : RowW (ds ++ [d]) (os ++ [o]) := by
  intro i x e1 e2
  rcases snoc_get e1 with h1 | ⟨h1, h1'⟩
  · rcases snoc_get e2 with h2 | ⟨h2, _⟩
    · exact h i x h1 h2
    · have := (List.getElem?_eq_some_iff.mp h1).1; omega
  · rcases snoc_get e2 with h2 | ⟨_, h2'⟩
    · have := (List.getElem?_eq_some_iff.mp h2).1; omega
    · subst h2'; exact hd h1'.symm
def spIts (K : PySem.W.Frag) : Sp := fun vs H Q _ => ∃ p m rs r f j t plv pl many most, vs = [.ref p, m, plv, .int many, .int most] ∧ IsBag H p ∧ RD K H m (machD rs r f j t) ∧ OkM rs r f j t ∧ RD K H plv (plD pl) ∧ OnR rs pl ∧ 1 ≤ many ∧ many ≤ 20 ∧ 1 ≤ most ∧ most ≤ 100 ∧ ∀ v ds os H', RD K H' v (.tuple ds) → RowOk rs.length ds os → RowW ds os → (ds.length : Int) ≤ many → BagX p H H' → Q v H'
abbrev sIts : Stmt := top 55
theorem scIts : FnScope ["_law_bag_here", "_law_machine_here", "_law_place_here", "_law_many", "_law_most", "_law_items_here", "_law_straight", "_law_turn"] ["_law_bag_here", "_law_machine_here", "_law_place_here", "_law_many", "_law_most"] (defScope sIts) := ⟨rfl, rfl, rfl, by decide +kernel, rfl, by decide +kernel, by decide +kernel⟩
theorem ok_its (F : FA K mg "_law_items" sIts) (B : Blt mg) (hL_take : FnHas P w K mg base "_law_take" 1 spTake) (hL_other : FnHas P w K mg base "_law_other" 2 (spOt2 K)) (hL_line : FnHas P w K mg base "_law_line" 2 (spLnM K)) : FnHas P w K mg base "_law_items" 3 (spIts K) := by
  refine F.has scIts (fun vs H Q E h => ?_) (fun _ _ _ _ _ _ us hl => match us, hl with | [_, _, _, _, _], _ => rfl) (fun fa cdv A outer s H vs Q E hr h => ?_)
  · obtain ⟨p, m, rs, r, f, j, t, plv, pl, many, most, rfl, _⟩ := h
    rfl
  · obtain ⟨p, m, rs, r, f, j, t, plv, pl, many, most, rfl, bg, rm, okm, rpl, on, my1, my2, mo1, mo2, k⟩ := h
    have nd := scIts.nd
    refine ⟨_, (pss_cons (ps_set (i := 5) nd rfl (Or.inl rfl) (pe_lstA pa_nil))
    (pss_cons (ps_set (i := 6) nd rfl (Or.inl rfl) (pe_fn hL_take (hr.mono (by decide)) rfl (pa_cons (pv 0) (pa_cons pe_int pa_nil))))
    (pss_cons (ps_for PassesOwn.never rfl (pi_range1 rfl (B.at "range") (pa_cons (pe_fn hL_take (hr.mono (by decide)) rfl (pa_cons (pv 0) (pa_cons (pe_op op_add (pv 3) pe_int) pa_nil))) pa_nil)) (pg_name (i := 7) nd rfl (Or.inl rfl))
    (pss_one (ps_if (pt_cmpR (eqK K rfl hr.units) (pe_fn hL_take (hr.mono (by decide)) rfl (pa_cons (pv 0) (pa_cons (pe_op op_add pe_int (pe_op op_mulG pe_int (pe_callTy (x := "int") call_int1 rfl (B.at "int") PyProof.Rows.boot_int (pa_cons (pe_cmpR (eqK K rfl hr.units) (pv 6) pe_int (nomark _)) pa_nil)))) pa_nil))) pe_int (nomark _))
    (pss_one (ps_expr (peApp K rfl (pv 5) (pa_cons (pe_fn hL_other (hr.mono (by decide)) rfl (pa_cons (pv 0) pa_nil)) pa_nil))))
    (pss_cons (ps_expr (peApp K rfl (pv 5) (pa_cons (pe_fn hL_line (hr.mono (by decide)) rfl (pa_cons (pv 0) (pa_cons (pv 1) (pa_cons (pv 2) (pa_cons (pv 4) pa_nil))))) pa_nil)))
    (pss_one (ps_set (i := 2) nd rfl (Or.inl rfl) (pe_callTy (x := "tuple") (tupleK K rfl) rfl (B.at "tuple") PyProof.Rows.boot_tuple (pa_cons (pe_comp (N := ["_law_stand_here", "_law_step"]) (js := [none, none]) rfl rfl rfl (pi_zip K rfl false false rfl (B.at "zip") (pa_cons (pv 2) (pa_cons (pe_ix (ixK K rfl) (pe_ix (ixK K rfl) (pv 5) (pe_un un_neg pe_int) (fun _ _ => rfl)) pe_int (fun _ _ => rfl)) pa_nil))) (fun _ _ _ _ _ => (pgT K rfl (n := 2) rfl (pgs_cons (pg_name (i := 0) (show List.Nodup (["_law_stand_here", "_law_step"] : List Str) by decide +kernel) rfl (Or.inl rfl)) (pgs_cons (pg_name (i := 1) (show List.Nodup (["_law_stand_here", "_law_step"] : List Str) by decide +kernel) rfl (Or.inl rfl)) pgs_nil)))) (fun _ _ _ _ _ => pts_nil) (fun _ _ _ _ _ => (pe_op op_add (pv 0) (pv 1)))) pa_nil))))))))
    (pss_one (ps_ret (pe_callTy (x := "tuple") (tupleK K rfl) rfl (B.at "tuple") PyProof.Rows.boot_tuple (pa_cons (pv 5) pa_nil))))))), ?_⟩
    have lr := okm.len
    have nm := machD_no rs r f j t
    refine ⟨smallN _ (Nat.le_of_ble_eq_true rfl), fun l H1 n1 => ?_⟩
    have b1 : BagX p H H1 := .ofSame bg n1.same
    have lp : l ≠ p := fun z => bg.ne (z ▸ n1.no)
    refine ⟨_, rfl, p, 3, rfl, b1.bag, by decide, by decide, fun st H2 st0 st1 b2 => ?_⟩
    refine ⟨_, rfl, _, rfl, _, _, rfl, rfl, p, many + 1, rfl, b2.bag, by omega, by omega, fun cnt H3 c0 c1 b3 => ?_⟩
    have b13 := b1.trans (b2.trans b3)
    refine ⟨_, rfl, by omega, by omega, ?_⟩
    refine for_range (Pv := fun i σ H4 => BagX p H H4 ∧ ∃ zs es qs plv pl v1, H4 l = some (.lst zs) ∧ RDs K H4 zs es ∧ RowOk rs.length es qs ∧ RowW es qs ∧ es.length ≤ i ∧ RD K H4 plv (plD pl) ∧ OnR rs pl ∧ σ = [some (.ref p), some m, some plv, some (.int many), some (.int most), some (.ref l), some (.int st), v1]) ?_ ?_ ?_
    · exact ⟨b13, [], [], [], plv, pl, none, (b2.trans b3).same _ _ lp n1.at', rds_nil, RowOk.nil, (fun i d e => by simp at e), Nat.le_refl _, RD.t (BagX.t bg b13) _ (plD_no _) rpl, on, rfl⟩
    · rintro i σ H4 hi4 ⟨b4, zs, es, qs, plv, pl, v1, dl, rz, row, rw', hl, rpl, on, rfl⟩
      have lz := rz.length
      refine ⟨_, rfl, _, rfl, .inl ⟨_, _, rfl, rfl, .inr ⟨_, rfl, ?_⟩⟩⟩
      refine ⟨_, _, rfl, rfl, .of_left (intBits_le_64 (by decide) (by decide)), _, _, rfl, rfl, ?_⟩
      refine ⟨p, _, rfl, b4.bag, (by split <;> omega), (by split <;> omega), fun g H5 g0 g1 b5 => ?_⟩
      have b45 := b4.trans b5
      have dl5 := b5.same _ _ lp dl
      have t5 := BagX.t b4.bag b5
      have rz5 := RDs.t t5 _ row.no rz
      have rpl5 := RD.t t5 _ (plD_no _) rpl
      refine .inl ⟨_, _, rfl, rfl, _, rfl, ?_⟩
      refine ite2 (fun hc => ?_) (fun hc => ?_)
      · refine ⟨_, rfl, .inl ⟨rfl, _, SqL.of dl5⟩, ?_⟩
        refine ⟨_, rfl, p, rfl, b5.bag, fun ov d H6 ro ot b6 => ?_⟩
        have it := ot.it
        have dl6 := b6.same _ _ lp dl5
        have t6 := BagX.t b5.bag b6
        refine ⟨l, zs, _, rfl, rfl, dl6, smallL _ (by omega), ?_⟩
        have tu : SameT H6 (L2.upd H6 l (.lst (zs ++ [ov]))) := .updL dl6
        refine ⟨(b45.trans b6).putL lp n1.no, _, _, _, _, _, _, upd_same, RDs.snocT dl6 (RDs.t t6 _ row.no rz5) ro row.no it.no, row.snoc it (fun ns' sp' e => nomatch e), rw'.snoc row.len (fun _ => ot), ?_, RD.t (t6.trans tu) _ (plD_no _) rpl5, on, rfl⟩
        rw [List.length_append]; show es.length + 1 ≤ i + 1; omega
      · refine ⟨_, rfl, .inl ⟨rfl, _, SqL.of dl5⟩, ?_⟩
        have rm5 := RD.t (BagX.t bg b45) _ nm rm
        refine ⟨_, rfl, _, rfl, _, rfl, _, rfl, p, m, rs, r, f, j, t, plv, pl, most, rfl, b5.bag, rm5, okm, rpl5, on, mo1, mo2, fun lv ns sp H6 rl okn sp1 sp2 on2 b6 => ?_⟩
        have dl6 := b6.same _ _ lp dl5
        have t6 := BagX.t b5.bag b6
        refine ⟨l, zs, _, rfl, rfl, dl6, smallL _ (by omega), ?_⟩
        have tu : SameT H6 (L2.upd H6 l (.lst (zs ++ [lv]))) := .updL dl6
        have b7 : BagX p H (L2.upd H6 l (.lst (zs ++ [lv]))) := (b45.trans b6).putL lp n1.no
        have rz7 := RDs.snocT dl6 (RDs.t t6 _ row.no rz5) rl row.no (lineD_no _ _)
        have rpl7 := RD.t (t6.trans tu) _ (plD_no _) rpl5
        have rl7 := RD.t tu _ (lineD_no _ _) rl
        have dl7 : (L2.upd H6 l (.lst (zs ++ [lv]))) l = some (.lst (zs ++ [lv])) := upd_same
        generalize L2.upd H6 l (.lst (zs ++ [lv])) = H7 at b7 rz7 rpl7 rl7 dl7 ⊢
        have row7 : RowOk rs.length (es ++ [lineD ns sp]) (qs ++ [some (ns, sp)]) := row.snoc (.inl ⟨_, _, rfl, rfl⟩) fun ns' sp' e => by
          cases e
          exact ⟨okn, sp1, sp2⟩
        obtain ⟨pa, rfl, hpa⟩ := pl_inv rpl7
        obtain ⟨la, lb, rfl, hla, hlb⟩ := line_inv rl7
        have lpl := on.len
        refine ⟨_, rfl, _, rfl, _, rfl, .inl ⟨l, _, _, .ref la, rfl, rfl, SqL.of dl7, at_last (by simp), .inr ⟨la, _, 1, .ref lb, rfl, rfl, hla, rfl, pa, lb, rfl, ⟨_, hpa⟩, ⟨_, hlb⟩, fun D H8 n8 => ?_⟩⟩⟩
        have lns := okn.len
        refine comp_rdZ (K := K) (b1 := false) (b2 := false) (xs := pl.map V.int) (ys := ns.map V.int) (ds := (addZ pl ns).map PyData.int) _ rfl hpa hlb n8 (by rw [List.length_map, List.length_map, List.length_map, addZ_len (by omega)]; omega) (by rw [List.length_map, addZ_len (by omega)]; omega) (noLs_ints _) ?_ ?_
        · intro q x y dd H9 Q' ex ey ed s9 hq
          rw [List.getElem?_map] at ex ey ed
          obtain ⟨x', ex', rfl⟩ := Option.map_eq_some_iff.mp ex
          obtain ⟨y', ey', rfl⟩ := Option.map_eq_some_iff.mp ey
          rw [addZ_get ex' ey'] at ed
          cases ed
          exact ⟨_, rfl, _, rfl, _, _, rfl, rfl, hq _ _ (Same.refl _) (rd_int _)⟩
        · intro H9 ys s9 d9 r9
          refine ⟨D, _, rfl, .inl ⟨SqL.of d9, fun tp H10 n10 => ?_⟩⟩
          have s710 := s9.trans n10.same
          have e10 := n10.at'
          rw [r9.ints_inv] at e10
          exact ⟨b7.trans (.ofSame b7.bag s710), _, _, _, _, _, _, s710 _ _ dl7, RDs.mono s710 _ rz7, row7, rw'.snoc row.len (fun e => nomatch e), (by rw [List.length_append]; show es.length + 1 ≤ i + 1; omega), pl_rd (SqT.of e10), on2, rfl⟩
    · rintro σ H4 ⟨b4, zs, es, qs, plv, pl, v1, dl, rz, row, rw', hl, rpl, on, rfl⟩
      refine ⟨_, rfl, l, _, rfl, .inl ⟨SqL.of dl, fun tq H5 n5 => ?_⟩⟩
      exact k (.ref tq) es qs H5 (rd_tup (SqT.of n5.at') (RDs.mono n5.same _ rz)) row rw' (by omega) (b4.trans (.ofSame b4.bag n5.same))
end
end Lw



set_option Elab.async false
set_option linter.all false
set_option maxRecDepth 100000
set_option maxHeartbeats 1000000
namespace Lw
open PySem PySem.Spec PyProof.Rows L2 Ln
section
variable {P : Program} {w : World} {K : PySem.W.Frag} {mg : Str → Option Value} {base : Heap}
theorem wd64 {j : Int} (h : j.natAbs < 2 ^ 64) : Wd j := Nat.lt_trans h (by decide +kernel)
def spNear : Sp := fun vs H Q _ => ∃ (p q : Int), vs = [.int p, .int q] ∧ 0 < q ∧ q ≤ 10 ^ 6 ∧ p.natAbs ≤ 10 ^ 9 ∧ Q (.int (nearN p q)) H
abbrev sNearP : Stmt := top 21
theorem scNearP : FnScope ["p", "q", "size"] ["p", "q"] (defScope sNearP) := ⟨rfl, rfl, rfl, by decide +kernel, rfl, by decide +kernel, by decide +kernel⟩
theorem ok_nearP (F : FA K mg "nearest" sNearP) (B : Blt mg) : FnHas P w K mg base "nearest" 1 spNear := by
  refine F.has scNearP (fun vs H Q E h => ?_) (fun _ _ _ _ _ _ us hl => match us, hl with | [_, _], _ => rfl) (fun f cdv A outer s H vs Q E hr h => ?_)
  · obtain ⟨p, q, rfl, _⟩ := h
    rfl
  · obtain ⟨p, q, rfl, q0, q1, p1, k⟩ := h
    have nd := scNearP.nd
    refine ⟨_, (pss_cons (ps_set (i := 2) nd rfl (Or.inl rfl) (pe_op op_fdivW (pe_op op_add (pe_op op_mulG pe_int (pe_callB (x := "abs") call_abs rfl (B.at "abs") PyProof.Rows.boot_abs (pa_cons (pv 0) pa_nil))) (pv 1)) (pe_op op_mulG pe_int (pv 1))))
    (pss_one (ps_ret (pe_ifExp (pt_cmpR op_ge (pv 0) pe_int (nomark _)) (pv 2) (pe_un un_neg (pv 2)))))), ?_⟩
    refine ⟨_, rfl, p, rfl, _, _, rfl, rfl, .of_left (intBits_le_64 (by decide) (by decide)), _, rfl, _, _, rfl, rfl, _, rfl, _, _, rfl, rfl, .of_left (intBits_le_64 (by decide) (by decide)), _, _, rfl, rfl, ⟨by omega, wd64 (by omega)⟩, ?_⟩
    have e : (2 * (if p < 0 then -p else p) + q) / (2 * q) = sizeN p q := by
      unfold sizeN; rw [← absI_eq]; rfl
    refine ⟨_, rfl, _, _, rfl, rfl, _, rfl, ?_⟩
    unfold nearN at k
    rw [← e] at k
    refine ite2 (fun hc => ?_) (fun hc => ?_)
    · have hp : p ≥ 0 := of_decide_eq_true hc
      rw [if_pos hp] at k
      exact ⟨_, rfl, k⟩
    · have hp : ¬ p ≥ 0 := fun z => hc (decide_eq_true z)
      rw [if_neg hp] at k
      exact ⟨_, rfl, _, rfl, k⟩
def standD (ns : List Int) (k : Int) : PyData := .tuple ((ns.map fun z => nearN (k * z) (leadN ns)).map PyData.int)
theorem prod_le {k z : Int} (h : k.natAbs ≤ 10 ^ 6) (g : (z.natAbs : Int) ≤ 1000) : (k * z).natAbs ≤ 10 ^ 9 := by
  rw [Int.natAbs_mul]
  exact Nat.le_trans (Nat.mul_le_mul h (show z.natAbs ≤ 1000 by omega)) (by decide)
def spStand (K : PySem.W.Frag) : Sp := fun vs H Q _ => ∃ v ns sp k, vs = [v, .int k] ∧ RD K H v (lineD ns sp) ∧ OkL ns.length 1000 ns ∧ ns.length ≤ 1000 ∧ k.natAbs ≤ 10 ^ 6 ∧ ∀ v' H', RD K H' v' (standD ns k) → Same H H' → Q v' H'
abbrev sStand : Stmt := top 19
theorem scStand : FnScope ["line", "k", "lead"] ["line", "k"] (defScope sStand) := ⟨rfl, rfl, rfl, by decide +kernel, rfl, by decide +kernel, by decide +kernel⟩
theorem ok_stand (F : FA K mg "stand_at" sStand) (B : Blt mg) (hlead_of : FnHas P w K mg base "lead_of" 1 (spLead K)) (hnearest : FnHas P w K mg base "nearest" 1 spNear) : FnHas P w K mg base "stand_at" 2 (spStand K) := by
  refine F.has scStand (fun vs H Q E h => ?_) (fun _ _ _ _ _ _ us hl => match us, hl with | [_, _], _ => rfl) (fun f cdv A outer s H vs Q E hr h => ?_)
  · obtain ⟨v, ns, sp, k, rfl, _⟩ := h
    rfl
  · obtain ⟨v, ns, sp, kk, rfl, rd, ok, hz, hk, k⟩ := h
    have nd := scStand.nd
    refine ⟨_, (pss_cons (ps_set (i := 2) nd rfl (Or.inr rfl) (pe_fn hlead_of (hr.mono (by decide)) rfl (pa_cons (pv 0) pa_nil)))
    (pss_one (ps_ret (pe_callTy (x := "tuple") (tupleK K rfl) rfl (B.at "tuple") PyProof.Rows.boot_tuple (pa_cons (pe_comp (N := ["step", "lead", "k"]) (js := [none, some 2, some 1]) rfl rfl rfl (piT K rfl (pe_ix (ixK K rfl) (pv 0) pe_int (fun _ _ => rfl))) (fun _ _ _ _ _ => (pg_name (i := 0) (show List.Nodup (["step", "lead", "k"] : List Str) by decide +kernel) rfl (Or.inl rfl))) (fun _ _ _ _ _ => pts_nil) (fun _ _ _ _ _ => (pe_fn hnearest (hr.mono (by decide)) rfl (pa_cons (pe_op op_mulG (pv 2) (pv 0)) (pa_cons (pv 1) pa_nil))))) pa_nil))))), ?_⟩
    refine ⟨_, rfl, v, ns, sp, rfl, rd, ok.ne, hz, fun H1 s1 => ?_⟩
    obtain ⟨a, b, rfl, ha, hb⟩ := line_inv (RD.mono s1 _ rd)
    obtain ⟨lp, lm⟩ := ok.lead
    refine ⟨_, rfl, .inr ⟨a, _, 1, .ref b, rfl, rfl, ha, rfl, b, rfl, ⟨_, hb⟩, fun D H0 nw => ?_⟩⟩
    refine comp_rdT (K := K) (xs := ns.map V.int) (ds := (ns.map fun z => nearN (kk * z) (leadN ns)).map PyData.int) _ hb nw (by simp) (by simpa using hz) (noLs_ints _) ?_ ?_
    · intro i x d H2 Q' ex ed s2 hq
      rw [List.map_map] at ed
      obtain ⟨n, en, rfl⟩ := map_getI ed
      cases map_getV ex en
      refine ⟨_, rfl, _, rfl, _, _, rfl, rfl, .of_left (intBits_le_64 (by omega) (by omega)), _, rfl, _, _, rfl, by omega, by omega, prod_le hk (ok.bd n (List.mem_of_getElem? en)), ?_⟩
      exact hq _ _ (Same.refl _) (rd_int _)
    · intro H' ys s2 d2 r2
      refine ⟨D, _, rfl, .inl ⟨SqL.of d2, fun t H4 n4 => ?_⟩⟩
      exact k _ _ (rd_tup (SqT.of n4.at') (RDs.mono n4.same _ r2)) (s1.trans (s2.trans n4.same))
end
end Lw



set_option Elab.async false
set_option linter.all false
set_option maxRecDepth 100000
set_option maxHeartbeats 1000000
namespace Lw
open PySem PySem.Spec PyProof.Rows L2 Ln
section
variable {P : Program} {w : World} {K : PySem.W.Frag} {mg : Str → Option Value} {base : Heap}
def rowZ (ns : List Int) (j : Nat) : List Int := ns.map fun z => nearN (((j : Int) + 1) * z) (leadN ns) - nearN ((j : Int) * z) (leadN ns)
def rowsD (ns : List Int) : List PyData := (List.range (leadN ns)).map fun j => .tuple ((rowZ ns j).map PyData.int)
theorem rowD_no (zs : List Int) : noL (.tuple (zs.map PyData.int)) = true := by rw [noL]; exact noLs_ints zs
theorem rowsD_no (ns : List Int) : noLs (rowsD ns) = true := noLs_mem.mpr fun d hd => by
  obtain ⟨j, _, rfl⟩ := List.mem_map.mp hd
  exact rowD_no _
theorem rowsD_get {ns : List Int} {i : Nat} (h : i < leadN ns) : (rowsD ns)[i]? = some (.tuple ((rowZ ns i).map PyData.int)) := by
  unfold rowsD
  rw [List.getElem?_map, List.getElem?_eq_getElem (by simpa using h), List.getElem_range]; rfl
theorem rowsD_len (ns : List Int) : (rowsD ns).length = leadN ns := by simp [rowsD]
def spRows (K : PySem.W.Frag) : Sp := fun vs H Q _ => ∃ v ns sp, vs = [v] ∧ RD K H v (lineD ns sp) ∧ OkL ns.length 1000 ns ∧ ns.length ≤ 1000 ∧ ∀ l ys H', H l = none → H' l = some (.lst ys) → RDs K H' ys (rowsD ns) → Same H H' → Q (.ref l) H'
abbrev sRows : Stmt := top 20
theorem scRows : FnScope ["line", "rows", "before", "k", "behind"] ["line"] (defScope sRows) := ⟨rfl, rfl, rfl, by decide +kernel, rfl, by decide +kernel, by decide +kernel⟩
theorem ok_rows (F : FA K mg "step_rows" sRows) (B : Blt mg) (hlead_of : FnHas P w K mg base "lead_of" 1 (spLead K)) (hstand_at : FnHas P w K mg base "stand_at" 2 (spStand K)) : FnHas P w K mg base "step_rows" 3 (spRows K) := by
  refine F.has scRows (fun vs H Q E h => ?_) (fun _ _ _ _ _ _ us hl => match us, hl with | [_], _ => rfl) (fun f cdv A outer s H vs Q E hr h => ?_)
  · obtain ⟨v, ns, sp, rfl, _⟩ := h
    rfl
  · obtain ⟨v, ns, sp, rfl, rd, ok, hz, k⟩ := h
    have nd := scRows.nd
    obtain ⟨lp, lm⟩ := ok.lead
    refine ⟨_, (pss_cons (ps_set (i := 1) nd rfl (Or.inl rfl) (pe_lstA pa_nil))
    (pss_cons (ps_set (i := 2) nd rfl (Or.inl rfl) (pe_fn hstand_at (hr.mono (by decide)) rfl (pa_cons (pv 0) (pa_cons pe_int pa_nil))))
    (pss_cons (ps_for PassesOwn.never rfl (pi_range2 rfl (B.at "range") (pa_cons pe_int (pa_cons (pe_op op_add (pe_fn hlead_of (hr.mono (by decide)) rfl (pa_cons (pv 0) pa_nil)) pe_int) pa_nil))) (pg_name (i := 3) nd rfl (Or.inl rfl))
    (pss_cons (ps_set (i := 4) nd rfl (Or.inl rfl) (pe_fn hstand_at (hr.mono (by decide)) rfl (pa_cons (pv 0) (pa_cons (pv 3) pa_nil))))
    (pss_cons (ps_expr (peApp K rfl (pv 1) (pa_cons (pe_callTy (x := "tuple") (tupleK K rfl) rfl (B.at "tuple") PyProof.Rows.boot_tuple (pa_cons (pe_comp (N := ["new", "old"]) (js := [none, none]) rfl rfl rfl (pi_zip K rfl false false rfl (B.at "zip") (pa_cons (pv 4) (pa_cons (pv 2) pa_nil))) (fun _ _ _ _ _ => (pgT K rfl (n := 2) rfl (pgs_cons (pg_name (i := 0) (show List.Nodup (["new", "old"] : List Str) by decide +kernel) rfl (Or.inl rfl)) (pgs_cons (pg_name (i := 1) (show List.Nodup (["new", "old"] : List Str) by decide +kernel) rfl (Or.inl rfl)) pgs_nil)))) (fun _ _ _ _ _ => pts_nil) (fun _ _ _ _ _ => (pe_op op_sub (pv 0) (pv 1)))) pa_nil)) pa_nil)))
    (pss_one (ps_set (i := 2) nd rfl (Or.inl rfl) (pv 4))))))
    (pss_one (ps_ret (pv 1)))))), ?_⟩
    refine ⟨smallN _ (Nat.le_of_ble_eq_true rfl), fun l H1 n1 => ?_⟩
    refine ⟨_, rfl, v, ns, sp, 0, rfl, RD.mono n1.same _ rd, ok, hz, by decide, fun u H2 ru s2 => ?_⟩
    have t2 := n1.same.trans s2
    refine ⟨_, rfl, v, ns, sp, rfl, RD.mono t2 _ rd, ok.ne, hz, fun H3 s3 => ?_⟩
    refine ⟨_, _, rfl, rfl, _, _, rfl, ⟨by omega, by omega, by omega, by omega⟩, ?_⟩
    have t3 := t2.trans s3
    have e3 : ((leadN ns : Int) + 1 - 1).toNat = leadN ns := by omega
    refine for_range (Pv := fun i σ H4 => Same H H4 ∧ (∃ ys, H4 l = some (.lst ys) ∧ RDs K H4 ys ((rowsD ns).take i)) ∧ ∃ b v1 v2, RD K H4 b (standD ns i) ∧ σ = [some v, some (.ref l), some b, v1, v2]) ?_ ?_ ?_
    · exact ⟨t3, ⟨[], s3 _ _ (s2 _ _ n1.at'), rds_nil⟩, u, none, none, RD.mono s3 _ ru, rfl⟩
    · rintro i σ H4 hi ⟨t4, ⟨ys, dl, ry⟩, b, v1, v2, rb, rfl⟩
      have hi' : i < leadN ns := by omega
      refine ⟨_, rfl, _, rfl, v, ns, sp, _, rfl, RD.mono t4 _ rd, ok, hz, by omega, fun b2 H5 rb2 s5 => ?_⟩
      refine ⟨_, rfl, .inl ⟨rfl, _, SqL.of (s5 _ _ dl)⟩, ?_⟩
      obtain ⟨a1, xs1, rfl, h1, q1⟩ := rb2.tup_inv
      have e1 := q1.ints_inv
      subst e1
      obtain ⟨a0, xs0, rfl, h0, q0⟩ := (RD.mono s5 _ rb).tup_inv
      have e0 := q0.ints_inv
      subst e0
      refine ⟨_, rfl, _, rfl, a1, a0, rfl, ⟨_, h1⟩, ⟨_, h0⟩, fun D H6 nw => ?_⟩
      refine comp_rdZ (K := K) (b1 := false) (b2 := false) (ds := (rowZ ns i).map PyData.int) [] rfl h1 h0 nw (by simp [rowZ]) (by simpa [rowZ] using hz) (noLs_ints _) ?_ ?_
      · intro j x y d H7 Q' ex ey ed s7 hq
        obtain ⟨m, em, rfl⟩ := map_getI ed
        unfold rowZ at em
        rw [List.getElem?_map] at em ex ey
        rw [List.getElem?_map] at ex ey
        cases en : ns[j]? with
        | none => rw [en] at em; cases em
        | some n =>
          rw [en] at em ex ey
          cases em
          cases ex
          cases ey
          refine ⟨_, rfl, _, rfl, _, _, rfl, rfl, ?_⟩
          have ee : (1 : Int) + (i : Int) = (i : Int) + 1 := by omega
          rw [ee]
          exact hq _ _ (Same.refl _) (rd_int _)
      · intro H7 zs s7 d7 r7
        refine ⟨D, _, rfl, .inl ⟨SqL.of d7, fun t H8 n8 => ?_⟩⟩
        have s48 := s5.trans (s7.trans n8.same)
        have dl8 := s48 _ _ dl
        have len := ry.length
        rw [List.length_take, rowsD_len] at len
        refine ⟨l, ys, _, rfl, rfl, dl8, ?_, ?_⟩
        · have : (1000 : Nat) < sizeLine := by decide
          omega
        refine ⟨_, rfl, ?_⟩
        have tt : SameT H8 (L2.upd H8 l (.lst (ys ++ [.ref t]))) := .updL dl8
        refine ⟨fun b o e => ?_, ⟨_, upd_same, ?_⟩, _, _, _, ?_, rfl⟩
        · rw [upd_ne (ne_of_none e n1.no)]; exact s48 b o (t4 b o e)
        · rw [List.take_succ, rowsD_get hi']
          have nt : noLs ((rowsD ns).take i) = true := noLs_mem.mpr fun d hd => noLs_mem.mp (rowsD_no ns) d (List.mem_of_mem_take hd)
          exact (RDs.t tt _ nt (RDs.mono s48 _ ry)).append (rds_cons (RD.t tt _ (rowD_no _) (rd_tup (SqT.of n8.at') (RDs.mono n8.same _ r7))) rds_nil)
        · have ee : (1 : Int) + (i : Int) = ((i + 1 : Nat) : Int) := by omega
          rw [ee] at rb2
          exact RD.t tt _ (rowD_no _) (RD.mono (s7.trans n8.same) _ rb2)
    · rintro σ H4 ⟨t4, ⟨ys, dl, ry⟩, b, v1, v2, rb, rfl⟩
      rw [e3, List.take_of_length_le (by rw [rowsD_len]; exact Nat.le_refl _)] at ry
      exact ⟨_, rfl, k l ys H4 n1.no dl ry t4⟩
end
end Lw



set_option Elab.async false
set_option linter.all false
set_option maxRecDepth 100000
set_option maxHeartbeats 1000000
set_option exponentiation.threshold 6000
namespace Lw
open PySem PySem.Spec PyProof.Rows L2 Rt Ln
section
variable {P : Program} {w : World} {K : PySem.W.Frag} {mg : Str → Option Value} {base : Heap}
/-! ### ticks -/
def enB (ti : Int) (q : Rat) (t : Int) : Bool := decide (ti * ti * (q.den : Int) ≤ t * t * q.num)
def spEn (K : PySem.W.Frag) : Sp := fun vs H Q _ => ∃ m sq t rs r f j ti q, vs = [m, sq, .int t] ∧ RD K H m (machD rs r f j ti) ∧ RatV K H sq q ∧ Bd 2000 q ∧ 1 ≤ ti ∧ ti ≤ 100 ∧ 0 ≤ t ∧ t.natAbs < 2 ^ 2400 ∧ Q (.bl (enB ti q t)) H
abbrev sEn : Stmt := top 40
theorem scEn : FnScope ["machine", "square", "t", "p", "q", "ticks"] ["machine", "square", "t"] (defScope sEn) := ⟨rfl, rfl, rfl, by decide +kernel, rfl, by decide +kernel, by decide +kernel⟩
theorem ok_en (F : FA K mg "are_enough" sEn) (B : Blt mg) : FnHas P w K mg base "are_enough" 1 (spEn K) := by
  refine F.has scEn (fun vs H Q E h => ?_) (fun _ _ _ _ _ _ us hl => match us, hl with | [_, _, _], _ => rfl) (fun f cdv A outer s H vs Q E hr h => ?_)
  · obtain ⟨m, sq, t, rs, r, f, j, ti, q, rfl, _⟩ := h
    rfl
  · obtain ⟨m, sq, t, rs, r, f, j, ti, q, rfl, rm, ⟨p, rfl, hp⟩, bq, t1, t2, t0, tw, k⟩ := h
    have nd := scEn.nd
    refine ⟨_, (pss_cons (ps_asg (pv 1) (pgT K rfl (n := 2) rfl (pgs_cons (pg_name (i := 3) nd rfl (Or.inl rfl)) (pgs_cons (pg_name (i := 4) nd rfl (Or.inl rfl)) pgs_nil))))
    (pss_cons (ps_set (i := 5) nd rfl (Or.inl rfl) (pe_ix (ixK K rfl) (pv 0) pe_int (fun _ _ => rfl)))
    (pss_one (ps_ret (pe_cmpR op_ge (pe_op op_mulG (pe_op op_mulG (pv 2) (pv 2)) (pv 3)) (pe_op op_mulG (pe_op op_mulG (pv 5) (pv 5)) (pv 4)) (nomark _)))))), ?_⟩
    obtain ⟨a, b, rfl, ha, hb⟩ := mach_inv rm
    have wt : Wd t := wdB tw (by decide)
    have wtt : Wd (t * t) := wdB (n := 4800) (by rw [Int.natAbs_mul]; exact mul_lt (n := 2400) (m := 2400) tw tw) (by decide)
    have m1 : (ti * ti).natAbs ≤ 100 * 100 := by rw [Int.natAbs_mul]; exact Nat.mul_le_mul (by omega) (by omega)
    refine ⟨_, rfl, _, _, rfl, hp, rfl, _, _, rfl, _, _, rfl, rfl, ?_⟩
    refine ⟨_, rfl, .inr ⟨a, _, 4, .int ti, rfl, rfl, ha, rfl, ?_⟩⟩
    refine ⟨_, rfl, _, rfl, _, _, rfl, rfl, IntMulOk.of_bits wt.bits wt.bits, _, rfl, _, _, rfl, rfl, IntMulOk.of_bits wtt.bits bq.wn.bits, ?_⟩
    refine ⟨_, rfl, _, rfl, _, _, rfl, rfl, .of_left (intBits_le_64 (by omega) (by omega)), _, rfl, _, _, rfl, rfl, .of_left (intBits_le_64 (by omega) (by omega)), ?_⟩
    exact ⟨_, _, rfl, rfl, k⟩
theorem en_big {ti t : Int} {q : Rat} (hq : 0 < q.num) (h0 : 0 ≤ t) (h : ti * ti * (q.den : Int) ≤ t) : enB ti q t = true := by
  refine decide_eq_true (Int.le_trans h ?_)
  by_cases ht : t = 0
  · subst ht; simp
  · have e1 : t * 1 ≤ t * t := Int.mul_le_mul_of_nonneg_left (by omega) h0
    have e2 : t * t * 1 ≤ t * t * q.num := Int.mul_le_mul_of_nonneg_left (by omega) (Int.mul_nonneg h0 h0)
    omega
theorem en_zero {ti : Int} {q : Rat} (h1 : 1 ≤ ti) : enB ti q 0 = false := by
  refine decide_eq_false fun h => ?_
  have := Int.mul_pos (Int.mul_pos (show 0 < ti by omega) (show 0 < ti by omega)) (den_pos q)
  simp only [Int.zero_mul] at h
  omega
def spTicks (K : PySem.W.Frag) : Sp := fun vs H Q _ => ∃ m sq rs r f j ti q, vs = [m, sq] ∧ RD K H m (machD rs r f j ti) ∧ RatV K H sq q ∧ Bd 2000 q ∧ 1 ≤ ti ∧ ti ≤ 100 ∧ 0 < q.num ∧ ∀ T, 1 ≤ T → T.natAbs < 2 ^ 2400 → enB ti q T = true → enB ti q (T - 1) = false → Q (.int T) H
abbrev sTicks : Stmt := top 39
theorem scTicks : FnScope ["machine", "square", "enough", "too_few", "between"] ["machine", "square"] (defScope sTicks) := ⟨rfl, rfl, rfl, by decide +kernel, rfl, by decide +kernel, by decide +kernel⟩
theorem ok_ticks (F : FA K mg "ticks_of" sTicks) (B : Blt mg) (hare_enough : FnHas P w K mg base "are_enough" 1 (spEn K)) : FnHas P w K mg base "ticks_of" 2 (spTicks K) := by
  refine F.has scTicks (fun vs H Q E h => ?_) (fun _ _ _ _ _ _ us hl => match us, hl with | [_, _], _ => rfl) (fun f cdv A outer s H vs Q E hr h => ?_)
  · obtain ⟨m, sq, rs, r, f, j, ti, q, rfl, _⟩ := h
    rfl
  · obtain ⟨m, sq, rs, r, f, j, ti, q, rfl, rm, rq, bq, t1, t2, hq, k⟩ := h
    have nd := scTicks.nd
    refine ⟨_, (pss_cons (ps_set (i := 2) nd rfl (Or.inl rfl) pe_int)
    (pss_cons (ps_while PassesOwn.never (pt_not (pt_val (pe_fn hare_enough (hr.mono (by decide)) rfl (pa_cons (pv 0) (pa_cons (pv 1) (pa_cons (pv 2) pa_nil))))))
    (pss_one (ps_set (i := 2) nd rfl (Or.inl rfl) (pe_op op_mulG pe_int (pv 2)))))
    (pss_cons (ps_set (i := 3) nd rfl (Or.inl rfl) (pe_op op_fdivW (pv 2) pe_int))
    (pss_cons (ps_while PassesOwn.never (pt_cmpR op_gt (pe_op op_sub (pv 2) (pv 3)) pe_int (nomark _))
    (pss_cons (ps_set (i := 4) nd rfl (Or.inl rfl) (pe_op op_fdivW (pe_op op_add (pv 3) (pv 2)) pe_int))
    (pss_one (ps_if (pt_val (pe_fn hare_enough (hr.mono (by decide)) rfl (pa_cons (pv 0) (pa_cons (pv 1) (pa_cons (pv 4) pa_nil)))))
    (pss_one (ps_set (i := 2) nd rfl (Or.inl rfl) (pv 4)))
    (pss_one (ps_set (i := 3) nd rfl (Or.inl rfl) (pv 4)))))))
    (pss_one (ps_ret (pv 2))))))), ?_⟩
    have lim : (ti * ti * (q.den : Int)).natAbs < 2 ^ 2399 := by
      have m1 : (ti * ti).natAbs ≤ 100 * 100 := by rw [Int.natAbs_mul]; exact Nat.mul_le_mul (by omega) (by omega)
      have hd := bq.den
      rw [Int.natAbs_mul]
      have : (q.den : Int).natAbs = q.den := rfl
      rw [this]
      have := mul_lt (n := 14) (m := 2000) (a := (ti * ti).natAbs) (b := q.den) (Nat.lt_of_le_of_lt m1 (by decide)) hd
      exact Nat.lt_of_lt_of_le this (Nat.pow_le_pow_right (by decide) (by decide))
    have p0 : 0 < ti * ti * (q.den : Int) := Int.mul_pos (Int.mul_pos (by omega) (by omega)) (den_pos q)
    have e2 : (2 : Nat) ^ 2400 = 2 ^ 2399 * 2 := Nat.pow_succ 2 2399
    generalize hL : ti * ti * (q.den : Int) = L at lim p0
    refine while_by (fun σ H2 => H2 = H ∧ ∃ (x : Int), σ = [some m, some sq, some (.int x), none, none] ∧ 1 ≤ x ∧ x ≤ 2 * L ∧ enB ti q (x / 2) = false) (fun σ _ => match σ with | [_, _, some (.int x), _, _] => (L - x).toNat | _ => 0) ?_ ?_ ?_
    · exact ⟨rfl, 1, rfl, by omega, by omega, en_zero t1⟩
    · rintro σ H2 ⟨rfl, x, rfl, x1, xL, hx⟩
      have xw : x.natAbs < 2 ^ 2400 := by omega
      refine ⟨_, rfl, _, rfl, _, rfl, m, sq, x, rs, r, f, j, ti, q, rfl, rm, rq, bq, t1, t2, by omega, xw, _, rfl, ?_⟩
      cases hen : enB ti q x with
      | false =>
        have hlt : x < L := by
          by_cases hlt : x < L
          · exact hlt
          · rw [en_big hq (by omega) (by omega)] at hen; cases hen
        refine ite2 (fun hc => ?_) (fun hc => (hc rfl).elim)
        refine ⟨_, rfl, _, _, rfl, rfl, .of_left (intBits_le_64 (by decide) (by decide)), ?_⟩
        refine ⟨⟨rfl, _, rfl, by omega, by omega, ?_⟩, ?_⟩
        · have : 2 * x / 2 = x := by omega
          rw [this]; exact hen
        · show (L - 2 * x).toNat < (L - x).toNat
          omega
      | true =>
        refine ite2 (fun hc => nomatch hc) (fun hc => ?_)
        refine ⟨_, rfl, _, _, rfl, rfl, ⟨by decide, wdB (n := 2) (by decide) (by decide)⟩, ?_⟩
        refine while_by (fun σ H3 => H3 = H2 ∧ ∃ (lo hi : Int) (v : Option V), σ = [some m, some sq, some (.int hi), some (.int lo), v] ∧ 0 ≤ lo ∧ lo < hi ∧ hi ≤ 2 * L ∧ enB ti q lo = false ∧ enB ti q hi = true) (fun σ _ => match σ with | [_, _, some (.int x), some (.int y), _] => (x - y).toNat | _ => 0) ?_ ?_ ?_
        · exact ⟨rfl, x / 2, x, none, rfl, by omega, by omega, xL, hx, hen⟩
        · rintro σ H3 ⟨rfl, lo, hi, v, rfl, l0, lh, hL2, elo, ehi⟩
          refine ⟨_, rfl, _, rfl, _, _, rfl, rfl, _, _, rfl, rfl, _, rfl, ?_⟩
          refine ite2 (fun hc => ?_) (fun hc => ?_)
          · have hgt : hi - lo > 1 := of_decide_eq_true hc
            refine ⟨_, rfl, _, rfl, _, _, rfl, rfl, _, _, rfl, rfl, ⟨by decide, wdB (n := 2) (by decide) (by decide)⟩, ?_⟩
            have mw : ((lo + hi) / 2).natAbs < 2 ^ 2400 := by omega
            refine ⟨_, rfl, _, rfl, _, rfl, m, sq, (lo + hi) / 2, rs, r, f, j, ti, q, rfl, rm, rq, bq, t1, t2, by omega, mw, _, rfl, ?_⟩
            cases hm : enB ti q ((lo + hi) / 2) with
            | true =>
              refine iteT ?_
              refine ⟨_, rfl, ⟨rfl, lo, _, _, rfl, l0, by omega, by omega, elo, hm⟩, ?_⟩
              show ((lo + hi) / 2 - lo).toNat < (hi - lo).toNat
              omega
            | false =>
              refine iteF ?_
              refine ⟨_, rfl, ⟨rfl, _, hi, _, rfl, by omega, by omega, hL2, hm, ehi⟩, ?_⟩
              show (hi - (lo + hi) / 2).toNat < (hi - lo).toNat
              omega
          · have hle : ¬ hi - lo > 1 := fun z => hc (decide_eq_true z)
            have e : lo = hi - 1 := by omega
            subst e
            exact ⟨_, rfl, k hi (by omega) (by omega) ehi elo⟩
        · rintro σ H2 Q1 Q2 hq ⟨v1, e1, v2, e2, i, j, e3, e4, i2, j2, e5, e6, kk, e7, q⟩
          exact ⟨v1, e1, v2, e2, i, j, e3, e4, i2, j2, e5, e6, kk, e7, hq _ _ q⟩
    · rintro σ H2 Q1 Q2 hq ⟨v1, e1, v2, e2, v3, e3, m', sq', x', rs', r', f', j', ti', q', e4, h1, h2, h3, h4, h5, h6, h7, b, eb, q⟩
      exact ⟨v1, e1, v2, e2, v3, e3, m', sq', x', rs', r', f', j', ti', q', e4, h1, h2, h3, h4, h5, h6, h7, b, eb, hq _ _ q⟩
end
end Lw



set_option Elab.async false
set_option linter.all false
set_option maxRecDepth 100000
set_option maxHeartbeats 1000000
set_option exponentiation.threshold 6000
namespace Lw
open PySem PySem.Spec PyProof.Rows L2 Rt Ln Cn Pn
open Ow (topR cornO mnO betR atO ownF leadF ownL OkI OkIs)
section
variable {P : Program} {w : World} {K : PySem.W.Frag} {mg : Str → Option Value} {base : Heap}
/-! ### ticks, as a number -/
def Tck (ti : Int) (q : Rat) (T : Int) : Prop := 1 ≤ T ∧ enB ti q T = true ∧ enB ti q (T - 1) = false
open Classical in
noncomputable def tkF (ti : Int) (q : Rat) : Int := if h : ∃ T, Tck ti q T then h.choose else 0
theorem en_mono {ti : Int} {q : Rat} {s t : Int} (hq : 0 ≤ q.num) (h0 : 0 ≤ s) (h : s ≤ t) (e : enB ti q s = true) : enB ti q t = true := by
  refine decide_eq_true (Int.le_trans (of_decide_eq_true e) ?_)
  exact Int.mul_le_mul_of_nonneg_right (Int.mul_le_mul h h h0 (by omega)) hq
theorem tck_uniq {ti : Int} {q : Rat} {S T : Int} (hq : 0 ≤ q.num) (h1 : Tck ti q S) (h2 : Tck ti q T) : S = T := by
  obtain ⟨a1, a2, a3⟩ := h1
  obtain ⟨b1, b2, b3⟩ := h2
  by_cases h : S ≤ T - 1
  · have := en_mono hq (by omega) h a2
    rw [b3] at this; cases this
  · by_cases h' : T ≤ S - 1
    · have := en_mono hq (by omega) h' b2
      rw [a3] at this; cases this
    · omega
theorem tkF_eq {ti : Int} {q : Rat} {T : Int} (hq : 0 ≤ q.num) (h : Tck ti q T) : tkF ti q = T := by
  have hx : ∃ T, Tck ti q T := ⟨T, h⟩
  unfold tkF
  rw [dif_pos hx]
  exact tck_uniq hq hx.choose_spec h
theorem num_pos' {q : Rat} (h : 0 < q) : 0 < q.num := by
  have h1 := Rat.num_nonneg.mpr (Rat.le_of_lt h)
  have h2 : q.num ≠ 0 := fun e => by
    rw [Rat.num_eq_zero.mp e] at h
    exact absurd h (by decide)
  omega
/-! ### entries -/
noncomputable def stepD (ti : Int) (zs : List Int) (q : Rat) : PyData := .tuple [.str "step", .tuple (zs.map PyData.int), .int (tkF ti q), ratD q]
theorem stepD_no (ti : Int) (zs : List Int) (q : Rat) : noL (stepD ti zs q) = true := by simp [stepD, noL, noLs, noLs_ints, ratD_no]
def spEnt (K : PySem.W.Frag) : Sp := fun vs H Q _ => ∃ m rv sq rs r f j ti zs q, vs = [m, rv, sq] ∧ RD K H m (machD rs r f j ti) ∧ OkM rs r f j ti ∧ RD K H rv (.tuple (zs.map PyData.int)) ∧ RatV K H sq q ∧ Bd 2000 q ∧ 0 < q ∧ ∀ v H', RD K H' v (stepD ti zs q) → Same H H' → Q v H'
abbrev sEnt : Stmt := top 41
theorem scEnt : FnScope ["machine", "row", "square"] ["machine", "row", "square"] (defScope sEnt) := ⟨rfl, rfl, rfl, by decide +kernel, rfl, by decide +kernel, by decide +kernel⟩
theorem ok_ent (F : FA K mg "step_entry" sEnt) (B : Blt mg) (hticks_of : FnHas P w K mg base "ticks_of" 2 (spTicks K)) : FnHas P w K mg base "step_entry" 3 (spEnt K) := by
  refine F.has scEnt (fun vs H Q E h => ?_) (fun _ _ _ _ _ _ us hl => match us, hl with | [_, _, _], _ => rfl) (fun f cdv A outer s H vs Q E hr h => ?_)
  · obtain ⟨m, rv, sq, rs, r, f, j, ti, zs, q, rfl, _⟩ := h
    rfl
  · obtain ⟨m, rv, sq, rs, r, f, j, ti, zs, q, rfl, rm, okm, rr, Rq, bq, q0, k⟩ := h
    have nd := scEnt.nd
    refine ⟨_, (pss_one (ps_ret (pe_tupA (pa_cons pe_str (pa_cons (pv 1) (pa_cons (pe_fn hticks_of (hr.mono (by decide)) rfl (pa_cons (pv 0) (pa_cons (pv 2) pa_nil))) (pa_cons (pv 2) pa_nil))))))), ?_⟩
    have t1 := okm.t1
    have qn : 0 < q.num := num_pos' q0
    refine ⟨_, rfl, _, rfl, _, rfl, m, sq, rs, r, f, j, ti, q, rfl, rm, Rq, bq, t1.1, t1.2, qn, fun T T1 _ T2 T3 => ?_⟩
    refine ⟨_, rfl, smallN _ (Nat.le_of_ble_eq_true rfl), fun t H1 n1 => k (.ref t) H1 ?_ n1.same⟩
    have e := tkF_eq (by omega) ⟨T1, T2, T3⟩
    unfold stepD
    rw [e]
    exact rd_tup (SqT.of n1.at') (rds_cons (rd_str _) (rds_cons (RD.mono n1.same _ rr) (rds_cons (rd_int _) (rds_cons (Rq.go n1.same).rd rds_nil))))
/-! ### tapes -/
noncomputable def linD (r f ti : Int) (ns : List Int) (top b e : Rat) : List PyData := (List.range (leadN ns)).map fun k => stepD ti (rowZ ns k) (midR r f (leadN ns) top b e k)
noncomputable def entD (r f j ti rate : Int) (ds : List PyData) (os : List Itm) (i : Nat) : List PyData := match os[i]? with
  | some (some (ns, sp)) => linD r f ti ns (topR rate sp) (planF r f j rate os i) (planF r f j rate os (i + 1))
  | _ => [ds.getD i .none]
noncomputable def tapeD (r f j ti rate : Int) (ds : List PyData) (os : List Itm) : Nat → List PyData
  | 0 => []
  | i + 1 => tapeD r f j ti rate ds os i ++ entD r f j ti rate ds os i
theorem linD_no (r f ti : Int) (ns : List Int) (top b e : Rat) : noLs (linD r f ti ns top b e) = true := noLs_mem.mpr fun d hd => by
  obtain ⟨k, _, rfl⟩ := List.mem_map.mp hd
  exact stepD_no _ _ _
theorem mid_pos {r f : Int} {ld k : Nat} {top b e : Rat} (hr : 1 ≤ r) (hf : 1 ≤ f) (hk : k < ld) (ht : 0 < top) (hb : 0 ≤ b) (he : 0 ≤ e) : 0 < midR r f ld top b e k := by
  have pos : ∀ {x : Rat} {z : Int}, 0 ≤ x → 0 < z → 0 < x + (z : Rat) := fun {x z} hx hz => by
    have h1 : ((0 : Int) : Rat) < (z : Rat) := Rat.intCast_lt_intCast.mpr hz
    have h2 : x + ((0 : Int) : Rat) < x + (z : Rat) := Rat.add_lt_add_left.mpr h1
    rw [show ((0 : Int) : Rat) = 0 from rfl, Rat.add_zero] at h2
    exact Std.lt_of_le_of_lt hx h2
  have h1 := pos (z := r * (2 * (1 + (k : Int)) - 1)) hb (Int.mul_pos (by omega) (by omega))
  have h2 := pos (z := f * (2 * ((ld : Int) - (1 + (k : Int))) + 1)) he (Int.mul_pos (by omega) (by omega))
  unfold midR
  rcases mn_cases (mn (b + ((r * (2 * (1 + (k : Int)) - 1) : Int) : Rat)) top) (e + ((f * (2 * ((ld : Int) - (1 + (k : Int))) + 1) : Int) : Rat)) with h | h
  · rw [h]
    rcases mn_cases (b + ((r * (2 * (1 + (k : Int)) - 1) : Int) : Rat)) top with h' | h' <;> rw [h'] <;> assumption
  · rw [h]; exact h2
theorem top_pos {rate sp : Int} (h1 : 1 ≤ sp) (h2 : 10 ≤ rate) : 0 < topR rate sp := by
  have h0 := Ow.topR_nn rate sp
  refine Std.lt_of_le_of_ne h0 fun e => ?_
  have hp : 0 < (sp * rate) ^ 2 := by
    rw [Int.pow_succ, Int.pow_succ, Int.pow_zero, Int.one_mul]
    exact Int.mul_pos (Int.mul_pos (by omega) (by omega)) (Int.mul_pos (by omega) (by omega))
  have h2 : 0 ≤ Rat.divInt (-((sp * rate) ^ 2)) 10000 := by
    rw [← Rat.neg_divInt]
    show 0 ≤ -(topR rate sp)
    rw [← e]; decide
  have := (Rat.divInt_nonneg_iff_of_pos_right (by decide)).mp h2
  omega
end
end Lw



set_option Elab.async false
set_option linter.all false
set_option maxRecDepth 100000
set_option maxHeartbeats 1000000
set_option exponentiation.threshold 6000
namespace Lw
open PySem PySem.Spec PyProof.Rows L2 Rt Ln Cn Pn
open Ow (topR cornO mnO betR atO ownF leadF ownL OkI OkIs)
section
variable {P : Program} {w : World} {K : PySem.W.Frag} {mg : Str → Option Value} {base : Heap}
theorem ent_line {r f j ti rate : Int} {ds : List PyData} {os : List Itm} {i : Nat} {ns : List Int} {sp : Int} (h : os[i]? = some (some (ns, sp))) : entD r f j ti rate ds os i = linD r f ti ns (topR rate sp) (planF r f j rate os i) (planF r f j rate os (i + 1)) := by
  unfold entD; rw [h]
theorem ent_other {r f j ti rate : Int} {ds : List PyData} {os : List Itm} {i : Nat} {d : PyData} (h : os[i]? = some none) (hd : ds[i]? = some d) : entD r f j ti rate ds os i = [d] := by
  unfold entD; rw [h, List.getD_eq_getElem?_getD, hd]; rfl
theorem tape_no {n : Nat} {r f j ti rate : Int} {ds : List PyData} {os : List Itm} (row : RowOk n ds os) : ∀ i, i ≤ os.length → noLs (tapeD r f j ti rate ds os i) = true
  | 0, _ => rfl
  | i + 1, h => by
    have ll := row.len
    refine noLs_mem.mpr fun d hd => ?_
    rcases List.mem_append.mp hd with h1 | h1
    · exact noLs_mem.mp (tape_no row i (by omega)) d h1
    · obtain ⟨o, eo⟩ : ∃ o, os[i]? = some o := ⟨_, List.getElem?_eq_getElem (show i < os.length by omega)⟩
      cases o with
      | none =>
        obtain ⟨d', ed⟩ : ∃ d', ds[i]? = some d' := ⟨_, List.getElem?_eq_getElem (show i < ds.length by omega)⟩
        rw [ent_other eo ed, List.mem_singleton] at h1
        subst h1
        exact noLs_mem.mp row.no _ (List.mem_of_getElem? ed)
      | some q =>
        obtain ⟨ns, sp⟩ := q
        rw [ent_line eo] at h1
        exact noLs_mem.mp (linD_no _ _ _ _ _ _ _) d h1
theorem tape_len {n : Nat} {r f j ti rate : Int} {ds : List PyData} {os : List Itm} (row : RowOk n ds os) : ∀ i, i ≤ os.length → (tapeD r f j ti rate ds os i).length ≤ 100 * i
  | 0, _ => Nat.le_refl _
  | i + 1, h => by
    have ll := row.len
    have ih := tape_len (r := r) (f := f) (j := j) (ti := ti) (rate := rate) row i (by omega)
    show (tapeD r f j ti rate ds os i ++ entD r f j ti rate ds os i).length ≤ _
    rw [List.length_append]
    obtain ⟨o, eo⟩ : ∃ o, os[i]? = some o := ⟨_, List.getElem?_eq_getElem (show i < os.length by omega)⟩
    cases o with
    | none =>
      obtain ⟨d', ed⟩ : ∃ d', ds[i]? = some d' := ⟨_, List.getElem?_eq_getElem (show i < ds.length by omega)⟩
      rw [ent_other eo ed]
      show _ + 1 ≤ _
      omega
    | some q =>
      obtain ⟨ns, sp⟩ := q
      obtain ⟨okn, _, _⟩ := row.ok i ns sp eo
      have := lead_100 okn
      rw [ent_line eo, linD, List.length_map, List.length_range]
      omega
def spTape (K : PySem.W.Frag) : Sp := fun vs H Q _ => ∃ m iv rate rs r f j t ds os, vs = [m, iv, .int rate] ∧ RD K H m (machD rs r f j t) ∧ OkM rs r f j t ∧ RD K H iv (.tuple ds) ∧ RowOk rs.length ds os ∧ ds.length ≤ 30 ∧ 10 ≤ rate ∧ rate ≤ 200 ∧ ∀ l ys H', H l = none → H' l = some (.lst ys) → RDs K H' ys (tapeD r f j t rate ds os os.length) → Same H H' → Q (.ref l) H'
theorem planF_bd {rs : List Int} {r f j t rate : Int} {ds : List PyData} {os : List Itm} (okm : OkM rs r f j t) (row : RowOk rs.length ds os) (hz : ds.length ≤ 30) (rt1 : 10 ≤ rate) (rt2 : rate ≤ 200) : ∀ i, i ≤ os.length → Bd 1700 (planF r f j rate os i) := fun i hi => by
  have ll := row.len
  have hB := Ow.ownF_bd okm.j1.1 okm.j1.2 rt1 rt2 row.okI
  have hL : ∀ i m, leadF os i = some m → (2 * r * (m : Int)).natAbs < 2 ^ 24 := fun i m e => up_small okm.r1.1 okm.r1.2 (leadF_le row.okI e)
  have hL2 : ∀ i m, leadF os i = some m → (2 * f * (m : Int)).natAbs < 2 ^ 24 := fun i m e => up_small okm.f1.1 okm.f1.2 (leadF_le row.okI e)
  exact (fl_bd (b := 900) (fun i hi => (Rz_bd hB hL i).mono (by omega)) hL2 i hi).mono (by omega)
abbrev sTape : Stmt := top 42
theorem scTape : FnScope ["machine", "items", "rate", "plan", "tape", "i", "item", "squares"] ["machine", "items", "rate"] (defScope sTape) := ⟨rfl, rfl, rfl, by decide +kernel, rfl, by decide +kernel, by decide +kernel⟩
theorem ok_tape (F : FA K mg "tape_of" sTape) (B : Blt mg) (hplan_of : FnHas P w K mg base "plan_of" 9 (spPlan K)) (his_line : FnHas P w K mg base "is_line" 1 (spIsLn K)) (hmiddles : FnHas P w K mg base "middles" 5 (spMid K)) (hstep_rows : FnHas P w K mg base "step_rows" 3 (spRows K)) (hstep_entry : FnHas P w K mg base "step_entry" 3 (spEnt K)) : FnHas P w K mg base "tape_of" 10 (spTape K) := by
  refine F.has scTape (fun vs H Q E h => ?_) (fun _ _ _ _ _ _ us hl => match us, hl with | [_, _, _], _ => rfl) (fun fa cdv A outer s H vs Q E hr h => ?_)
  · obtain ⟨m, iv, rate, rs, r, f, j, t, ds, os, rfl, _⟩ := h
    rfl
  · obtain ⟨m, iv, rate, rs, r, f, j, t, ds, os, rfl, rm, okm, ri, row, hz, rt1, rt2, k⟩ := h
    have nd := scTape.nd
    refine ⟨_, (pss_cons (ps_set (i := 3) nd rfl (Or.inl rfl) (pe_fn hplan_of (hr.mono (by decide)) rfl (pa_cons (pv 0) (pa_cons (pv 1) (pa_cons (pv 2) pa_nil)))))
    (pss_cons (ps_set (i := 4) nd rfl (Or.inl rfl) (pe_lstA pa_nil))
    (pss_cons (ps_for PassesOwn.never rfl (pi_enum K rfl false rfl (B.at "enumerate") (pa_cons (pv 1) pa_nil)) (pgT K rfl (n := 2) rfl (pgs_cons (pg_name (i := 5) nd rfl (Or.inl rfl)) (pgs_cons (pg_name (i := 6) nd rfl (Or.inl rfl)) pgs_nil)))
    (pss_one (ps_if (pt_val (pe_fn his_line (hr.mono (by decide)) rfl (pa_cons (pv 6) pa_nil)))
    (pss_cons (ps_set (i := 7) nd rfl (Or.inl rfl) (pe_fn hmiddles (hr.mono (by decide)) rfl (pa_cons (pv 0) (pa_cons (pv 6) (pa_cons (pe_ix (ixK K rfl) (pv 3) (pv 5) (fun _ _ => rfl)) (pa_cons (pe_ix (ixK K rfl) (pv 3) (pe_op op_add (pv 5) pe_int) (fun _ _ => rfl)) (pa_cons (pv 2) pa_nil)))))))
    (pss_one (ps_expr (peExt K rfl (pv 4) (pa_cons (pe_comp (N := ["row", "square", "machine"]) (js := [none, none, some 0]) rfl rfl rfl (pi_zip K rfl true true rfl (B.at "zip") (pa_cons (pe_fn hstep_rows (hr.mono (by decide)) rfl (pa_cons (pv 6) pa_nil)) (pa_cons (pv 7) pa_nil))) (fun _ _ _ _ _ => (pgT K rfl (n := 2) rfl (pgs_cons (pg_name (i := 0) (show List.Nodup (["row", "square", "machine"] : List Str) by decide +kernel) rfl (Or.inl rfl)) (pgs_cons (pg_name (i := 1) (show List.Nodup (["row", "square", "machine"] : List Str) by decide +kernel) rfl (Or.inl rfl)) pgs_nil)))) (fun _ _ _ _ _ => pts_nil) (fun _ _ _ _ _ => (pe_fn hstep_entry (hr.mono (by decide)) rfl (pa_cons (pv 2) (pa_cons (pv 0) (pa_cons (pv 1) pa_nil)))))) pa_nil)))))
    (pss_one (ps_expr (peApp K rfl (pv 4) (pa_cons (pv 6) pa_nil)))))))
    (pss_one (ps_ret (pv 4)))))), ?_⟩
    have ll := row.len
    have lr := okm.len
    have r50 := okm.r1
    have f50 := okm.f1
    have PB := planF_bd okm row hz rt1 rt2
    have PN : ∀ i, i ≤ os.length → 0 ≤ planF r f j rate os i := plan_nn (by omega) (by omega) (fun i _ => Ow.ownF_nn j rate os i)
    refine ⟨_, rfl, _, rfl, _, rfl, m, iv, rate, rs, r, f, j, t, ds, os, rfl, rm, okm, ri, row, hz, rt1, rt2, fun l1 y1 H1 nl1 dl1 rl1 s1 => ?_⟩
    have ly1 := rl1.length
    rw [List.length_map, planL_len] at ly1
    refine ⟨smallN _ (Nat.le_of_ble_eq_true rfl), fun D H2 n2 => ?_⟩
    have nD : H D = none := by
      cases e : H D with
      | none => rfl
      | some o => have := s1 _ _ e; rw [n2.no] at this; cases this
    obtain ⟨ia, xs, rfl, hi, hxs⟩ := ri.tup_inv
    have lx := hxs.length
    refine ⟨_, rfl, ia, rfl, ⟨_, hi.go (s1.trans n2.same)⟩, for_enum (K := K) (b := false) (a := ia) (xs := xs) (fun i σ H3 => Same H1 H3 ∧ ∃ zs v1 v2 v3, H3 D = some (.lst zs) ∧ RDs K H3 zs (tapeD r f j t rate ds os i) ∧ σ = [some m, some (.ref ia), some (.int rate), some (.ref l1), some (.ref D), v1, v2, v3]) ⟨n2.same, [], none, none, none, n2.at', rds_nil, rfl⟩ (fun i σ H3 _ h => hi.go (s1.trans h.1)) ?_ ?_⟩
    · rintro i y σ H3 hy ⟨s3, zs, v1, v2, v3, dz, rz, rfl⟩ T H4 n4
      have hix : i < xs.length := (List.getElem?_eq_some_iff.mp hy).1
      obtain ⟨d, ed, rd⟩ := hxs.get' i hy
      obtain ⟨o, eo, it⟩ := row.get ed
      have s14 := s3.trans n4.same
      have s4 := s1.trans s14
      have dz4 := n4.same _ _ dz
      have rz4 := RDs.mono n4.same _ rz
      have rd4 := RD.mono s4 _ rd
      have tn := tape_no (r := r) (f := f) (j := j) (ti := t) (rate := rate) row i (by omega)
      have tl := tape_len (r := r) (f := f) (j := j) (ti := t) (rate := rate) row i (by omega)
      have lz := rz.length
      have h24 : sizeLine = 16777216 := by decide
      refine ⟨T, _, rfl, SqT.of n4.at', rfl, _, _, rfl, _, _, rfl, rfl, ?_⟩
      refine ⟨_, rfl, y, d, o, rfl, rd4, it, _, rfl, ?_⟩
      cases o with
      | none =>
        refine iteF ?_
        refine ⟨_, rfl, .inl ⟨rfl, _, SqL.of dz4⟩, _, rfl, D, zs, _, rfl, rfl, dz4, (by omega), ?_⟩
        refine ⟨fun b o e => ?_, _, _, _, _, upd_same, ?_, rfl⟩
        · rw [upd_ne (ne_of_none e n2.no)]; exact s14 b o e
        · show RDs K _ _ (tapeD r f j t rate ds os i ++ entD r f j t rate ds os i)
          rw [ent_other eo ed]
          exact RDs.snocT dz4 rz4 rd4 tn it.no
      | some q =>
        obtain ⟨ns, sp⟩ := q
        refine iteT ?_
        have ed' := it_line it
        subst ed'
        obtain ⟨okn, sp1, sp2⟩ := row.ok i ns sp eo
        have l100 := lead_100 okn
        have dl4 := s14 _ _ dl1
        have rl4 := RDs.mono s14 _ rl1
        obtain ⟨z0, ez0⟩ : ∃ z, y1[i]? = some z := ⟨_, List.getElem?_eq_getElem (show i < y1.length by omega)⟩
        obtain ⟨z1, ez1⟩ : ∃ z, y1[i + 1]? = some z := ⟨_, List.getElem?_eq_getElem (show i + 1 < y1.length by omega)⟩
        have eT1 : ((i : Int) + 1).toNat = i + 1 := by omega
        have at0 : atI y1 (i : Int) = some z0 := atI_of (by omega) (by simpa using ez0)
        have at1 : atI y1 ((i : Int) + 1) = some z1 := atI_of (by omega) (by rw [eT1]; exact ez1)
        have rat : ∀ (c : Nat) (u : V), c ≤ os.length → y1[c]? = some u → RatV K H4 u (planF r f j rate os c) := by
          intro c u hc e
          obtain ⟨d1, e1, r1⟩ := rl4.get' c e
          rw [List.getElem?_map] at e1
          have e2 : (planL r f j rate os)[c]? = some (planF r f j rate os c) := lst_get _ hc
          rw [e2] at e1
          cases e1
          exact ratOf r1
        have R0 := rat i z0 (by omega) ez0
        have R1 := rat (i + 1) z1 (by omega) ez1
        have P0 := PN i (by omega)
        have P1 := PN (i + 1) (by omega)
        refine ⟨_, rfl, _, rfl, _, rfl, _, rfl, .inl ⟨l1, _, _, _, rfl, rfl, SqL.of dl4, at0, ?_⟩⟩
        refine ⟨_, rfl, _, rfl, _, _, rfl, rfl, .inl ⟨l1, _, _, _, rfl, rfl, SqL.of dl4, at1, ?_⟩⟩
        refine ⟨_, rfl, m, y, z0, z1, rate, rs, r, f, j, t, ns, sp, _, _, rfl, RD.mono s4 _ rm, okm, rd4, okn, sp1, sp2, R0, R1, (PB i (by omega)).mono (by decide), (PB (i + 1) (by omega)).mono (by decide), rt1, rt2, fun l2 y2 H5 nl2 dl2 rl2 s5 => ?_⟩
        have dz5 := s5 _ _ dz4
        refine ⟨_, rfl, .inl ⟨rfl, _, SqL.of dz5⟩, ?_⟩
        refine ⟨_, rfl, y, ns, sp, rfl, RD.mono s5 _ rd4, ⟨rfl, fun z hz => by have := okn.bd z hz; omega, okn.nz⟩, by rw [okn.len]; omega, fun l3 y3 H6 nl3 dl3 rl3 s6 => ?_⟩
        have dl2_6 := s6 _ _ dl2
        have rl2_6 := RDs.mono s6 _ rl2
        have ly2 := rl2.length
        rw [List.length_map, midL, List.length_map, List.length_range] at ly2
        have ly3 := rl3.length
        rw [rowsD, List.length_map, List.length_range] at ly3
        refine ⟨_, rfl, l3, l2, rfl, ⟨_, SqL.of dl3⟩, ⟨_, SqL.of dl2_6⟩, fun D2 H7 n7 => ?_⟩
        have s46 := s5.trans s6
        refine comp_rdZ (K := K) (b1 := true) (b2 := true) (xs := y3) (ys := y2) (ds := linD r f t ns (topR rate sp) (planF r f j rate os i) (planF r f j rate os (i + 1))) _ rfl (SqL.of dl3) (SqL.of dl2_6) n7 (by rw [linD, List.length_map, List.length_range]; omega) (by rw [linD, List.length_map, List.length_range]; omega) (linD_no _ _ _ _ _ _ _) ?_ ?_
        · intro q x y' dd H8 Q' ex ey edd s8 hq
          have hq3 : q < leadN ns := by have := (List.getElem?_eq_some_iff.mp ex).1; omega
          obtain ⟨d3, e3, r3⟩ := rl3.get' q ex
          obtain ⟨d2, e2, r2⟩ := rl2_6.get' q ey
          rw [rowsD, List.getElem?_map, List.getElem?_range hq3] at e3
          cases e3
          rw [midL, List.getElem?_map, List.getElem?_map, List.getElem?_range hq3] at e2
          cases e2
          rw [linD, List.getElem?_map, List.getElem?_range hq3] at edd
          cases edd
          have hb1 := rise_bd r50.1 r50.2 hq3 l100
          have hb2 := fall_bd f50.1 f50.2 hq3 l100
          have bm : Bd 2000 (midR r f (leadN ns) (topR rate sp) (planF r f j rate os i) (planF r f j rate os (i + 1)) q) :=
            mn_bd (mn_bd ((add_bd (PB i (by omega)) (by rw [pow24]; omega)).mono (by decide)) ((Ow.topR_bd sp1 sp2 rt1 rt2).mono (by decide))) ((add_bd (PB (i + 1) (by omega)) (by rw [pow24]; omega)).mono (by decide))
          refine ⟨_, rfl, _, rfl, _, rfl, m, x, y', rs, r, f, j, t, rowZ ns q, _, rfl, RD.mono (s4.trans (s46.trans s8)) _ rm, okm, RD.mono s8 _ r3, ratOf (RD.mono s8 _ r2), bm, mid_pos r50.1 f50.1 hq3 (top_pos sp1 rt1) P0 P1, fun v H9 rv s9 => hq v H9 s9 rv⟩
        · intro H8 z8 s8 d8 r8
          have s48 := s46.trans s8
          have dz8 := s48 _ _ dz4
          have l8 := r8.length
          rw [linD, List.length_map, List.length_range] at l8
          refine ⟨D, D2, zs, z8, rfl, rfl, dz8, d8, (by omega), ?_⟩
          have tu : SameT H8 (L2.upd H8 D (.lst (zs ++ z8))) := .updL dz8
          refine ⟨fun b o e => ?_, _, _, _, _, upd_same, ?_, rfl⟩
          · rw [upd_ne (ne_of_none e n2.no)]; exact s48 b o (s14 b o e)
          · show RDs K _ _ (tapeD r f j t rate ds os i ++ entD r f j t rate ds os i)
            rw [ent_line eo]
            exact (RDs.t tu _ tn (RDs.mono s48 _ rz4)).append (RDs.t tu _ (linD_no _ _ _ _ _ _ _) r8)
    · rintro σ H3 ⟨s3, zs, v1, v2, v3, dz, rz, rfl⟩
      have e : xs.length = os.length := by omega
      rw [e] at rz
      exact ⟨_, rfl, k D zs H3 nD dz rz (s1.trans s3)⟩
end
end Lw



set_option Elab.async false
set_option linter.all false
set_option maxRecDepth 100000
set_option maxHeartbeats 1000000
set_option exponentiation.threshold 6000
namespace Lw
open PySem PySem.Spec PyProof.Rows L2 Rt Ln Wk
section
variable {P : Program} {w : World} {K : PySem.W.Frag} {mg : Str → Option Value} {base : Heap}
def pairD (p : Int × Int) : PyData := .tuple [.int p.1, .int p.2]
def szZ : List (Int × Int) := [(6, 10), (4, 20), (8, 5), (3, 30), (10, 4), (5, 12), (2, 60), (6, 10)]
def spSz (K : PySem.W.Frag) : Sp := fun vs H Q _ => ∃ p fi, vs = [.ref p, .bl fi] ∧ IsBag H p ∧ ∀ t many most H', SqT K H' t [.int many, .int most] → 1 ≤ many → many ≤ 20 → 1 ≤ most → most ≤ 100 → BagX p H H' → Q (.ref t) H'
abbrev sSz : Stmt := top 56
theorem scSz : FnScope ["_law_bag_here", "_law_first", "_law_kind"] ["_law_bag_here", "_law_first"] (defScope sSz) := ⟨rfl, rfl, rfl, by decide +kernel, rfl, by decide +kernel, by decide +kernel⟩
def szE : Expr := match (defBody sSz) with | [_, _, _, .Return (some (.Subscript e _ _)) _] => e | _ => .Constant .none 0 ⟨0, 0, 0, 0⟩
theorem szE_lit : lit 4 szE = some (.list (szZ.map pairD)) := by kernel_rfl
def mkSz (e : Expr) : List Stmt := match defBody sSz with | [a, b, c, .Return (some (.Subscript _ i p)) q] => [a, b, c, .Return (some (.Subscript e i p)) q] | r => r
theorem mkSz_eq : mkSz szE = defBody sSz := by kernel_rfl
theorem sz_body {f : Addr} {cdv : Value} {A : Around} {outer : List Env} {s : Shared} {H : Hp} {p : Addr} {fi : Bool} {Q : VK} {E : XK} (e : Expr) (hr : Room 1 (A.deeper (envOfC "_law_sizes" (defScope sSz) s.heap.objs.size f cdv)))
    (he : PEb (cxOf CX0 P w K mg base ["_law_bag_here", "_law_first", "_law_kind"] "_law_sizes" (defScope sSz) f cdv A outer s H E).nox e (tLit K (.list (szZ.map pairD))))
    (B : Blt mg) (hL_take : FnHas P w K mg base "_law_take" 1 spTake) (bg : IsBag H p) (k : ∀ t many most H', SqT K H' t [.int many, .int most] → 1 ≤ many → many ≤ 20 → 1 ≤ most → most ≤ 100 → BagX p H H' → Q (.ref t) H') :
    ∃ t, PSs (cxOf CX0 P w K mg base ["_law_bag_here", "_law_first", "_law_kind"] "_law_sizes" (defScope sSz) f cdv A outer s H E).nox (mkSz e) t ∧ t { nx := fun _ H' => Q .non H', rt := Q } (start ["_law_bag_here", "_law_first", "_law_kind"] [.ref p, .bl fi]) H := by
    have nd := scSz.nd
    refine ⟨_, (pss_cons (ps_set (i := 2) nd rfl (Or.inl rfl) (pe_fn hL_take (hr.mono (by decide)) rfl (pa_cons (pv 0) (pa_cons pe_int pa_nil))))
    (pss_cons (ps_if (PW.pt (pw_and (pt_val (pv 1)) (pw_and1 (pt_cmpR (eqK K rfl hr.units) (pv 2) pe_int (nomark _)))))
    (pss_one (ps_ret (pe_tupA (pa_cons pe_int (pa_cons pe_int pa_nil)))))
    pss_nil)
    (pss_cons (ps_if (PW.pt (pw_and (pt_val (pv 1)) (pw_and1 (pt_cmpR (eqK K rfl hr.units) (pv 2) pe_int (nomark _)))))
    (pss_one (ps_ret (pe_tupA (pa_cons pe_int (pa_cons pe_int pa_nil)))))
    pss_nil)
    (pss_one (ps_ret (pe_ix (ixK K rfl) he.out (pv 2) (fun _ _ => rfl))))))), ?_⟩
    refine ⟨_, rfl, p, 8, rfl, bg, by decide, by decide, fun kd H1 k0 k1 b1 => ?_⟩
    have tb : ∀ {H2 : Hp} {t : Addr} {x y : Int}, Nw H1 H2 t (.tup [.int x, .int y]) → 1 ≤ x → x ≤ 20 → 1 ≤ y → y ≤ 100 → Q (.ref t) H2 := fun n2 h1 h2 h3 h4 => k _ _ _ _ (SqT.of n2.at') h1 h2 h3 h4 (b1.trans (.ofSame b1.bag n2.same))
    have fin : ∀ (v : V) (H2 : Hp), Same H1 H2 → RD K (fr H1 H2) v (.list (szZ.map pairD)) → ∃ l xs t x y, v = .ref l ∧ SqL K H2 l xs ∧ atI xs kd = some (.ref t) ∧ SqT K H2 t [.int x, .int y] ∧ 1 ≤ x ∧ x ≤ 20 ∧ 1 ≤ y ∧ y ≤ 100 := fun v H2 s2 r2 => by
      obtain ⟨l, xs, rfl, hx, hd⟩ := (RD.mono fr_same _ r2).lst_inv
      have hl := hd.length
      have hk : kd.toNat < szZ.length := by show kd.toNat < 8; omega
      obtain ⟨y, ey, ry⟩ := hd.get kd.toNat (show (szZ.map pairD)[kd.toNat]? = some (pairD szZ[kd.toNat]) by rw [List.getElem?_map, List.getElem?_eq_getElem hk]; rfl)
      have hb : ∀ q ∈ szZ, 1 ≤ q.1 ∧ q.1 ≤ 20 ∧ 1 ≤ q.2 ∧ q.2 ≤ 100 := by decide
      obtain ⟨h1, h2, h3, h4⟩ := hb _ (List.getElem_mem hk)
      obtain ⟨t, zs, rfl, ht, hz⟩ := ry.tup_inv
      obtain ⟨z1, zr, rfl, e1, hz⟩ := hz.cons_inv
      obtain ⟨z2, zr, rfl, e2, hz⟩ := hz.cons_inv
      cases hz.nil_inv
      cases e1.int_inv
      cases e2.int_inv
      exact ⟨l, xs, t, _, _, rfl, hx, atI_of k0 ey, ht, h1, h2, h3, h4⟩
    refine ⟨_, rfl, _, rfl, ?_⟩
    refine ite2 (fun hf => ?_) (fun hf => ?_)
    · refine ⟨_, rfl, .inl ⟨_, _, rfl, rfl, _, rfl, ?_⟩⟩
      refine ite2 (fun hc => ?_) (fun hc => ?_)
      · exact ⟨smallN _ (Nat.le_of_ble_eq_true rfl), fun t H2 n2 => tb n2 (by decide) (by decide) (by decide) (by decide)⟩
      refine ⟨_, rfl, _, rfl, ?_⟩
      refine ite2 (fun hf => ?_) (fun hf' => absurd hf hf')
      refine ⟨_, rfl, .inl ⟨_, _, rfl, rfl, _, rfl, ?_⟩⟩
      refine ite2 (fun hc => ?_) (fun hc => ?_)
      · exact ⟨smallN _ (Nat.le_of_ble_eq_true rfl), fun t H2 n2 => tb n2 (by decide) (by decide) (by decide) (by decide)⟩
      intro v H2 s2 r2
      obtain ⟨l, xs, t, x, y, rfl, hx, ht, hT, h1, h2, h3, h4⟩ := fin v H2 s2 r2
      exact ⟨_, rfl, .inl ⟨l, _, _, _, rfl, rfl, hx, ht, k _ _ _ _ hT h1 h2 h3 h4 (b1.trans (.ofSame b1.bag s2))⟩⟩
    · refine ⟨_, rfl, _, rfl, ?_⟩
      refine ite2 (fun hf' => absurd hf' hf) (fun hf' => ?_)
      intro v H2 s2 r2
      obtain ⟨l, xs, t, x, y, rfl, hx, ht, hT, h1, h2, h3, h4⟩ := fin v H2 s2 r2
      exact ⟨_, rfl, .inl ⟨l, _, _, _, rfl, rfl, hx, ht, k _ _ _ _ hT h1 h2 h3 h4 (b1.trans (.ofSame b1.bag s2))⟩⟩
theorem ok_sz (F : FA K mg "_law_sizes" sSz) (B : Blt mg) (hL_take : FnHas P w K mg base "_law_take" 1 spTake) : FnHas P w K mg base "_law_sizes" 2 (spSz K) := by
  refine F.has scSz (fun vs H Q E h => ?_) (fun _ _ _ _ _ _ us hl => match us, hl with | [_, _], _ => rfl) (fun f cdv A outer s H vs Q E hr h => ?_)
  · obtain ⟨p, fi, rfl, _⟩ := h
    rfl
  · obtain ⟨p, fi, rfl, bg, k⟩ := h
    rw [← mkSz_eq]
    exact sz_body szE hr (pe_litB K rfl 4 szE _ szE_lit) B hL_take bg k
end
end Lw



set_option Elab.async false
set_option linter.all false
set_option maxRecDepth 100000
set_option maxHeartbeats 1000000
set_option exponentiation.threshold 6000
namespace Lw
open PySem PySem.Spec PyProof.Rows L2 Rt Ln Wk
section
variable {P : Program} {w : World} {K : PySem.W.Frag} {mg : Str → Option Value} {base : Heap}
theorem shW {z : Str} (h : z = "step" ∨ z = "wait" ∨ z = "tool" ∨ z = "mark") : SeqAt.shaped (.str z) = true := by
  rcases h with rfl | rfl | rfl | rfl <;> decide +kernel
end
end Lw



set_option Elab.async false
set_option linter.all false
set_option maxRecDepth 100000
set_option maxHeartbeats 1000000
set_option exponentiation.threshold 6000
namespace Lw
open PySem PySem.Spec PyProof.Rows L2 Rt Ln Wk Pn
open Ow (topR)
section
/-! ### the times of a tape -/
end
end Lw



set_option Elab.async false
set_option linter.all false
set_option maxRecDepth 100000
set_option maxHeartbeats 1000000
set_option exponentiation.threshold 6000
namespace Lw
open PySem PySem.Spec PyProof.Rows L2 Rt Ln Wk Pn
open Ow (topR)
section
variable {P : Program} {w : World} {K : PySem.W.Frag} {mg : Str → Option Value} {base : Heap}
theorem okd_s {z : Str} {n : Nat} (h : SeqAt.shaped (.str z) = true) : OkD n (.str z) := ⟨SeqAt.canLay_of_shaped h, Nat.zero_le _⟩
end
end Lw



set_option Elab.async false
set_option linter.all false
set_option maxRecDepth 100000
set_option maxHeartbeats 1000000
namespace Lw
open PySem PySem.Spec PyProof.Rows L2 Ln
section
variable {P : Program} {w : World} {K : PySem.W.Frag} {mg : Str → Option Value} {base : Heap}
def spStandL (K : PySem.W.Frag) : Sp := fun vs H Q _ => ∃ v ns sp k, vs = [v, .int k] ∧ RD K H v (lineD ns sp) ∧ OkL ns.length 1000 ns ∧ ns.length ≤ 1000 ∧ 0 ≤ k ∧ k ≤ 10 ^ 6 ∧ ∀ v' H', RD K H' v' (standD ns k) → Same H H' → Q v' H'
theorem far_near {k n q : Int} (hk : 0 ≤ k) (hq : 0 < q) : (if n < 0 then -((2 * k * absI n + q) / (2 * q)) else (2 * k * absI n + q) / (2 * q)) = nearN (k * n) q := by
  have e : 2 * k * absI n = 2 * ((k * n).natAbs : Int) := by
    rw [absI_eq, Int.natAbs_mul, Int.natCast_mul, Int.mul_assoc, Int.natAbs_of_nonneg hk]
  rw [e]
  show (if n < 0 then -(sizeN (k * n) q) else sizeN (k * n) q) = nearN (k * n) q
  rcases Int.lt_or_le n 0 with hn | hn
  · rw [if_pos hn]
    rcases Int.lt_or_le 0 k with h0 | h0
    · have : k * n < 0 := Int.mul_neg_of_pos_of_neg h0 hn
      unfold nearN
      rw [if_neg (by omega)]
    · have e0 : k = 0 := by omega
      rw [e0, Int.zero_mul, near_zero hq]
      have := near_zero hq
      unfold nearN at this
      rw [if_pos (by omega)] at this
      omega
  · rw [if_neg (by omega)]
    have : 0 ≤ k * n := Int.mul_nonneg hk hn
    unfold nearN
    rw [if_pos this]
abbrev sStandL : Stmt := top 58
theorem scStandL : FnScope ["_law_line_here", "_law_k", "_law_lead_here", "_law_found", "_law_step", "_law_far"] ["_law_line_here", "_law_k"] (defScope sStandL) := ⟨rfl, rfl, rfl, by decide +kernel, rfl, by decide +kernel, by decide +kernel⟩
theorem ok_standL (F : FA K mg "_law_stand" sStandL) (B : Blt mg) (hL_lead : FnHas P w K mg base "_law_lead" 1 (spLead K)) : FnHas P w K mg base "_law_stand" 2 (spStandL K) := by
  refine F.has scStandL (fun vs H Q E h => ?_) (fun _ _ _ _ _ _ us hl => match us, hl with | [_, _], _ => rfl) (fun f cdv A outer s H vs Q E hr h => ?_)
  · obtain ⟨v, ns, sp, k, rfl, _⟩ := h
    rfl
  · obtain ⟨v, ns, sp, kk, rfl, rd, ok, hz, hk, hk2, k⟩ := h
    have nd := scStandL.nd
    refine ⟨_, (pss_cons (ps_set (i := 2) nd rfl (Or.inl rfl) (pe_fn hL_lead (hr.mono (by decide)) rfl (pa_cons (pv 0) pa_nil)))
    (pss_cons (ps_set (i := 3) nd rfl (Or.inl rfl) (pe_lstA pa_nil))
    (pss_cons (ps_for PassesOwn.never rfl (piT K rfl (pe_ix (ixK K rfl) (pv 0) pe_int (fun _ _ => rfl))) (pg_name (i := 4) nd rfl (Or.inl rfl))
    (pss_cons (ps_set (i := 5) nd rfl (Or.inl rfl) (pe_op op_fdivW (pe_op op_add (pe_op op_mulG (pe_op op_mulG pe_int (pv 1)) (pe_callB (x := "abs") call_abs rfl (B.at "abs") PyProof.Rows.boot_abs (pa_cons (pv 4) pa_nil))) (pv 2)) (pe_op op_mulG pe_int (pv 2))))
    (pss_one (ps_expr (peApp K rfl (pv 3) (pa_cons (pe_ix (ixK K rfl) (pe_lstA (pa_cons (pv 5) (pa_cons (pe_un un_neg (pv 5)) pa_nil))) (pe_callTy (x := "int") call_int1 rfl (B.at "int") PyProof.Rows.boot_int (pa_cons (pe_cmpR op_lt (pv 4) pe_int (nomark _)) pa_nil)) (fun _ _ => rfl)) pa_nil))))))
    (pss_one (ps_ret (pe_callTy (x := "tuple") (tupleK K rfl) rfl (B.at "tuple") PyProof.Rows.boot_tuple (pa_cons (pv 3) pa_nil))))))), ?_⟩
    refine ⟨_, rfl, v, ns, sp, rfl, rd, ok.ne, hz, fun H1 s1 => ?_⟩
    obtain ⟨lp, lm⟩ := ok.lead
    refine ⟨smallN _ (Nat.le_of_ble_eq_true rfl), fun l H2 n2 => ?_⟩
    obtain ⟨a, b, rfl, ha, hb⟩ := line_inv (RD.mono (s1.trans n2.same) _ rd)
    refine ⟨_, rfl, .inr ⟨a, _, 1, .ref b, rfl, rfl, ha, rfl, b, rfl, ⟨_, hb⟩, for_tup (K := K) (a := b) (xs := ns.map V.int) (fun i σ H3 => Same H1 H3 ∧ SqT K H3 b (ns.map V.int) ∧ H3 l = some (.lst (((ns.map fun z => nearN (kk * z) (leadN ns)).take i).map V.int)) ∧ ∃ v1 v2, σ = [some (.ref a), some (.int kk), some (.int (leadN ns)), some (.ref l), v1, v2]) ⟨n2.same, hb, n2.at', none, none, rfl⟩ (fun i σ H3 _ h => h.2.1) ?_ ?_⟩⟩
    · rintro i x σ H3 hx ⟨s3, hb3, dl, v1, v2, rfl⟩
      obtain ⟨n, en⟩ : ∃ n, ns[i]? = some n := by
        rw [List.getElem?_map] at hx
        cases e : ns[i]? with
        | none => rw [e] at hx; cases hx
        | some n => exact ⟨n, rfl⟩
      cases map_getV hx en
      have nb := ok.bd n (List.mem_of_getElem? en)
      have hi : i < ns.length := (List.getElem?_eq_some_iff.mp en).1
      have ab : absI n = (n.natAbs : Int) := absI_eq n
      have pb := prod_le (k := kk) (z := n) (by omega) nb
      have eA : 2 * kk * absI n = 2 * ((kk * n).natAbs : Int) := by
        rw [ab, Int.natAbs_mul, Int.natCast_mul, Int.mul_assoc, Int.natAbs_of_nonneg hk]
      refine ⟨_, rfl, _, _, rfl, rfl, .of_left (intBits_le_64 (by decide) (by decide)), _, rfl, _, rfl, _, _, rfl, rfl, .of_left (intBits_le_64 (by omega) (by omega)), _, rfl, _, _, rfl, rfl, _, rfl, _, _, rfl, rfl, .of_left (intBits_le_64 (by decide) (by decide)), _, _, rfl, rfl, ⟨by omega, wd64 (by omega)⟩, ?_⟩
      have fn := far_near (n := n) hk (show (0 : Int) < leadN ns by omega)
      refine ⟨_, rfl, .inl ⟨rfl, _, SqL.of dl⟩, _, rfl, _, rfl, _, rfl, smallN _ (Nat.le_of_ble_eq_true rfl), fun c H4 n4 => ?_⟩
      refine ⟨_, rfl, _, _, rfl, rfl, .inr ⟨_, rfl, ?_⟩⟩
      have nd4 := n4.same _ _ dl
      have hat : atI ([.int ((2 * kk * absI n + (leadN ns : Int)) / (2 * (leadN ns : Int))), .int (-((2 * kk * absI n + (leadN ns : Int)) / (2 * (leadN ns : Int))))] : List V) (if decide (n < 0) = true then 1 else 0) = some (.int (nearN (kk * n) (leadN ns))) := by
        rw [← fn]
        by_cases hn : n < 0
        · rw [if_pos (decide_eq_true hn), if_pos hn]; rfl
        · rw [if_neg (fun z => hn (of_decide_eq_true z)), if_neg hn]; rfl
      refine .inl ⟨c, _, _, _, rfl, rfl, SqL.of n4.at', hat, ?_⟩
      refine ⟨l, _, _, rfl, rfl, nd4, ?_, ?_⟩
      · have : (1000 : Nat) < sizeLine := by decide
        rw [List.length_map, List.length_take, List.length_map]; omega
      refine ⟨fun b o e => ?_, SqT.t (.updL nd4) (hb3.go n4.same), ?_, _, _, rfl⟩
      · rw [upd_ne (ne_of_none e n2.no)]; exact n4.same b o (s3 b o e)
      · rw [upd_same, List.take_succ, List.getElem?_map, en, List.map_append]; rfl
    · rintro σ H3 ⟨s3, hb3, dl, v1, v2, rfl⟩
      rw [List.take_of_length_le (by simp)] at dl
      refine ⟨_, rfl, l, _, rfl, .inl ⟨SqL.of dl, fun t H4 n4 => ?_⟩⟩
      exact k _ _ (rd_tup (SqT.of n4.at') (rds_ints _)) (s1.trans (s3.trans n4.same))
abbrev sRowsL : Stmt := top 59
theorem scRowsL : FnScope ["_law_line_here", "_law_stands", "_law_found", "_law_one", "_law_other_here"] ["_law_line_here"] (defScope sRowsL) := ⟨rfl, rfl, rfl, by decide +kernel, rfl, by decide +kernel, by decide +kernel⟩
def spRowsL (K : PySem.W.Frag) : Sp := fun vs H Q _ => ∃ v ns sp, vs = [v] ∧ RD K H v (lineD ns sp) ∧ OkL ns.length 100 ns ∧ ns.length ≤ 1000 ∧ ∀ l ys H', H l = none → H' l = some (.lst ys) → RDs K H' ys (rowsD ns) → Same H H' → Q (.ref l) H'
def stdsD (ns : List Int) : List PyData := (List.range (leadN ns + 1)).map fun (j : Nat) => standD ns (j : Int)
theorem stdsD_no (ns : List Int) : noLs (stdsD ns) = true := noLs_mem.mpr fun d hd => by
  obtain ⟨j, _, rfl⟩ := List.mem_map.mp hd
  exact rowD_no _
theorem stdsD_get {ns : List Int} {i : Nat} (h : i ≤ leadN ns) : (stdsD ns)[i]? = some (standD ns (i : Int)) := by
  unfold stdsD
  rw [List.getElem?_map, List.getElem?_range (by omega)]; rfl
theorem cutV_tail (xs : List V) : cutV xs (some 1) none = xs.drop 1 := by
  unfold cutV
  have e : HT.sIx xs.length 0 (some 1) = min 1 xs.length := HT.sIx_nat _ _ 1
  rw [e, HT.sIx_none]
  rcases Nat.lt_or_ge 0 xs.length with h | h
  · rw [show min 1 xs.length = 1 by omega, List.take_of_length_le]
    rw [List.length_drop]; exact Nat.le_refl _
  · have : xs = [] := List.length_eq_zero_iff.mp (by omega)
    subst this; rfl
theorem ok_rowsL (F : FA K mg "_law_rows" sRowsL) (B : Blt mg) (hL_lead : FnHas P w K mg base "_law_lead" 1 (spLead K)) (hL_stand : FnHas P w K mg base "_law_stand" 2 (spStandL K)) : FnHas P w K mg base "_law_rows" 3 (spRowsL K) := by
  refine F.has scRowsL (fun vs H Q E h => ?_) (fun _ _ _ _ _ _ us hl => match us, hl with | [_], _ => rfl) (fun f cdv A outer s H vs Q E hr h => ?_)
  · obtain ⟨v, ns, sp, rfl, _⟩ := h
    rfl
  · obtain ⟨v, ns, sp, rfl, rd, ok1, hz, k⟩ := h
    have nd := scRowsL.nd
    obtain ⟨lp, lm⟩ := ok1.lead
    have ok : OkL ns.length 1000 ns := ⟨rfl, fun z hz => by have := ok1.bd z hz; omega, ok1.nz⟩
    refine ⟨_, (pss_cons (ps_setC (i0 := 1) nd rfl (Or.inl rfl) (N := ["_law_k", "_law_line_here"]) (js := [none, some 0]) rfl rfl rfl (pi_range1 rfl (B.at "range") (pa_cons (pe_op op_add (pe_fn hL_lead (hr.mono (by decide)) rfl (pa_cons (pv 0) pa_nil)) pe_int) pa_nil)) (fun _ _ _ _ _ => (pg_name (i := 0) (show List.Nodup (["_law_k", "_law_line_here"] : List Str) by decide +kernel) rfl (Or.inl rfl))) (fun _ _ _ _ _ => pts_nil) (fun _ _ _ _ _ => (pe_fn hL_stand (hr.mono (by decide)) rfl (pa_cons (pv 1) (pa_cons (pv 0) pa_nil)))))
    (pss_cons (ps_set (i := 2) nd rfl (Or.inl rfl) (pe_lstA pa_nil))
    (pss_cons (ps_for PassesOwn.never rfl (pi_zip K rfl true true rfl (B.at "zip") (pa_cons (pv 1) (pa_cons (pe_slice (slK K rfl) (pv 1) (po_some pe_int) po_none) pa_nil))) (pgT K rfl (n := 2) rfl (pgs_cons (pg_name (i := 3) nd rfl (Or.inl rfl)) (pgs_cons (pg_name (i := 4) nd rfl (Or.inl rfl)) pgs_nil)))
    (pss_one (ps_expr (peApp K rfl (pv 2) (pa_cons (pe_callTy (x := "tuple") (tupleK K rfl) rfl (B.at "tuple") PyProof.Rows.boot_tuple (pa_cons (pe_comp (N := ["_law_here", "_law_there"]) (js := [none, none]) rfl rfl rfl (pi_zip K rfl false false rfl (B.at "zip") (pa_cons (pv 3) (pa_cons (pv 4) pa_nil))) (fun _ _ _ _ _ => (pgT K rfl (n := 2) rfl (pgs_cons (pg_name (i := 0) (show List.Nodup (["_law_here", "_law_there"] : List Str) by decide +kernel) rfl (Or.inl rfl)) (pgs_cons (pg_name (i := 1) (show List.Nodup (["_law_here", "_law_there"] : List Str) by decide +kernel) rfl (Or.inl rfl)) pgs_nil)))) (fun _ _ _ _ _ => pts_nil) (fun _ _ _ _ _ => (pe_op op_sub (pv 1) (pv 0)))) pa_nil)) pa_nil)))))
    (pss_one (ps_ret (pv 2)))))), ?_⟩
    refine ⟨_, rfl, v, ns, sp, rfl, rd, ok.ne, hz, fun H1 s1 => ?_⟩
    refine ⟨_, _, rfl, rfl, _, rfl, by omega, by omega, fun D H2 n2 => ?_⟩
    have e1 : ((leadN ns : Int) + 1).toNat = leadN ns + 1 := by omega
    rw [e1]
    have lS : (stdsD ns).length = leadN ns + 1 := by simp [stdsD]
    refine comp_rdR (K := K) (ds := stdsD ns) _ n2 lS.symm (by omega) (stdsD_no ns) ?_ ?_
    · intro i d H3 Q' ed s3 hq
      have hi : i < leadN ns + 1 := by rw [← lS]; exact (List.getElem?_eq_some_iff.mp ed).1
      rw [stdsD_get (by omega)] at ed
      cases ed
      refine ⟨_, rfl, _, rfl, v, ns, sp, _, rfl, RD.mono (s1.trans s3) _ rd, ok, hz, by omega, by omega, fun u H4 ru s4 => hq u H4 s4 ?_⟩
      have e0 : (0 : Int) + (i : Int) = i := by omega
      rw [e0] at ru
      exact ru
    intro H3 ys s3 d3 r3
    have ly := r3.length
    rw [lS] at ly
    refine ⟨smallN _ (Nat.le_of_ble_eq_true rfl), fun l H4 n4 => ?_⟩
    have nl : H l = none := by
      cases e : H l with
      | none => rfl
      | some o => have := (s1.trans s3) _ _ e; rw [n4.no] at this; cases this
    have d4 := n4.same _ _ d3
    refine ⟨_, rfl, _, rfl, _, rfl, D, _, rfl, .inl ⟨SqL.of d4, fun c H5 n5 => ?_⟩⟩
    have d5 := n5.same _ _ d4
    have n5' := n5.at'
    rw [cutV_tail] at n5'
    have r5 := RDs.mono (n4.same.trans n5.same) _ r3
    refine ⟨D, c, rfl, ⟨_, SqL.of d5⟩, ⟨_, SqL.of n5.at'⟩, ?_⟩
    refine for_zip (K := K) (b1 := true) (b2 := true) (xs := ys) (ys := ys.drop 1) (leadN ns) (by rw [List.length_drop]; omega) (fun i σ H6 => Same H3 H6 ∧ H6 D = some (.lst ys) ∧ H6 c = some (.lst (ys.drop 1)) ∧ RDs K H6 ys (stdsD ns) ∧ (∃ zs, H6 l = some (.lst zs) ∧ RDs K H6 zs ((rowsD ns).take i)) ∧ ∃ v1 v2, σ = [some v, some (.ref D), some (.ref l), v1, v2]) ⟨n4.same.trans n5.same, d5, n5', r5, ⟨[], n5.same _ _ n4.at', rds_nil⟩, none, none, rfl⟩ (fun i σ H6 _ h => ⟨SqL.of h.2.1, SqL.of h.2.2.1⟩) ?_ ?_
    · rintro i x y σ H6 ex ey ⟨s6, dD, dc, rD, ⟨zs, dl, rz⟩, v1, v2, rfl⟩ T H7 n7
      have hi : i < leadN ns := by
        have := (List.getElem?_eq_some_iff.mp ey).1
        rw [List.length_drop] at this; omega
      obtain ⟨dx, edx, rx⟩ := rD.get' i ex
      rw [stdsD_get (by omega)] at edx
      cases edx
      rw [List.getElem?_drop] at ey
      obtain ⟨dy, edy, ry⟩ := rD.get' (1 + i) ey
      rw [stdsD_get (by omega)] at edy
      cases edy
      obtain ⟨a1, xs1, rfl, h1, q1⟩ := (RD.mono n7.same _ ry).tup_inv
      have e1 := q1.ints_inv
      subst e1
      obtain ⟨a0, xs0, rfl, h0, q0⟩ := (RD.mono n7.same _ rx).tup_inv
      have e0 := q0.ints_inv
      subst e0
      refine ⟨T, _, rfl, SqT.of n7.at', rfl, _, _, rfl, _, _, rfl, rfl, ?_⟩
      refine ⟨_, rfl, .inl ⟨rfl, _, SqL.of (n7.same _ _ dl)⟩, ?_⟩
      refine ⟨_, rfl, _, rfl, a0, a1, rfl, ⟨_, h0⟩, ⟨_, h1⟩, fun D2 H8 nw => ?_⟩
      refine comp_rdZ (K := K) (b1 := false) (b2 := false) (ds := (rowZ ns i).map PyData.int) [] rfl h0 h1 nw (by simp [rowZ]) (by simpa [rowZ] using hz) (noLs_ints _) ?_ ?_
      · intro j x y d H9 Q' ex ey ed s9 hq
        obtain ⟨m, em, rfl⟩ := map_getI ed
        unfold rowZ at em
        rw [List.getElem?_map] at em ex ey
        rw [List.getElem?_map] at ex ey
        cases en : ns[j]? with
        | none => rw [en] at em; cases em
        | some n =>
          rw [en] at em ex ey
          cases em
          cases ex
          cases ey
          refine ⟨_, rfl, _, rfl, _, _, rfl, rfl, ?_⟩
          have ee : ((1 + i : Nat) : Int) = (i : Int) + 1 := by omega
          rw [ee]
          exact hq _ _ (Same.refl _) (rd_int _)
      · intro H9 ws s9 d9 r9
        refine ⟨D2, _, rfl, .inl ⟨SqL.of d9, fun t H10 n10 => ?_⟩⟩
        have s610 := n7.same.trans (s9.trans n10.same)
        have dl10 := s610 _ _ dl
        have len := rz.length
        rw [List.length_take, rowsD_len] at len
        refine ⟨l, zs, _, rfl, rfl, dl10, ?_, ?_⟩
        · have : (1000 : Nat) < sizeLine := by decide
          omega
        have tt : SameT H10 (L2.upd H10 l (.lst (zs ++ [.ref t]))) := .updL dl10
        have lD : D ≠ l := fun e => by rw [← e] at n4; have := n4.no; rw [d3] at this; cases this
        have lc : c ≠ l := fun e => by rw [e] at n5; have := n5.no; rw [n4.at'] at this; cases this
        refine ⟨fun b o e => ?_, ?_, ?_, ?_, ⟨_, upd_same, ?_⟩, _, _, rfl⟩
        · rw [upd_ne (ne_of_none e n4.no)]; exact s610 b o (s6 b o e)
        · rw [upd_ne lD]; exact s610 _ _ dD
        · rw [upd_ne lc]; exact s610 _ _ dc
        · exact RDs.t tt _ (stdsD_no ns) (RDs.mono s610 _ rD)
        · rw [List.take_succ, rowsD_get hi]
          have nt : noLs ((rowsD ns).take i) = true := noLs_mem.mpr fun d hd => noLs_mem.mp (rowsD_no ns) d (List.mem_of_mem_take hd)
          exact (RDs.t tt _ nt (RDs.mono s610 _ rz)).append (rds_cons (RD.t tt _ (rowD_no _) (rd_tup (SqT.of n10.at') (RDs.mono n10.same _ r9))) rds_nil)
    · rintro σ H6 ⟨s6, dD, dc, rD, ⟨zs, dl, rz⟩, v1, v2, rfl⟩
      rw [List.take_of_length_le (by rw [rowsD_len]; exact Nat.le_refl _)] at rz
      exact ⟨_, rfl, k l zs H6 nl dl rz ((s1.trans s3).trans s6)⟩
end
end Lw



set_option Elab.async false
set_option linter.all false
set_option maxRecDepth 100000
set_option maxHeartbeats 1000000
set_option exponentiation.threshold 6000
namespace Lw
open PySem PySem.Spec PyProof.Rows L2 Rt Ln
section
variable {P : Program} {w : World} {K : PySem.W.Frag} {mg : Str → Option Value} {base : Heap}
def spTicksL (K : PySem.W.Frag) : Sp := fun vs H Q _ => ∃ m sq rs r f j ti q, vs = [m, sq] ∧ RD K H m (machD rs r f j ti) ∧ RatV K H sq q ∧ Bd 2000 q ∧ 1 ≤ ti ∧ ti ≤ 100 ∧ 0 < q.num ∧ ∀ T, 1 ≤ T → T.natAbs < 2 ^ 2400 → enB ti q T = true → enB ti q (T - 1) = false → ∀ H', Same H H' → Q (.int T) H'
abbrev sTicksL : Stmt := top 63
theorem scTicksL : FnScope ["_law_machine_here", "_law_square", "_law_wanted", "_law_low", "_law_high", "_law_half"] ["_law_machine_here", "_law_square"] (defScope sTicksL) := ⟨rfl, rfl, rfl, by decide +kernel, rfl, by decide +kernel, by decide +kernel⟩
theorem ok_ticksL (F : FA K mg "_law_ticks" sTicksL) (B : Blt mg) : FnHas P w K mg base "_law_ticks" 1 (spTicksL K) := by
  refine F.has scTicksL (fun vs H Q E h => ?_) (fun _ _ _ _ _ _ us hl => match us, hl with | [_, _], _ => rfl) (fun f cdv A outer s H vs Q E hr h => ?_)
  · obtain ⟨m, sq, rs, r, f, j, ti, q, rfl, _⟩ := h
    rfl
  · obtain ⟨m, sq, rs, r, f, j, ti, q, rfl, rm, ⟨p, rfl, hp⟩, bq, t1, t2, hq, k⟩ := h
    have nd := scTicksL.nd
    refine ⟨_, (pss_cons (ps_set (i := 2) nd rfl (Or.inl rfl) (pe_op op_mulG (pe_op op_pow (pe_ix (ixK K rfl) (pv 0) pe_int (fun _ _ => rfl)) pe_int) (pe_ix (ixK K rfl) (pv 1) pe_int (fun _ _ => rfl))))
    (pss_cons (ps_asg (pe_tupA (pa_cons pe_int (pa_cons pe_int pa_nil))) (pgT K rfl (n := 2) rfl (pgs_cons (pg_name (i := 3) nd rfl (Or.inl rfl)) (pgs_cons (pg_name (i := 4) nd rfl (Or.inl rfl)) pgs_nil))))
    (pss_cons (ps_while PassesOwn.never (pt_cmpR op_lt (pe_op op_mulG (pe_op op_mulG (pv 4) (pv 4)) (pe_ix (ixK K rfl) (pv 1) pe_int (fun _ _ => rfl))) (pv 2) (nomark _))
    (pss_one (ps_par (i := 3) (j := 4) rfl nd rfl rfl (by decide) rfl rfl (pa_cons (pv 4) (pa_cons (pe_op op_mulG pe_int (pv 4)) pa_nil)) rfl)))
    (pss_cons (ps_while PassesOwn.never (pt_cmpR op_gt (pe_op op_sub (pv 4) (pv 3)) pe_int (nomark _))
    (pss_cons (ps_set (i := 5) nd rfl (Or.inl rfl) (pe_op op_fdivW (pe_op op_add (pv 3) (pv 4)) pe_int))
    (pss_one (ps_if (pt_cmpR op_lt (pe_op op_mulG (pe_op op_mulG (pv 5) (pv 5)) (pe_ix (ixK K rfl) (pv 1) pe_int (fun _ _ => rfl))) (pv 2) (nomark _))
    (pss_one (ps_set (i := 3) nd rfl (Or.inl rfl) (pv 5)))
    (pss_one (ps_set (i := 4) nd rfl (Or.inl rfl) (pv 5)))))))
    (pss_one (ps_ret (pv 4))))))), ?_⟩
    obtain ⟨a, b, rfl, ha, hb⟩ := mach_inv rm
    have m1 : (ti * ti).natAbs ≤ 100 * 100 := by rw [Int.natAbs_mul]; exact Nat.mul_le_mul (by omega) (by omega)
    have eP : ti ^ (2 : Int).toNat = ti * ti := by
      show ti ^ 2 = ti * ti
      rw [Int.pow_succ, Int.pow_succ, Int.pow_zero, Int.one_mul]
    have lim : (ti * ti * (q.den : Int)).natAbs < 2 ^ 2399 := by
      have hd := bq.den
      rw [Int.natAbs_mul]
      have : (q.den : Int).natAbs = q.den := rfl
      rw [this]
      have := mul_lt (n := 14) (m := 2000) (a := (ti * ti).natAbs) (b := q.den) (Nat.lt_of_le_of_lt m1 (by decide)) hd
      exact Nat.lt_of_lt_of_le this (Nat.pow_le_pow_right (by decide) (by decide))
    have p0 : 0 < ti * ti * (q.den : Int) := Int.mul_pos (Int.mul_pos (by omega) (by omega)) (den_pos q)
    have e2 : (2 : Nat) ^ 2400 = 2 ^ 2399 * 2 := Nat.pow_succ 2 2399
    have wtt : ∀ {t : Int}, t.natAbs < 2 ^ 2400 → Wd (t * t) := fun {t} tw => wdB (n := 4800) (by rw [Int.natAbs_mul]; exact mul_lt (n := 2400) (m := 2400) tw tw) (by decide)
    have wt : ∀ {t : Int}, t.natAbs < 2 ^ 2400 → Wd t := fun {t} tw => wdB tw (by decide)
    refine ⟨_, rfl, .inr ⟨a, _, 4, .int ti, rfl, rfl, ha, rfl, ?_⟩⟩
    refine ⟨_, _, rfl, rfl, ⟨by decide, by decide, by have : (2 : Nat) ^ 64 = 18446744073709551616 := by decide
                                                      omega⟩, ?_⟩
    refine ⟨_, rfl, .inr ⟨p, _, 1, .int q.den, rfl, rfl, hp, rfl, ?_⟩⟩
    refine ⟨_, _, rfl, rfl, by rw [eP]; exact .of_left (intBits_le_64 (by omega) (by omega)), ?_⟩
    have eW : ti ^ (2 : Int).toNat * (q.den : Int) = ti * ti * (q.den : Int) := by rw [eP]
    have enD : ∀ t : Int, decide (t * t * q.num < ti ^ (2 : Int).toNat * (q.den : Int)) = !enB ti q t := fun t => by
      unfold enB
      rw [eW, ← decide_not]
      exact decide_eq_decide.mpr (by omega)
    refine ⟨smallN _ (Nat.le_of_ble_eq_true rfl), fun c0 H0 n0 => ?_⟩
    refine ⟨c0, _, rfl, SqT.of n0.at', rfl, _, _, rfl, _, _, rfl, rfl, ?_⟩
    have hp0 := hp.go n0.same
    have k' : ∀ T : Int, 1 ≤ T → T.natAbs < 2 ^ 2400 → enB ti q T = true → enB ti q (T - 1) = false → Q (.int T) H0 := fun T a1 a2 a3 a4 => (k T a1 a2 a3 a4) H0 n0.same
    generalize hL : ti * ti * (q.den : Int) = L at lim p0
    refine while_by (fun σ H2 => H2 = H0 ∧ ∃ (lo x : Int), σ = [some (.ref a), some (.ref p), some (.int (ti ^ (2 : Int).toNat * (q.den : Int))), some (.int lo), some (.int x), none] ∧ 0 ≤ lo ∧ lo < x ∧ x ≤ 2 * L ∧ enB ti q lo = false) (fun σ _ => match σ with | [_, _, _, _, some (.int x), _] => (L - x).toNat | _ => 0) ?_ ?_ ?_
    · exact ⟨rfl, 0, 1, rfl, by omega, by omega, by omega, en_zero t1⟩
    · rintro σ H2 ⟨rfl, lo, x, rfl, l0, lx, xL, hx⟩
      have xw : x.natAbs < 2 ^ 2400 := by omega
      refine ⟨_, rfl, _, rfl, _, _, rfl, rfl, IntMulOk.of_bits (wt xw).bits (wt xw).bits, _, rfl, .inr ⟨p, _, 0, .int q.num, rfl, rfl, hp0, rfl, _, _, rfl, rfl, IntMulOk.of_bits (wtt xw).bits bq.wn.bits, ?_⟩⟩
      refine ⟨_, rfl, _, _, rfl, rfl, _, rfl, ?_⟩
      show if decide (x * x * q.num < ti ^ (2 : Int).toNat * (q.den : Int)) = true then _ else _
      rw [enD]
      cases hen : enB ti q x with
      | false =>
        have hlt : x < L := by
          by_cases hlt : x < L
          · exact hlt
          · rw [en_big hq (by omega) (by omega)] at hen; cases hen
        refine iteT ?_
        refine ⟨_, rfl, _, rfl, _, _, rfl, rfl, .of_left (intBits_le_64 (by decide) (by decide)), _, _, rfl, ?_⟩
        refine ⟨⟨rfl, x, 2 * x, rfl, by omega, by omega, by omega, hen⟩, ?_⟩
        show (L - 2 * x).toNat < (L - x).toNat
        omega
      | true =>
        refine iteF ?_
        refine while_by (fun σ H3 => H3 = H2 ∧ ∃ (lo hi : Int) (v : Option V), σ = [some (.ref a), some (.ref p), some (.int (ti ^ (2 : Int).toNat * (q.den : Int))), some (.int lo), some (.int hi), v] ∧ 0 ≤ lo ∧ lo < hi ∧ hi ≤ 2 * L ∧ enB ti q lo = false ∧ enB ti q hi = true) (fun σ _ => match σ with | [_, _, _, some (.int y), some (.int x), _] => (x - y).toNat | _ => 0) ?_ ?_ ?_
        · exact ⟨rfl, lo, x, none, rfl, by omega, by omega, xL, hx, hen⟩
        · rintro σ H3 ⟨rfl, lo, hi, v, rfl, l0, lh, hL2, elo, ehi⟩
          refine ⟨_, rfl, _, rfl, _, _, rfl, rfl, _, _, rfl, rfl, _, rfl, ?_⟩
          refine ite2 (fun hc => ?_) (fun hc => ?_)
          · have hgt : hi - lo > 1 := of_decide_eq_true hc
            refine ⟨_, rfl, _, rfl, _, _, rfl, rfl, _, _, rfl, rfl, ⟨by decide, wdB (n := 2) (by decide) (by decide)⟩, ?_⟩
            have mw : ((lo + hi) / 2).natAbs < 2 ^ 2400 := by omega
            refine ⟨_, rfl, _, rfl, _, _, rfl, rfl, IntMulOk.of_bits (wt mw).bits (wt mw).bits, _, rfl, .inr ⟨p, _, 0, .int q.num, rfl, rfl, hp0, rfl, _, _, rfl, rfl, IntMulOk.of_bits (wtt mw).bits bq.wn.bits, ?_⟩⟩
            refine ⟨_, rfl, _, _, rfl, rfl, _, rfl, ?_⟩
            show if decide ((lo + hi) / 2 * ((lo + hi) / 2) * q.num < ti ^ (2 : Int).toNat * (q.den : Int)) = true then _ else _
            rw [enD]
            cases hm : enB ti q ((lo + hi) / 2) with
            | true =>
              refine iteF ?_
              refine ⟨_, rfl, ⟨rfl, lo, _, _, rfl, l0, by omega, by omega, elo, hm⟩, ?_⟩
              show ((lo + hi) / 2 - lo).toNat < (hi - lo).toNat
              omega
            | false =>
              refine iteT ?_
              refine ⟨_, rfl, ⟨rfl, _, hi, _, rfl, by omega, by omega, hL2, hm, ehi⟩, ?_⟩
              show (hi - (lo + hi) / 2).toNat < (hi - lo).toNat
              omega
          · have hle : ¬ hi - lo > 1 := fun z => hc (decide_eq_true z)
            have e : lo = hi - 1 := by omega
            subst e
            exact ⟨_, rfl, k' hi (by omega) (by omega) ehi elo⟩
        · rintro σ H2 Q1 Q2 hq ⟨v1, e1, v2, e2, i, j, e3, e4, i2, j2, e5, e6, kk, e7, q⟩
          exact ⟨v1, e1, v2, e2, i, j, e3, e4, i2, j2, e5, e6, kk, e7, hq _ _ q⟩
    · rintro σ H2 Q1 Q2 hq ⟨v1, e1, v2, e2, i, j, e3, e4, mo, v3, e5, h⟩
      refine ⟨v1, e1, v2, e2, i, j, e3, e4, mo, v3, e5, ?_⟩
      rcases h with ⟨a, xs, ii, x, f1, f2, f3, f4, i2, j2, g1, g2, g3, v4, g4, i3, j3, g5, g6, kk, g7, q⟩ | ⟨a, xs, ii, x, f1, f2, f3, f4, i2, j2, g1, g2, g3, v4, g4, i3, j3, g5, g6, kk, g7, q⟩
      · exact .inl ⟨a, xs, ii, x, f1, f2, f3, f4, i2, j2, g1, g2, g3, v4, g4, i3, j3, g5, g6, kk, g7, hq _ _ q⟩
      · exact .inr ⟨a, xs, ii, x, f1, f2, f3, f4, i2, j2, g1, g2, g3, v4, g4, i3, j3, g5, g6, kk, g7, hq _ _ q⟩
end
end Lw



set_option Elab.async false
set_option linter.all false
set_option maxRecDepth 100000
set_option maxHeartbeats 1000000
set_option exponentiation.threshold 6000
namespace Lw
open PySem PySem.Spec PyProof.Rows L2 Rt Ln Cn Pn
open Ow (topR cornO mnO betR atO ownF leadF ownL OkI OkIs)
section
variable {P : Program} {w : World} {K : PySem.W.Frag} {mg : Str → Option Value} {base : Heap}
def spBnd (K : PySem.W.Frag) : Sp := fun vs H Q _ => ∃ m iv rate rs r f j t ds os, vs = [m, iv, .int rate] ∧ RD K H m (machD rs r f j t) ∧ OkM rs r f j t ∧ RD K H iv (.tuple ds) ∧ RowOk rs.length ds os ∧ ds.length ≤ 100 ∧ 10 ≤ rate ∧ rate ≤ 200 ∧ ∀ l ys H', H l = none → H' l = some (.lst ys) → RDs K H' ys ((ownL j rate os).map ratD) → Same H H' → Q (.ref l) H'
/-- the first ones so far -/
def ownP (j rate : Int) (os : List Itm) (i : Nat) : List Rat := (List.range (os.length + 1)).map fun k => if k ≤ i then ownF j rate os k else 0
theorem ownP_get (j rate : Int) (os : List Itm) (i : Nat) {k : Nat} (h : k ≤ os.length) : (ownP j rate os i)[k]? = some (if k ≤ i then ownF j rate os k else 0) := by
  unfold ownP
  rw [List.getElem?_map, List.getElem?_eq_getElem (by simp; omega), List.getElem_range]; rfl
theorem ownP_len (j rate : Int) (os : List Itm) (i : Nat) : (ownP j rate os i).length = os.length + 1 := by simp [ownP]
theorem ownP_set (j rate : Int) (os : List Itm) (i : Nat) (h : i + 1 ≤ os.length) : (ownP j rate os i).set (i + 1) (ownF j rate os (i + 1)) = ownP j rate os (i + 1) := by
  apply List.ext_getElem?
  intro k
  by_cases hk : k ≤ os.length
  · rw [ownP_get j rate os (i + 1) hk, List.getElem?_set]
    by_cases e : i + 1 = k
    · subst e
      rw [if_pos rfl, if_pos (by rw [ownP_len]; omega), if_pos (Nat.le_refl _)]
    · rw [if_neg e, ownP_get j rate os i hk]
      congr 1
      by_cases h1 : k ≤ i
      · rw [if_pos h1, if_pos (by omega)]
      · rw [if_neg h1, if_neg (by omega)]
  · rw [List.getElem?_eq_none (by rw [List.length_set, ownP_len]; omega), List.getElem?_eq_none (by rw [ownP_len]; omega)]
theorem ownP_same (j rate : Int) (os : List Itm) (i : Nat) (h : i + 1 ≤ os.length) (e : ownF j rate os (i + 1) = 0) : ownP j rate os (i + 1) = ownP j rate os i := by
  apply List.ext_getElem?
  intro k
  by_cases hk : k ≤ os.length
  · rw [ownP_get j rate os (i + 1) hk, ownP_get j rate os i hk]
    congr 1
    by_cases h1 : k ≤ i
    · rw [if_pos h1, if_pos (by omega)]
    · rw [if_neg h1]
      by_cases h2 : k = i + 1
      · subst h2; rw [if_pos (Nat.le_refl _), e]
      · rw [if_neg (by omega)]
  · rw [List.getElem?_eq_none (by rw [ownP_len]; omega), List.getElem?_eq_none (by rw [ownP_len]; omega)]

abbrev sBnd : Stmt := top 61
theorem scBnd : FnScope ["_law_machine_here", "_law_items_here", "_law_rate", "_law_found", "_law_border", "_law_one", "_law_other_here", "_law_a", "_law_b", "_law_gap", "_law_corner"] ["_law_machine_here", "_law_items_here", "_law_rate"] (defScope sBnd) := ⟨rfl, rfl, rfl, by decide +kernel, rfl, by decide +kernel, by decide +kernel⟩
theorem ok_bnd (F : FA K mg "_law_bounds" sBnd) (B : Blt mg) (hL_lead : FnHas P w K mg base "_law_lead" 1 (spLead K)) (hL_min : FnHas P w K mg base "_law_min" 2 (spLeast K)) (hL_top : FnHas P w K mg base "_law_top" 2 (spTopL K)) (hL_frac : FnHas P w K mg base "_law_frac" 1 (spFracL K)) : FnHas P w K mg base "_law_bounds" 3 (spBnd K) := by
  refine F.has scBnd (fun vs H Q E h => ?_) (fun _ _ _ _ _ _ us hl => match us, hl with | [_, _, _], _ => rfl) (fun f cdv A outer s H vs Q E hr h => ?_)
  · obtain ⟨m, iv, rate, rs, r, f, j, t, ds, os, rfl, _⟩ := h
    rfl
  · obtain ⟨m, iv, rate, rs, r, f, j, t, ds, os, rfl, rm, okm, ri, row, hz, rt1, rt2, k⟩ := h
    have nd := scBnd.nd
    refine ⟨_, (pss_cons (ps_setC (i0 := 3) nd rfl (Or.inl rfl) (N := ["_law_border"]) (js := [none]) rfl rfl rfl (pi_range1 rfl (B.at "range") (pa_cons (pe_op op_add (pe_callB (x := "len") (lenK K rfl) rfl (B.at "len") PySem.boot_len (pa_cons (pv 1) pa_nil)) pe_int) pa_nil)) (fun _ _ _ _ _ => (pg_name (i := 0) (show List.Nodup (["_law_border"] : List Str) by decide +kernel) rfl (Or.inl rfl))) (fun _ _ _ _ _ => pts_nil) (fun _ _ _ _ _ => (pe_tupA (pa_cons pe_int (pa_cons pe_int pa_nil)))))
    (pss_cons (ps_for PassesOwn.never rfl (pi_range2 rfl (B.at "range") (pa_cons pe_int (pa_cons (pe_callB (x := "len") (lenK K rfl) rfl (B.at "len") PySem.boot_len (pa_cons (pv 1) pa_nil)) pa_nil))) (pg_name (i := 4) nd rfl (Or.inl rfl))
    (pss_cons (ps_par (i := 5) (j := 6) rfl nd rfl rfl (by decide) rfl rfl (pa_cons (pe_ix (ixK K rfl) (pv 1) (pe_op op_sub (pv 4) pe_int) (fun _ _ => rfl)) (pa_cons (pe_ix (ixK K rfl) (pv 1) (pv 4) (fun _ _ => rfl)) pa_nil)) rfl)
    (pss_one (ps_if (PW.pt (pw_and (pt_cmpR (eqK K rfl hr.units) (pe_ix (ixK K rfl) (pv 5) pe_int (fun _ _ => rfl)) pe_str (nomark _)) (pw_and1 (pt_cmpR (eqK K rfl hr.units) (pe_ix (ixK K rfl) (pv 6) pe_int (fun _ _ => rfl)) pe_str (nomark _)))))
    (pss_cons (ps_asg (pe_tupA (pa_cons (pe_fn hL_lead (hr.mono (by decide)) rfl (pa_cons (pv 5) pa_nil)) (pa_cons (pe_fn hL_lead (hr.mono (by decide)) rfl (pa_cons (pv 6) pa_nil)) pa_nil))) (pgT K rfl (n := 2) rfl (pgs_cons (pg_name (i := 7) nd rfl (Or.inr rfl)) (pgs_cons (pg_name (i := 8) nd rfl (Or.inr rfl)) pgs_nil))))
    (pss_cons (ps_set (i := 9) nd rfl (Or.inl rfl) (pe_callB (x := "max") (max1K K rfl rfl) rfl (B.at "max") PyProof.Rows.boot_max (pa_cons (pe_comp (N := ["_law_x", "_law_y", "_law_b", "_law_a"]) (js := [none, none, some 8, some 7]) rfl rfl rfl (pi_zip K rfl false false rfl (B.at "zip") (pa_cons (pe_ix (ixK K rfl) (pv 5) pe_int (fun _ _ => rfl)) (pa_cons (pe_ix (ixK K rfl) (pv 6) pe_int (fun _ _ => rfl)) pa_nil))) (fun _ _ _ _ _ => (pgT K rfl (n := 2) rfl (pgs_cons (pg_name (i := 0) (show List.Nodup (["_law_x", "_law_y", "_law_b", "_law_a"] : List Str) by decide +kernel) rfl (Or.inl rfl)) (pgs_cons (pg_name (i := 1) (show List.Nodup (["_law_x", "_law_y", "_law_b", "_law_a"] : List Str) by decide +kernel) rfl (Or.inl rfl)) pgs_nil)))) (fun _ _ _ _ _ => pts_nil) (fun _ _ _ _ _ => (pe_callB (x := "abs") call_abs rfl (B.at "abs") PyProof.Rows.boot_abs (pa_cons (pe_op op_sub (pe_op op_mulG (pv 0) (pv 2)) (pe_op op_mulG (pv 1) (pv 3))) pa_nil)))) pa_nil)))
    (pss_cons (ps_asg (pe_fn hL_min (hr.mono (by decide)) rfl (pa_cons (pe_lstA (pa_cons (pe_fn hL_top (hr.mono (by decide)) rfl (pa_cons (pv 5) (pa_cons (pv 2) pa_nil))) (pa_cons (pe_fn hL_top (hr.mono (by decide)) rfl (pa_cons (pv 6) (pa_cons (pv 2) pa_nil))) pa_nil))) pa_nil)) (pg_sub (pv 3) (pv 4) set_list))
    (pss_one (ps_if (pt_cmpR op_gt (pv 9) pe_int (nomark _))
    (pss_cons (ps_set (i := 10) nd rfl (Or.inl rfl) (pe_fn hL_frac (hr.mono (by decide)) rfl (pa_cons (pe_op op_pow (pe_op op_mulG (pe_op op_mulG (pe_ix (ixK K rfl) (pv 0) pe_int (fun _ _ => rfl)) (pv 7)) (pv 8)) pe_int) (pa_cons (pe_op op_pow (pv 9) pe_int) pa_nil))))
    (pss_one (ps_asg (pe_fn hL_min (hr.mono (by decide)) rfl (pa_cons (pe_lstA (pa_cons (pe_ix (ixK K rfl) (pv 3) (pv 4) (fun _ _ => rfl)) (pa_cons (pv 10) pa_nil))) pa_nil)) (pg_sub (pv 3) (pv 4) set_list))))
    pss_nil)))))
    pss_nil))))
    (pss_one (ps_ret (pv 3))))), ?_⟩
    obtain ⟨ia, xs, rfl, hi, hxs⟩ := ri.tup_inv
    obtain ⟨ma, mb, rfl, hma, hmb⟩ := mach_inv rm
    have lx := hxs.length
    have ll := row.len
    have lr := okm.len
    refine ⟨_, rfl, ia, _, rfl, .inr hi, _, _, rfl, rfl, _, rfl, by omega, by omega, fun D H1 n1 => ?_⟩
    have eN : ((xs.length : Int) + 1).toNat = os.length + 1 := by omega
    rw [eN]
    refine comp_rdR (K := K) (lo := 0) (n := os.length + 1) (ds := (ownP j rate os 0).map ratD) _ n1 (by rw [List.length_map, ownP_len]) (by omega) (noLs_rat _) ?_ ?_
    · intro i d H2 Q' ed s2 hq
      have hil : i ≤ os.length := by
        have := (List.getElem?_eq_some_iff.mp ed).1
        rw [List.length_map, ownP_len] at this; omega
      have e0 : d = ratD 0 := by
        rw [List.getElem?_map, ownP_get j rate os 0 hil] at ed
        have := (Option.some.inj ed).symm
        rw [this]
        congr 1
        split
        · next h => have : i = 0 := by omega
                    subst this; rfl
        · rfl
      subst e0
      refine ⟨smallN _ (Nat.le_of_ble_eq_true rfl), fun z H3 n3 => ?_⟩
      exact hq _ _ n3.same (RatV.rd ⟨z, rfl, SqT.of n3.at'⟩)
    intro H2 ys s2 d2 r2
    refine ⟨_, rfl, ia, _, rfl, .inr (hi.go s2), _, _, rfl, ⟨by decide, by decide, by omega, by omega⟩, ?_⟩
    refine for_range (Pv := fun i σ H5 => Same H H5 ∧ ∃ (ys : List V) (v1 v2 v3 v4 v5 v6 v7 : Option V), H5 D = some (.lst ys) ∧ RDs K H5 ys ((ownP j rate os i).map ratD) ∧ σ = [some (.ref ma), some (.ref ia), some (.int rate), some (.ref D), v1, v2, v3, v4, v5, v6, v7]) ?_ ?_ ?_
    · exact ⟨s2, ys, none, none, none, none, none, none, none, d2, r2, rfl⟩
    · rintro i σ H5 hin ⟨s5, ys, v1, v2, v3, v4, v5, v6, v7, dl, rds, rfl⟩
      have hio : i + 1 < os.length := by omega
      have eo1 := List.getElem?_eq_getElem (show i < os.length by omega)
      have eo2 := List.getElem?_eq_getElem hio
      obtain ⟨x1, ex1⟩ : ∃ x, xs[i]? = some x := ⟨_, List.getElem?_eq_getElem (show i < xs.length by omega)⟩
      obtain ⟨x2, ex2⟩ : ∃ x, xs[i + 1]? = some x := ⟨_, List.getElem?_eq_getElem (show i + 1 < xs.length by omega)⟩
      obtain ⟨d1, e1, r1⟩ := hxs.get' i ex1
      obtain ⟨d2, e2, r2⟩ := hxs.get' (i + 1) ex2
      have i1 := row.it i d1 _ e1 eo1
      have i2 := row.it (i + 1) d2 _ e2 eo2
      have hown : ownF j rate os (i + 1) = betR j rate os[i] os[i + 1] := by
        show betR j rate (atO os i) (atO os (i + 1)) = _
        rw [Ow.atO_of eo1, Ow.atO_of eo2]
      have eT1 : ((1 : Int) + (i : Int) - 1).toNat = i := by omega
      have eT2 : ((1 : Int) + (i : Int)).toNat = i + 1 := by omega
      have at1 : atI xs ((1 : Int) + (i : Int) - 1) = some x1 := atI_of (by omega) (by rw [eT1]; exact ex1)
      have at2 : atI xs ((1 : Int) + (i : Int)) = some x2 := atI_of (by omega) (by rw [eT2]; exact ex2)
      have hi5 := hi.go s5
      obtain ⟨a1, w1, y1, rfl, h1, ew1, sw1⟩ := it_word (RD.mono s5 _ r1) i1
      obtain ⟨a2, w2, y2, rfl, h2, ew2, sw2⟩ := it_word (RD.mono s5 _ r2) i2
      have same : os[i] = none ∨ os[i + 1] = none → RDs K H5 ys ((ownP j rate os (i + 1)).map ratD) := fun hn => by
        rw [ownP_same j rate os i (by omega)]
        · exact rds
        · rw [hown]
          rcases hn with e | e
          · rw [e]; exact Ow.betR_none_l _ _ _
          · rw [e]; exact Ow.betR_none_r _ _ _
      refine ⟨_, rfl, _, rfl, _, _, rfl, rfl, .inr ⟨ia, _, _, _, rfl, rfl, hi5, at1, _, rfl, _, rfl, .inr ⟨ia, _, _, _, rfl, rfl, hi5, at2, _, _, rfl, ?_⟩⟩⟩
      refine ⟨_, rfl, .inr ⟨a1, _, 0, .str w1, rfl, rfl, h1, atI_of (Int.le_refl 0) rfl, .inr ⟨_, _, rd_str _, rd_str _, sw1, lineW, _, rfl, ?_⟩⟩⟩
      rw [ew1]
      cases ho1 : os[i] with
      | none => exact iteF ⟨s5, ys, _, _, _, _, _, _, _, dl, same (.inl ho1), rfl⟩
      | some q1 =>
        refine iteT ?_
        refine ⟨_, rfl, .inr ⟨a2, _, 0, .str w2, rfl, rfl, h2, atI_of (Int.le_refl 0) rfl, .inr ⟨_, _, rd_str _, rd_str _, sw2, lineW, _, rfl, ?_⟩⟩⟩
        rw [ew2]
        cases ho2 : os[i + 1] with
        | none => exact iteF ⟨s5, ys, _, _, _, _, _, _, _, dl, same (.inr ho2), rfl⟩
        | some q2 =>
          refine iteT ?_
          obtain ⟨ns, sp⟩ := q1
          obtain ⟨ms, sq⟩ := q2
          rw [ho1] at i1 eo1
          rw [ho2] at i2 eo2
          have ed1 := it_line i1
          have ed2 := it_line i2
          subst ed1 ed2
          obtain ⟨ok1, p1, p2⟩ := row.ok i ns sp eo1
          obtain ⟨ok2, q1, q2⟩ := row.ok (i + 1) ms sq eo2
          have T1 : Bd 2000 (topR rate sp) := (Ow.topR_bd p1 p2 rt1 rt2).mono (by decide)
          have T2 : Bd 2000 (topR rate sq) := (Ow.topR_bd q1 q2 rt1 rt2).mono (by decide)
          have l1 := lead_100 ok1
          have l2 := lead_100 ok2
          have lq1 := ok1.lead.1
          have lq2 := ok2.lead.1
          have ln1 : ns.length ≤ 3 := by rw [ok1.len]; omega
          have ln2 : ms.length ≤ 3 := by rw [ok2.len]; omega
          have lnm : ms.length = ns.length := by rw [ok1.len, ok2.len]
          refine ⟨_, rfl, _, ns, sp, rfl, RD.mono s5 _ r1, ok1.ne, by omega, fun H6 s6 => ?_⟩
          have s56 := s5.trans s6
          refine ⟨_, rfl, _, ms, sq, rfl, RD.mono s56 _ r2, ok2.ne, by omega, fun H7 s7 => ?_⟩
          refine ⟨smallN _ (Nat.le_of_ble_eq_true rfl), fun tq H7' n7' => ?_⟩
          refine ⟨tq, _, rfl, SqT.of n7'.at', rfl, _, _, rfl, _, _, rfl, rfl, ?_⟩
          have s57 := s56.trans (s7.trans n7'.same)
          have s67 := s6.trans (s7.trans n7'.same)
          obtain ⟨a1', b1, ea1, ha1, hb1⟩ := line_inv (RD.mono s57 _ r1)
          obtain ⟨a2', b2, ea2, ha2, hb2⟩ := line_inv (RD.mono s57 _ r2)
          cases ea1
          cases ea2
          refine ⟨_, rfl, .inr ⟨a1, _, 1, .ref b1, rfl, rfl, ha1, rfl, _, rfl, .inr ⟨a2, _, 1, .ref b2, rfl, rfl, ha2, rfl, b1, b2, rfl, ⟨_, hb1⟩, ⟨_, hb2⟩, fun D4 H8 n8 => ?_⟩⟩⟩
          refine comp_rdZ (K := K) (b1 := false) (b2 := false) (xs := ns.map V.int) (ys := ms.map V.int) (ds := ((crossZ ns ms).map absI).map PyData.int) _ rfl hb1 hb2 n8 (by simp [crossZ]) (by simp [crossZ]; omega) (noLs_ints _) ?_ ?_
          · intro i x y d H9 Q' ex ey ed s9 hq
            obtain ⟨a, b, e1, e2, rfl, rfl⟩ := zip2 lnm ex ey
            obtain ⟨m, em, rfl⟩ := map_getI ed
            rw [List.getElem?_map, zip_at e1 e2] at em
            cases em
            have q1 := ok1.bd a (List.mem_of_getElem? e1)
            have q2 := ok2.bd b (List.mem_of_getElem? e2)
            refine ⟨_, rfl, _, rfl, _, _, rfl, rfl, .of_left (intBits_le_64 (by omega) (by omega)), ?_⟩
            refine ⟨_, rfl, _, rfl, _, _, rfl, rfl, .of_left (intBits_le_64 (by omega) (by omega)), ?_⟩
            exact ⟨_, _, rfl, rfl, _, rfl, hq _ _ (Same.refl _) (rd_int _)⟩
          intro H9 zs s9 d9 r9
          rw [r9.ints_inv] at d9
          have cne : crossZ ns ms ≠ [] := by
            have hl : (crossZ ns ms).length = ns.length := by simp [crossZ, lnm]
            intro e
            rw [e] at hl
            exact ok1.ne (List.length_eq_zero_iff.mp hl.symm)
          refine ⟨D4, _, rfl, SqL.of d9, by simpa using cne, fun M h1 h2 => ?_⟩
          have eM := lead_uniq cne h1 h2
          subst eM
          have s59 := s57.trans s9
          have s69 := s67.trans s9
          refine ⟨_, rfl, _, rfl, _, ns, sp, rate, rfl, RD.mono s59 _ r1, p1, p2, rt1, rt2, fun t1 H10 rt1' s10 => ?_⟩
          refine ⟨_, rfl, _, rfl, _, ms, sq, rate, rfl, RD.mono (s59.trans s10) _ r2, q1, q2, rt1, rt2, fun t2 H11 rt2' s11 => ?_⟩
          refine ⟨smallN _ (Nat.le_of_ble_eq_true rfl), fun lm H12 n12 => ?_⟩
          have R1 : RatV K H12 t1 (topR rate sp) := (rt1'.go s11).go n12.same
          have R2 : RatV K H12 t2 (topR rate sq) := rt2'.go n12.same
          refine ⟨lm, [t1, t2], [topR rate sp, topR rate sq], rfl, SqL.of n12.at', ⟨R1, T1, R2, T2, trivial⟩, by simp, fun c lv q ec1 ec2 hq => ?_⟩
          have hqe : mn (topR rate sp) (topR rate sq) = q := by
            refine mn_eq_of ?_ (hq _ (by simp)) (hq _ (by simp))
            match c, ec2 with
            | 0, e2 => cases e2; exact .inl rfl
            | 1, e2 => cases e2; exact .inr rfl
          have rl : RatV K H12 lv (mn (topR rate sp) (topR rate sq)) := by
            rw [hqe]
            match c, ec1, ec2 with
            | 0, e1, e2 => cases e1; cases e2; exact R1
            | 1, e1, e2 => cases e1; cases e2; exact R2
          have s912 := s10.trans (s11.trans n12.same)
          have s612 := s69.trans s912
          have dl12 := s612 _ _ dl
          have ly := rds.length
          rw [List.length_map, ownP_len] at ly
          have ix1 : ixN ys.length ((1 : Int) + (i : Int)) = some (i + 1) := by
            unfold ixN
            rw [if_pos (by omega), if_pos (by omega), eT2]
          refine ⟨_, rfl, _, rfl, D, ys, _, _, rfl, rfl, dl12, ix1, ?_⟩
          have rds12 := RDs.setT (i := i + 1) dl12 (RDs.mono s612 _ rds) rl.rd (noLs_rat _) (ratD_no _)
          have sD : ∀ {o : HO}, Same H (L2.upd H12 D o) := fun {o} b o' e => by
            rw [upd_ne (ne_of_none e n1.no)]; exact s612 b o' (s5 b o' e)
          have tU : SameT H12 (L2.upd H12 D (.lst (ys.set (i + 1) lv))) := .updL dl12
          refine ⟨_, rfl, _, _, rfl, rfl, _, rfl, ?_⟩
          rw [ho1, ho2] at hown
          have cO : cornO j ns ms = if leadN (crossZ ns ms) = 0 then none else some (Rat.divInt ((j * leadN ns * leadN ms) ^ 2) ((leadN (crossZ ns ms) : Int) ^ 2)) := rfl
          show if decide ((leadN (crossZ ns ms) : Int) > 0) = true then _ else _
          by_cases h0 : leadN (crossZ ns ms) = 0
          · rw [decide_eq_false (by omega)]
            refine iteF ?_
            rw [if_pos h0] at cO
            refine ⟨sD, ys.set (i + 1) lv, _, _, _, _, _, _, _, upd_same, ?_, rfl⟩
            rw [← List.map_set] at rds12
            have e : (ownP j rate os i).set (i + 1) (mn (topR rate sp) (topR rate sq)) = ownP j rate os (i + 1) := by
              rw [← ownP_set j rate os i (by omega), hown]
              show _ = List.set _ _ (mnO _ (cornO j ns ms))
              rw [cO]; rfl
            rw [← e]; exact rds12
          · rw [decide_eq_true (by omega)]
            refine iteT ?_
            rw [if_neg h0] at cO
            have jl : (j * leadN ns).natAbs ≤ 50 * 100 := mul_bd (by have := okm.j1; omega) (by omega)
            have jl2 : (j * leadN ns * leadN ms).natAbs ≤ 50 * 100 * 100 := mul_bd jl (by omega)
            have cb := cross_bd (fun z hz => by have := ok1.bd z hz; omega) (fun z hz => by have := ok2.bd z hz; omega) (ns := ns) (ms := ms)
            have hb' := lead_max cb
            have h64 : (2 : Nat) ^ 64 = 18446744073709551616 := by decide
            refine ⟨_, rfl, .inr ⟨ma, _, 3, .int j, rfl, rfl, hma.go sD, rfl, ?_⟩⟩
            refine ⟨_, rfl, _, _, rfl, rfl, .of_left (intBits_le_64 (by have := okm.j1; omega) (by have := okm.j1; omega)), _, rfl, _, _, rfl, rfl, .of_right (intBits_le_64 (by omega) (by omega)), ?_⟩
            refine ⟨_, _, rfl, rfl, ⟨by decide, by decide, by rw [h64]; omega⟩, _, rfl, _, _, rfl, rfl, ⟨by decide, by decide, by rw [h64]; omega⟩, _, _, rfl, ?_, ?_, fun v6 H13 r6 s13 => ?_⟩
            · show 0 < (leadN (crossZ ns ms) : Int) ^ 2
              rw [Int.pow_succ, Int.pow_succ, Int.pow_zero, Int.one_mul]
              exact Int.mul_pos (by omega) (by omega)
            · refine wdB (n := 64) ?_ (by decide)
              show ((leadN (crossZ ns ms) : Int) ^ 2).natAbs < _
              rw [Int.pow_succ, Int.pow_succ, Int.pow_zero, Int.one_mul, h64]
              have := mul_bd (a := (leadN (crossZ ns ms) : Int)) (b := (leadN (crossZ ns ms) : Int)) (m := 2000000) (n := 2000000) (by omega) (by omega)
              omega
            have Rc : RatV K H13 v6 (Rat.divInt ((j * leadN ns * leadN ms) ^ 2) ((leadN (crossZ ns ms) : Int) ^ 2)) := r6
            have Tc : Bd 2000 (Rat.divInt ((j * leadN ns * leadN ms) ^ 2) ((leadN (crossZ ns ms) : Int) ^ 2)) := (Ow.cornO_bd okm.j1.1 okm.j1.2 ok1.bd ok2.bd cO).mono (by decide)
            generalize Rat.divInt ((j * leadN ns * leadN ms) ^ 2) ((leadN (crossZ ns ms) : Int) ^ 2) = cq at Rc Tc cO
            have dl13 := s13 _ _ (upd_same (H := H12) (a := D) (o := .lst (ys.set (i + 1) lv)))
            have at3 : atI (ys.set (i + 1) lv) ((1 : Int) + (i : Int)) = some lv := atI_of (by omega) (by rw [eT2, List.getElem?_set_self (by omega)])
            have Rl13 : RatV K H13 lv (mn (topR rate sp) (topR rate sq)) := ratOf (RD.mono s13 _ (RD.t tU _ (ratD_no _) rl.rd))
            refine ⟨_, rfl, _, rfl, .inl ⟨D, _, _, _, rfl, rfl, SqL.of dl13, at3, _, rfl, ?_⟩⟩
            refine ⟨smallN _ (Nat.le_of_ble_eq_true rfl), fun lm2 H14 n14 => ?_⟩
            have R1' := Rl13.go n14.same
            have R2' := Rc.go n14.same
            refine ⟨lm2, [lv, v6], [mn (topR rate sp) (topR rate sq), cq], rfl, SqL.of n14.at', ⟨R1', Ow.mn_bd T1 T2, R2', Tc, trivial⟩, by simp, fun c' lv2 q' ec1' ec2' hq' => ?_⟩
            have hqe' : mn (mn (topR rate sp) (topR rate sq)) cq = q' := by
              refine mn_eq_of ?_ (hq' _ (by simp)) (hq' _ (by simp))
              match c', ec2' with
              | 0, e2 => cases e2; exact .inl rfl
              | 1, e2 => cases e2; exact .inr rfl
            have rl2 : RatV K H14 lv2 (mn (mn (topR rate sp) (topR rate sq)) cq) := by
              rw [hqe']
              match c', ec1', ec2' with
              | 0, e1, e2 => cases e1; cases e2; exact R1'
              | 1, e1, e2 => cases e1; cases e2; exact R2'
            have dl14 := n14.same _ _ dl13
            refine ⟨_, rfl, _, rfl, D, _, _, _, rfl, rfl, dl14, (by rw [List.length_set]; exact ix1), ?_⟩
            have rds14 := RDs.setT (i := i + 1) dl14 (RDs.mono (s13.trans n14.same) _ rds12) rl2.rd (by rw [← List.map_set]; exact noLs_rat _) (ratD_no _)
            refine ⟨fun b o' e => by rw [upd_ne (ne_of_none e n1.no)]; exact n14.same b o' (s13 b o' (sD b o' e)), _, _, _, _, _, _, _, _, upd_same, ?_, rfl⟩
            rw [List.set_set, List.set_set, ← List.map_set] at rds14
            have e : (ownP j rate os i).set (i + 1) (mn (mn (topR rate sp) (topR rate sq)) cq) = ownP j rate os (i + 1) := by
              rw [← ownP_set j rate os i (by omega), hown]
              show _ = List.set _ _ (mnO _ (cornO j ns ms))
              rw [cO]; rfl
            rw [← e, List.set_set]; exact rds14
    · rintro σ H5 ⟨s5, ys, v1, v2, v3, v4, v5, v6, v7, dl, rds, rfl⟩
      have e : ownP j rate os ((xs.length : Int) - 1).toNat = ownL j rate os := by
        apply List.ext_getElem?
        intro k
        by_cases hk : k ≤ os.length
        · rw [ownP_get j rate os _ hk, Ow.ownL_get j rate os hk]
          congr 1
          split
          · rfl
          · have : k = os.length := by omega
            exact (Ow.ownF_last j rate os k this).symm
        · rw [List.getElem?_eq_none (by rw [ownP_len]; omega), List.getElem?_eq_none (by rw [Ow.ownL_len]; omega)]
      rw [e] at rds
      exact ⟨_, rfl, k D ys H5 n1.no dl rds s5⟩
end
end Lw



set_option Elab.async false
set_option linter.all false
set_option maxRecDepth 100000
set_option maxHeartbeats 1000000
set_option exponentiation.threshold 6000
namespace Lw
open PySem PySem.Spec PyProof.Rows L2 Rt Ln Cn Pn
open Ow (topR cornO mnO betR atO ownF leadF ownL OkI OkIs)
section
variable {P : Program} {w : World} {K : PySem.W.Frag} {mg : Str → Option Value} {base : Heap}
theorem zq_bd {z : Int} (h : z.natAbs < 2 ^ 24) : Bd 100 (z : Rat) := ⟨by rw [Rat.num_intCast]; exact Nat.lt_trans h (by decide), by rw [Rat.den_intCast]; decide⟩
abbrev sPlanL : Stmt := top 62
theorem scPlanL : FnScope ["_law_machine_here", "_law_items_here", "_law_rate", "_law_found", "_law_border", "_law_more"] ["_law_machine_here", "_law_items_here", "_law_rate"] (defScope sPlanL) := ⟨rfl, rfl, rfl, by decide +kernel, rfl, by decide +kernel, by decide +kernel⟩
theorem ok_planL (F : FA K mg "_law_plan" sPlanL) (B : Blt mg) (hL_bounds : FnHas P w K mg base "_law_bounds" 3 (spBnd K)) (hL_sum : FnHas P w K mg base "_law_sum" 2 (spR2 (· + ·) K)) (hL_lead : FnHas P w K mg base "_law_lead" 1 (spLead K)) (hL_min : FnHas P w K mg base "_law_min" 2 (spLeast K)) : FnHas P w K mg base "_law_plan" 4 (spPlan K) := by
  refine F.has scPlanL (fun vs H Q E h => ?_) (fun _ _ _ _ _ _ us hl => match us, hl with | [_, _, _], _ => rfl) (fun fa cdv A outer s H vs Q E hr h => ?_)
  · obtain ⟨m, iv, rate, rs, r, f, j, t, ds, os, rfl, _⟩ := h
    rfl
  · obtain ⟨m, iv, rate, rs, r, f, j, t, ds, os, rfl, rm, okm, ri, row, hz, rt1, rt2, k⟩ := h
    have nd := scPlanL.nd
    refine ⟨_, (pss_cons (ps_set (i := 3) nd rfl (Or.inl rfl) (pe_fn hL_bounds (hr.mono (by decide)) rfl (pa_cons (pv 0) (pa_cons (pv 1) (pa_cons (pv 2) pa_nil)))))
    (pss_cons (ps_for PassesOwn.never rfl (pi_range3 rfl (B.at "range") (pa_cons (pe_op op_sub (pe_callB (x := "len") (lenK K rfl) rfl (B.at "len") PySem.boot_len (pa_cons (pv 1) pa_nil)) pe_int) (pa_cons pe_int (pa_cons (pe_un un_neg pe_int) pa_nil)))) (pg_name (i := 4) nd rfl (Or.inl rfl))
    (pss_one (ps_if (pt_cmpR (eqK K rfl hr.units) (pe_ix (ixK K rfl) (pe_ix (ixK K rfl) (pv 1) (pv 4) (fun _ _ => rfl)) pe_int (fun _ _ => rfl)) pe_str (nomark _))
    (pss_cons (ps_set (i := 5) nd rfl (Or.inl rfl) (pe_fn hL_sum (hr.mono (by decide)) rfl (pa_cons (pe_ix (ixK K rfl) (pv 3) (pe_op op_add (pv 4) pe_int) (fun _ _ => rfl)) (pa_cons (pe_tupA (pa_cons (pe_op op_mulG (pe_op op_mulG pe_int (pe_ix (ixK K rfl) (pv 0) pe_int (fun _ _ => rfl))) (pe_fn hL_lead (hr.mono (by decide)) rfl (pa_cons (pe_ix (ixK K rfl) (pv 1) (pv 4) (fun _ _ => rfl)) pa_nil))) (pa_cons pe_int pa_nil))) pa_nil))))
    (pss_one (ps_asg (pe_fn hL_min (hr.mono (by decide)) rfl (pa_cons (pe_lstA (pa_cons (pe_ix (ixK K rfl) (pv 3) (pv 4) (fun _ _ => rfl)) (pa_cons (pv 5) pa_nil))) pa_nil)) (pg_sub (pv 3) (pv 4) set_list))))
    pss_nil)))
    (pss_cons (ps_for PassesOwn.never rfl (pi_range2 rfl (B.at "range") (pa_cons pe_int (pa_cons (pe_callB (x := "len") (lenK K rfl) rfl (B.at "len") PySem.boot_len (pa_cons (pv 1) pa_nil)) pa_nil))) (pg_name (i := 4) nd rfl (Or.inl rfl))
    (pss_one (ps_if (pt_cmpR (eqK K rfl hr.units) (pe_ix (ixK K rfl) (pe_ix (ixK K rfl) (pv 1) (pe_op op_sub (pv 4) pe_int) (fun _ _ => rfl)) pe_int (fun _ _ => rfl)) pe_str (nomark _))
    (pss_cons (ps_set (i := 5) nd rfl (Or.inl rfl) (pe_fn hL_sum (hr.mono (by decide)) rfl (pa_cons (pe_ix (ixK K rfl) (pv 3) (pe_op op_sub (pv 4) pe_int) (fun _ _ => rfl)) (pa_cons (pe_tupA (pa_cons (pe_op op_mulG (pe_op op_mulG pe_int (pe_ix (ixK K rfl) (pv 0) pe_int (fun _ _ => rfl))) (pe_fn hL_lead (hr.mono (by decide)) rfl (pa_cons (pe_ix (ixK K rfl) (pv 1) (pe_op op_sub (pv 4) pe_int) (fun _ _ => rfl)) pa_nil))) (pa_cons pe_int pa_nil))) pa_nil))))
    (pss_one (ps_asg (pe_fn hL_min (hr.mono (by decide)) rfl (pa_cons (pe_lstA (pa_cons (pe_ix (ixK K rfl) (pv 3) (pv 4) (fun _ _ => rfl)) (pa_cons (pv 5) pa_nil))) pa_nil)) (pg_sub (pv 3) (pv 4) set_list))))
    pss_nil)))
    (pss_one (ps_ret (pv 3)))))), ?_⟩
    have ll := row.len
    have r50 := okm.r1
    have f50 := okm.f1
    have lr := okm.len
    have hB := Ow.ownF_bd okm.j1.1 okm.j1.2 rt1 rt2 row.okI
    have hN := Ow.ownF_nn j rate os
    have h0 : ownF j rate os 0 = 0 := rfl
    have hn := Ow.ownF_last j rate os os.length rfl
    refine ⟨_, rfl, _, rfl, _, rfl, m, iv, rate, rs, r, f, j, t, ds, os, rfl, rm, okm, ri, row, by omega, rt1, rt2, fun D y1 H1 nD d1 r1 s1 => ?_⟩
    obtain ⟨ma, mb, rfl, hma, hmb⟩ := mach_inv rm
    obtain ⟨ia, xs, rfl, hi, hxs⟩ := ri.tup_inv
    have lx := hxs.length
    generalize hg : ownF j rate os = g at hB hN h0 hn
    have r1' : RDs K H1 y1 ((lst os.length g).map ratD) := by rw [← hg]; exact r1
    have hL : ∀ i m, leadF os i = some m → (2 * f * (m : Int)).natAbs < 2 ^ 24 := fun i m e => up_small okm.f1.1 okm.f1.2 (leadF_le row.okI e)
    have hL2 : ∀ i m, leadF os i = some m → (2 * r * (m : Int)).natAbs < 2 ^ 24 := fun i m e => up_small okm.r1.1 okm.r1.2 (leadF_le row.okI e)
    have FB : ∀ i, i ≤ os.length → Bd 900 (fl os.length (leadF os) (2 * f) g i) := fun i hi => (fl_bd (fun i _ => hB i) hL i hi).mono (by omega)
    have FZ := fl_zero (n := os.length) (L := leadF os) (f := 2 * f) (g := g) (by omega) (fun i _ => hN i) h0
    have FN := fl_nn (n := os.length) (L := leadF os) (f := 2 * f) (g := g) (by omega) (fun i _ => hN i)
    refine ⟨_, rfl, ia, _, rfl, .inr (hi.go s1), _, _, rfl, rfl, _, rfl, _, _, rfl, ⟨by omega, by omega, by decide, by decide⟩, ?_⟩
    have eN : ((xs.length : Int) - 1 - 0).toNat = os.length - 1 := by omega
    rw [eN]
    refine for_down (Pv := fun i σ H5 => Same H H5 ∧ ∃ zs v1 v2, H5 D = some (.lst zs) ∧ RDs K H5 zs ((lst os.length fun k => if os.length ≤ k + i then fl os.length (leadF os) (2 * f) g k else g k).map ratD) ∧ σ = [some (.ref ma), some (.ref ia), some (.int rate), some (.ref D), v1, v2]) ?_ ?_ ?_
    · refine ⟨s1, y1, none, none, d1, ?_, rfl⟩
      rw [lst_congr (g := fun k => if os.length ≤ k + 0 then fl os.length (leadF os) (2 * f) g k else g k) (g' := g)]
      · exact r1'
      · intro k hk
        show g k = if os.length ≤ k + 0 then _ else g k
        split
        · next h => have : k = os.length := by omega
                    subst this; exact fl_n.symm
        · rfl
    · rintro i σ H3 hin ⟨s3, zs, v1, v2, dz, rz, rfl⟩
      obtain ⟨x, hx⟩ : ∃ x, xs[os.length - 1 - i]? = some x := ⟨_, List.getElem?_eq_getElem (show os.length - 1 - i < xs.length by omega)⟩
      generalize hc : os.length - 1 - i = c at hx
      have hcl : c < os.length := by omega
      have eI : ((xs.length : Int) - 1 - (i : Int)) = (c : Int) := by omega
      rw [eI]
      obtain ⟨d, ed, rd⟩ := hxs.get' c hx
      obtain ⟨o, eo, it⟩ := row.get ed
      have lz := rz.length
      rw [List.length_map, lst_len] at lz
      have atx : atI xs (c : Int) = some x := atI_of (by omega) (by simpa using hx)
      obtain ⟨a, wd, yw, rfl, h1, ew, sw⟩ := it_word (RD.mono s3 _ rd) it
      refine ⟨_, rfl, _, rfl, .inr ⟨ia, _, _, _, rfl, rfl, hi.go s3, atx, .inr ⟨a, _, 0, .str wd, rfl, rfl, h1, atI_of (Int.le_refl 0) rfl, .inr ⟨_, _, rd_str _, rd_str _, sw, lineW, _, rfl, ?_⟩⟩⟩⟩
      rw [ew]
      cases o with
      | none =>
        refine iteF ?_
        refine ⟨s3, zs, _, _, dz, ?_, rfl⟩
        rw [lst_congr (g := fun k => if os.length ≤ k + (i + 1) then fl os.length (leadF os) (2 * f) g k else g k) (g' := fun k => if os.length ≤ k + i then fl os.length (leadF os) (2 * f) g k else g k)]
        · exact rz
        · intro k _
          show (if os.length ≤ k + i then _ else g k) = if os.length ≤ k + (i + 1) then _ else g k
          by_cases h1 : os.length ≤ k + i
          · rw [if_pos h1, if_pos (by omega)]
          · rw [if_neg h1]
            by_cases h2 : k = c
            · subst h2; rw [if_pos (by omega), fl_no hcl (leadF_none eo)]
            · rw [if_neg (by omega)]
      | some q =>
        obtain ⟨ns, sp⟩ := q
        refine iteT ?_
        have ed' := it_line it
        subst ed'
        obtain ⟨okn, _, _⟩ := row.ok c ns sp eo
        obtain ⟨z1, ez1⟩ : ∃ z, zs[c + 1]? = some z := ⟨_, List.getElem?_eq_getElem (show c + 1 < zs.length by omega)⟩
        obtain ⟨z0, ez0⟩ : ∃ z, zs[c]? = some z := ⟨_, List.getElem?_eq_getElem (show c < zs.length by omega)⟩
        have R1 : RatV K H3 z1 (fl os.length (leadF os) (2 * f) g (c + 1)) := by
          obtain ⟨d1, e1, r1⟩ := rz.get' (c + 1) ez1
          rw [List.getElem?_map, lst_get _ (show c + 1 ≤ os.length by omega)] at e1
          cases e1
          have : os.length ≤ c + 1 + i := by omega
          simp only [if_pos this] at r1
          exact ratOf r1
        have R0 : RatV K H3 z0 (g c) := by
          obtain ⟨d1, e1, r1⟩ := rz.get' c ez0
          rw [List.getElem?_map, lst_get _ (show c ≤ os.length by omega)] at e1
          cases e1
          have : ¬ os.length ≤ c + i := by omega
          simp only [if_neg this] at r1
          exact ratOf r1
        have eT1 : ((c : Int) + 1).toNat = c + 1 := by omega
        have at1 : atI zs ((c : Int) + 1) = some z1 := atI_of (by omega) (by rw [eT1]; exact ez1)
        have at0 : atI zs (c : Int) = some z0 := atI_of (by omega) (by simpa using ez0)
        refine ⟨_, rfl, _, rfl, _, _, rfl, rfl, .inl ⟨D, _, _, _, rfl, rfl, SqL.of dz, at1, ?_⟩⟩
        refine ⟨_, rfl, .inr ⟨ma, _, 2, .int f, rfl, rfl, hma.go s3, rfl, _, _, rfl, rfl, .of_left (intBits_le_64 (by decide) (by decide)), ?_⟩⟩
        refine ⟨_, rfl, _, rfl, .inr ⟨ia, _, _, _, rfl, rfl, hi.go s3, atx, ?_⟩⟩
        refine ⟨_, ns, sp, rfl, RD.mono s3 _ rd, okn.ne, by rw [okn.len]; omega, fun H4 s4 => ?_⟩
        refine ⟨_, _, rfl, rfl, .of_left (intBits_le_64 (by omega) (by omega)), ?_⟩
        refine ⟨smallN _ (Nat.le_of_ble_eq_true rfl), fun tq H4' n4' => ?_⟩
        have us := hL c _ (leadF_some eo)
        refine ⟨z1, .ref tq, _, _, rfl, (R1.go s4).go n4'.same, ratZ (SqT.of n4'.at'), (FB (c + 1) (by omega)).mono (by decide), (zq_bd us).mono (by decide), fun u H5 ru s5 => ?_⟩
        have s45 := s4.trans (n4'.same.trans s5)
        have dz5 := s45 _ _ dz
        refine ⟨_, rfl, _, rfl, .inl ⟨D, _, _, _, rfl, rfl, SqL.of dz5, at0, _, rfl, ?_⟩⟩
        refine ⟨smallN _ (Nat.le_of_ble_eq_true rfl), fun l2 H6 n6 => ?_⟩
        have s36 := s45.trans n6.same
        have Rz0 := R0.go s36
        have Ru := ru.go n6.same
        have B1 : Bd 2000 (g c) := (hB _).mono (by decide)
        have B2 : Bd 2000 (fl os.length (leadF os) (2 * f) g (c + 1) + ((2 * f * (leadN ns : Int) : Int) : Rat)) := (add_bd (FB (c + 1) (by omega)) us).mono (by decide)
        refine ⟨l2, [z0, u], [_, _], rfl, SqL.of n6.at', ⟨Rz0, B1, Ru, B2, trivial⟩, by simp, fun c' v q e1 e2 hq => ?_⟩
        have hqe : mn (g c) (fl os.length (leadF os) (2 * f) g (c + 1) + ((2 * f * (leadN ns : Int) : Int) : Rat)) = q := by
          refine mn_eq_of ?_ (hq _ (by simp)) (hq _ (by simp))
          match c', e2 with
          | 0, e2 => cases e2; exact .inl rfl
          | 1, e2 => cases e2; exact .inr rfl
        have Rv : RatV K H6 v q := by
          match c', e1, e2 with
          | 0, e1, e2 => cases e1; cases e2; exact Rz0
          | 1, e1, e2 => cases e1; cases e2; exact Ru
        have dz6 := s36 _ _ dz
        have ix0 : ixN zs.length (c : Int) = some c := by
          unfold ixN
          rw [if_pos (by omega), if_pos (by omega)]; simp
        refine ⟨_, rfl, _, rfl, D, zs, _, _, rfl, rfl, dz6, ix0, ?_⟩
        refine ⟨fun b o e => ?_, _, _, _, upd_same, ?_, rfl⟩
        · rw [upd_ne (ne_of_none e nD)]; exact s36 b o (s3 b o e)
        · have h := RDs.setT (i := c) dz6 (RDs.mono s36 _ rz) Rv.rd (noLs_rat _) (ratD_no _)
          rw [← List.map_set] at h
          have e : (lst os.length fun k => if os.length ≤ k + i then fl os.length (leadF os) (2 * f) g k else g k).set c q = lst os.length fun k => if os.length ≤ k + (i + 1) then fl os.length (leadF os) (2 * f) g k else g k := by
            rw [← lst_set (g := fun k => if os.length ≤ k + i then fl os.length (leadF os) (2 * f) g k else g k) (g' := fun k => if os.length ≤ k + (i + 1) then fl os.length (leadF os) (2 * f) g k else g k) (i := c)]
            · have : os.length ≤ c + (i + 1) := by omega
              simp only [if_pos this]
              rw [fl_line hcl (leadF_some eo), hqe]
            · intro k _ hk
              show (if os.length ≤ k + (i + 1) then _ else g k) = if os.length ≤ k + i then _ else g k
              by_cases h1 : os.length ≤ k + i
              · rw [if_pos h1, if_pos (by omega)]
              · rw [if_neg h1, if_neg (by omega)]
          rw [e] at h
          exact h
    · rintro σ H3 ⟨s3, zs, v1, v2, dz, rz, rfl⟩
      generalize hG : fl os.length (leadF os) (2 * f) g = G at FB FZ FN rz
      have Gn : G os.length = 0 := by rw [← hG, fl_n]; exact hn
      have rzG : RDs K H3 zs ((lst os.length G).map ratD) := by
        rw [lst_congr (g := fun k => if os.length ≤ k + (os.length - 1) then G k else g k) (g' := G)] at rz
        · exact rz
        · intro k hk
          show G k = if os.length ≤ k + (os.length - 1) then _ else _
          split
          · rfl
          · next h => have : k = 0 := by omega
                      subst this; exact FZ
      have RB : ∀ i, i ≤ os.length → Bd 1700 (Rz (fun i => if i ≤ os.length then G i else 0) (leadF os) (2 * r) i) := fun i hi => (Rz_bd (b := 900) (fun i => by
        by_cases h : i ≤ os.length
        · simp only [if_pos h]; exact FB i h
        · simp only [if_neg h]; exact (Ow.zero_bd).mono (by decide)) hL2 i).mono (by omega)
      have RE : ∀ i, i ≤ os.length → Rz (fun i => if i ≤ os.length then G i else 0) (leadF os) (2 * r) i = Rz G (leadF os) (2 * r) i := by
        intro i
        induction i with
        | zero => intro _; show (if 0 ≤ os.length then G 0 else 0) = G 0; rw [if_pos (Nat.zero_le _)]
        | succ i ih =>
          intro hi
          have e : (if i + 1 ≤ os.length then G (i + 1) else 0) = G (i + 1) := if_pos hi
          cases hl : leadF os i with
          | none => rw [Rz_no hl, Rz_no hl]; exact e
          | some m =>
            rw [Rz_line hl, Rz_line hl, ih (by omega)]
            show mn (if i + 1 ≤ os.length then G (i + 1) else 0) _ = _
            rw [e]
      have RB' : ∀ i, i ≤ os.length → Bd 1700 (Rz G (leadF os) (2 * r) i) := fun i hi => by rw [← RE i hi]; exact RB i hi
      refine ⟨_, rfl, ia, _, rfl, .inr (hi.go s3), _, _, rfl, ⟨by decide, by decide, by omega, by omega⟩, ?_⟩
      have eN2 : ((xs.length : Int) - 1).toNat = os.length - 1 := by omega
      rw [eN2]
      refine for_range (Pv := fun i σ H5 => Same H H5 ∧ ∃ zs v1 v2, H5 D = some (.lst zs) ∧ RDs K H5 zs ((lst os.length fun k => if k ≤ i then Rz G (leadF os) (2 * r) k else G k).map ratD) ∧ σ = [some (.ref ma), some (.ref ia), some (.int rate), some (.ref D), v1, v2]) ?_ ?_ ?_
      · refine ⟨s3, zs, v1, v2, dz, ?_, rfl⟩
        rw [lst_congr (g := fun k => if k ≤ 0 then Rz G (leadF os) (2 * r) k else G k) (g' := G)]
        · exact rzG
        · intro k _
          show G k = if k ≤ 0 then Rz G (leadF os) (2 * r) k else G k
          split
          · next h => have : k = 0 := by omega
                      subst this; rfl
          · rfl
      · rintro i σ H3 hin ⟨s3, zs, v1, v2, dz, rz, rfl⟩
        have hcl : i + 1 < os.length := by omega
        obtain ⟨x, hx⟩ : ∃ x, xs[i]? = some x := ⟨_, List.getElem?_eq_getElem (show i < xs.length by omega)⟩
        have eI : ((1 : Int) + (i : Int) - 1) = (i : Int) := by omega
        obtain ⟨d, ed, rd⟩ := hxs.get' i hx
        obtain ⟨o, eo, it⟩ := row.get ed
        have lz := rz.length
        rw [List.length_map, lst_len] at lz
        have atx : atI xs ((1 : Int) + (i : Int) - 1) = some x := by rw [eI]; exact atI_of (by omega) (by simpa using hx)
        obtain ⟨a, wd, yw, rfl, h1, ew, sw⟩ := it_word (RD.mono s3 _ rd) it
        refine ⟨_, rfl, _, rfl, _, _, rfl, rfl, .inr ⟨ia, _, _, _, rfl, rfl, hi.go s3, atx, .inr ⟨a, _, 0, .str wd, rfl, rfl, h1, atI_of (Int.le_refl 0) rfl, .inr ⟨_, _, rd_str _, rd_str _, sw, lineW, _, rfl, ?_⟩⟩⟩⟩
        rw [ew]
        cases o with
        | none =>
          refine iteF ?_
          refine ⟨s3, zs, _, _, dz, ?_, rfl⟩
          rw [lst_congr (g := fun k => if k ≤ i + 1 then Rz G (leadF os) (2 * r) k else G k) (g' := fun k => if k ≤ i then Rz G (leadF os) (2 * r) k else G k)]
          · exact rz
          · intro k _
            show (if k ≤ i then _ else G k) = if k ≤ i + 1 then _ else G k
            by_cases h1 : k ≤ i
            · rw [if_pos h1, if_pos (by omega)]
            · rw [if_neg h1]
              by_cases h2 : k = i + 1
              · subst h2; rw [if_pos (by omega), Rz_no (leadF_none eo)]
              · rw [if_neg (by omega)]
        | some q =>
          obtain ⟨ns, sp⟩ := q
          refine iteT ?_
          have ed' := it_line it
          subst ed'
          obtain ⟨okn, _, _⟩ := row.ok i ns sp eo
          obtain ⟨z1, ez1⟩ : ∃ z, zs[i]? = some z := ⟨_, List.getElem?_eq_getElem (show i < zs.length by omega)⟩
          obtain ⟨z0, ez0⟩ : ∃ z, zs[i + 1]? = some z := ⟨_, List.getElem?_eq_getElem (show i + 1 < zs.length by omega)⟩
          have R1 : RatV K H3 z1 (Rz G (leadF os) (2 * r) i) := by
            obtain ⟨d1, e1, r1⟩ := rz.get' i ez1
            rw [List.getElem?_map, lst_get _ (show i ≤ os.length by omega)] at e1
            cases e1
            simp only [if_pos (Nat.le_refl i)] at r1
            exact ratOf r1
          have R0 : RatV K H3 z0 (G (i + 1)) := by
            obtain ⟨d1, e1, r1⟩ := rz.get' (i + 1) ez0
            rw [List.getElem?_map, lst_get _ (show i + 1 ≤ os.length by omega)] at e1
            cases e1
            have : ¬ i + 1 ≤ i := by omega
            simp only [if_neg this] at r1
            exact ratOf r1
          have eT0 : ((1 : Int) + (i : Int)).toNat = i + 1 := by omega
          have at1 : atI zs ((1 : Int) + (i : Int) - 1) = some z1 := by rw [eI]; exact atI_of (by omega) (by simpa using ez1)
          have at0 : atI zs ((1 : Int) + (i : Int)) = some z0 := atI_of (by omega) (by rw [eT0]; exact ez0)
          refine ⟨_, rfl, _, rfl, _, _, rfl, rfl, .inl ⟨D, _, _, _, rfl, rfl, SqL.of dz, at1, ?_⟩⟩
          refine ⟨_, rfl, .inr ⟨ma, _, 1, .int r, rfl, rfl, hma.go s3, rfl, _, _, rfl, rfl, .of_left (intBits_le_64 (by decide) (by decide)), ?_⟩⟩
          refine ⟨_, rfl, _, rfl, _, _, rfl, rfl, .inr ⟨ia, _, _, _, rfl, rfl, hi.go s3, atx, ?_⟩⟩
          refine ⟨_, ns, sp, rfl, RD.mono s3 _ rd, okn.ne, by rw [okn.len]; omega, fun H4 s4 => ?_⟩
          refine ⟨_, _, rfl, rfl, .of_left (intBits_le_64 (by omega) (by omega)), ?_⟩
          refine ⟨smallN _ (Nat.le_of_ble_eq_true rfl), fun tq H4' n4' => ?_⟩
          have us := hL2 i _ (leadF_some eo)
          refine ⟨z1, .ref tq, _, _, rfl, (R1.go s4).go n4'.same, ratZ (SqT.of n4'.at'), (RB' i (by omega)).mono (by decide), (zq_bd us).mono (by decide), fun u H5 ru s5 => ?_⟩
          have s45 := s4.trans (n4'.same.trans s5)
          have dz5 := s45 _ _ dz
          refine ⟨_, rfl, _, rfl, .inl ⟨D, _, _, _, rfl, rfl, SqL.of dz5, at0, _, rfl, ?_⟩⟩
          refine ⟨smallN _ (Nat.le_of_ble_eq_true rfl), fun l2 H6 n6 => ?_⟩
          have s36 := s45.trans n6.same
          have Rz0 := R0.go s36
          have Ru := ru.go n6.same
          have B1 : Bd 2000 (G (i + 1)) := (FB _ (by omega)).mono (by decide)
          have B2 : Bd 2000 (Rz G (leadF os) (2 * r) i + ((2 * r * (leadN ns : Int) : Int) : Rat)) := (add_bd (RB' i (by omega)) us).mono (by decide)
          refine ⟨l2, [z0, u], [_, _], rfl, SqL.of n6.at', ⟨Rz0, B1, Ru, B2, trivial⟩, by simp, fun c' v q e1 e2 hq => ?_⟩
          have hqe : mn (G (i + 1)) (Rz G (leadF os) (2 * r) i + ((2 * r * (leadN ns : Int) : Int) : Rat)) = q := by
            refine mn_eq_of ?_ (hq _ (by simp)) (hq _ (by simp))
            match c', e2 with
            | 0, e2 => cases e2; exact .inl rfl
            | 1, e2 => cases e2; exact .inr rfl
          have Rv : RatV K H6 v q := by
            match c', e1, e2 with
            | 0, e1, e2 => cases e1; cases e2; exact Rz0
            | 1, e1, e2 => cases e1; cases e2; exact Ru
          have dz6 := s36 _ _ dz
          have ix0 : ixN zs.length ((1 : Int) + (i : Int)) = some (i + 1) := by
            unfold ixN
            rw [if_pos (by omega), if_pos (by omega), eT0]
          refine ⟨_, rfl, _, rfl, D, zs, _, _, rfl, rfl, dz6, ix0, ?_⟩
          refine ⟨fun b o e => ?_, _, _, _, upd_same, ?_, rfl⟩
          · rw [upd_ne (ne_of_none e nD)]; exact s36 b o (s3 b o e)
          · have h := RDs.setT (i := i + 1) dz6 (RDs.mono s36 _ rz) Rv.rd (noLs_rat _) (ratD_no _)
            rw [← List.map_set] at h
            have e : (lst os.length fun k => if k ≤ i then Rz G (leadF os) (2 * r) k else G k).set (i + 1) q = lst os.length fun k => if k ≤ i + 1 then Rz G (leadF os) (2 * r) k else G k := by
              rw [← lst_set (g := fun k => if k ≤ i then Rz G (leadF os) (2 * r) k else G k) (g' := fun k => if k ≤ i + 1 then Rz G (leadF os) (2 * r) k else G k) (i := i + 1)]
              · simp only [if_pos (Nat.le_refl (i + 1))]
                rw [Rz_line (leadF_some eo), hqe]
              · intro k _ hk
                show (if k ≤ i + 1 then _ else G k) = if k ≤ i then _ else G k
                by_cases h1 : k ≤ i
                · rw [if_pos h1, if_pos (by omega)]
                · rw [if_neg h1, if_neg (by omega)]
            rw [e] at h
            exact h
      · rintro σ H4 ⟨s4, zs, v1, v2, dz, rz, rfl⟩
        refine ⟨_, rfl, k D zs H4 nD dz ?_ s4⟩
        have e : planL r f j rate os = lst os.length fun k => if k ≤ os.length - 1 then Rz G (leadF os) (2 * r) k else G k := by
          refine (lst_congr fun k hk => ?_)
          show (if k ≤ os.length - 1 then Rz G (leadF os) (2 * r) k else G k) = planF r f j rate os k
          have e1 : Rz G (leadF os) (2 * r) k = planF r f j rate os k := by
            rw [← hG, ← hg]; exact Rz_fl (by omega) (by omega) k hk
          split
          · exact e1
          · next h =>
            have : k = os.length := by omega
            subst this
            rw [← e1]
            exact (Rz_last (by omega) FN Gn).symm
        rw [e]; exact rz
end
end Lw



set_option Elab.async false
set_option linter.all false
set_option maxRecDepth 100000
set_option maxHeartbeats 1000000
set_option exponentiation.threshold 6000
namespace Lw
open PySem PySem.Spec PyProof.Rows L2 Rt Ln
section
variable {P : Program} {w : World} {K : PySem.W.Frag} {mg : Str → Option Value} {base : Heap}
theorem tyTL : tyIs "tuple" "list" = false := by decide
theorem tyLT : tyIs "list" "tuple" = false := by decide
theorem all_rep (n : Nat) : (List.replicate n true).all id = true := by
  induction n with
  | zero => rfl
  | succ n ih => rw [List.replicate_succ, List.all_cons, ih]; rfl
/-- whole numbers and texts -/
def Leaf (D : PyData) : Prop := (∃ z, D = .int z) ∨ ∃ s, D = .str s ∧ SeqAt.shaped (.str s) = true ∧ PyData.eqv (.str s) (.str s) = true
def Nx (A : PyData → Prop) (D : PyData) : Prop := Leaf D ∨ ∃ ds, (D = .tuple ds ∨ D = .list ds) ∧ ds.length ≤ 100000 ∧ ∀ x ∈ ds, A x
def spAl (A : PyData → Prop) (K : PySem.W.Frag) : Sp := fun vs H Q _ => ∃ v u D, vs = [v, u] ∧ RD K H v D ∧ RD K H u D ∧ A D ∧ ∀ H', Same H H' → Q (.bl true) H'
abbrev sAlike : Stmt := top 66
theorem scAlike : FnScope ["_law_found", "_law_due"] ["_law_found", "_law_due"] (defScope sAlike) := ⟨rfl, rfl, rfl, by decide +kernel, rfl, by decide +kernel, by decide +kernel⟩
theorem ok_al0 (F : FA K mg "_law_alike" sAlike) (B : Blt mg) : FnHas P w K mg base "_law_alike" 1 (spAl (fun _ => False) K) := by
  refine F.has scAlike (fun vs H Q E h => ?_) (fun _ _ _ _ _ _ us hl => match us, hl with | [_, _], _ => rfl) (fun f cdv A outer s H vs Q E hr h => ?_)
  · obtain ⟨v, u, D, rfl, _, _, h, _⟩ := h
    exact h.elim
  · obtain ⟨v, u, D, rfl, _, _, h, _⟩ := h
    exact h.elim
theorem ok_alN {A : PyData → Prop} {n : Nat} (hn : 1 ≤ n) (F : FA K mg "_law_alike" sAlike) (B : Blt mg) (hL_number : FnHas P w K mg base "_law_number" 1 (spIsW K)) (hL_alike : FnHas P w K mg base "_law_alike" n (spAl A K)) : FnHas P w K mg base "_law_alike" (n + 1) (spAl (Nx A) K) := by
  refine F.has scAlike (fun vs H Q E h => ?_) (fun _ _ _ _ _ _ us hl => match us, hl with | [_, _], _ => rfl) (fun f cdv A' outer s H vs Q E hr h => ?_)
  · obtain ⟨v, u, D, rfl, _⟩ := h
    rfl
  · obtain ⟨v, u, D, rfl, rv, ru, hD, k⟩ := h
    have nd := scAlike.nd
    rcases hD with (⟨z, rfl⟩ | ⟨z, rfl, sh, eq⟩) | ⟨ds, rfl | rfl, hz, hA⟩
    · refine ⟨_, (pss_cons (ps_if (pt_val (pe_callB (x := "isinstance") (isiK K rfl) rfl (B.at "isinstance") PyProof.Rows.boot_isinstance (pa_cons (pv 1) (pa_cons (pe_tupA (pa_cons (pe_bltn (x := "list") (v := .ty "list") rfl (B.at "list") PyProof.Rows.boot_list rfl) (pa_cons (pe_bltn (x := "tuple") (v := .ty "tuple") rfl (B.at "tuple") PyProof.Rows.boot_tuple rfl) pa_nil))) pa_nil))))
    (pss_cons (ps_if (PW.pt (pw_or (pt_cmpR (neK K rfl hr.units) (pe_callB (x := "isinstance") (isiK K rfl) rfl (B.at "isinstance") PyProof.Rows.boot_isinstance (pa_cons (pv 1) (pa_cons (pe_bltn (x := "list") (v := .ty "list") rfl (B.at "list") PyProof.Rows.boot_list rfl) pa_nil))) (pe_callB (x := "isinstance") (isiK K rfl) rfl (B.at "isinstance") PyProof.Rows.boot_isinstance (pa_cons (pv 0) (pa_cons (pe_bltn (x := "list") (v := .ty "list") rfl (B.at "list") PyProof.Rows.boot_list rfl) pa_nil))) (nomark _)) (pw_or1 (pt_cmpR (neK K rfl hr.units) (pe_callB (x := "isinstance") (isiK K rfl) rfl (B.at "isinstance") PyProof.Rows.boot_isinstance (pa_cons (pv 1) (pa_cons (pe_bltn (x := "tuple") (v := .ty "tuple") rfl (B.at "tuple") PyProof.Rows.boot_tuple rfl) pa_nil))) (pe_callB (x := "isinstance") (isiK K rfl) rfl (B.at "isinstance") PyProof.Rows.boot_isinstance (pa_cons (pv 0) (pa_cons (pe_bltn (x := "tuple") (v := .ty "tuple") rfl (B.at "tuple") PyProof.Rows.boot_tuple rfl) pa_nil))) (nomark _)))))
    (pss_one (ps_ret pe_bl))
    pss_nil)
    (pss_one (ps_ret (pe_and (pe_cmpR (eqK K rfl hr.units) (pe_callB (x := "len") (lenK K rfl) rfl (B.at "len") PySem.boot_len (pa_cons (pv 0) pa_nil)) (pe_callB (x := "len") (lenK K rfl) rfl (B.at "len") PySem.boot_len (pa_cons (pv 1) pa_nil)) (nomark _)) (pe_one (pe_callB (x := "all") (allK K rfl rfl) rfl (B.at "all") PyProof.Rows.boot_all (pa_cons (pe_comp (N := ["_law_one", "_law_two"]) (js := [none, none]) rfl rfl rfl (pi_zip K rfl false false rfl (B.at "zip") (pa_cons (pv 0) (pa_cons (pv 1) pa_nil))) (fun _ _ _ _ _ => (pgT K rfl (n := 2) rfl (pgs_cons (pg_name (i := 0) (show List.Nodup (["_law_one", "_law_two"] : List Str) by decide +kernel) rfl (Or.inl rfl)) (pgs_cons (pg_name (i := 1) (show List.Nodup (["_law_one", "_law_two"] : List Str) by decide +kernel) rfl (Or.inl rfl)) pgs_nil)))) (fun _ _ _ _ _ => pts_nil) (fun _ _ _ _ _ => (pe_fn hL_alike (hr.mono (by omega)) rfl (pa_cons (pv 0) (pa_cons (pv 1) pa_nil))))) pa_nil)))))))
    pss_nil)
    (pss_cons (ps_if (pt_val (pe_callB (x := "isinstance") (isiK K rfl) rfl (B.at "isinstance") PyProof.Rows.boot_isinstance (pa_cons (pv 1) (pa_cons (pe_bltn (x := "str") (v := .ty "str") rfl (B.at "str") PyProof.Rows.boot_str rfl) pa_nil))))
    (pss_one (ps_ret (pe_and (pe_callB (x := "isinstance") (isiK K rfl) rfl (B.at "isinstance") PyProof.Rows.boot_isinstance (pa_cons (pv 0) (pa_cons (pe_bltn (x := "str") (v := .ty "str") rfl (B.at "str") PyProof.Rows.boot_str rfl) pa_nil))) (pe_one (pe_cmpR (eqK K rfl hr.units) (pv 0) (pv 1) (nomark _))))))
    pss_nil)
    (pss_one (ps_ret (pe_and (pe_fn hL_number (hr.mono (by omega)) rfl (pa_cons (pv 0) pa_nil)) (pe_one (pe_cmpR (eqK K rfl hr.units) (pv 0) (pv 1) (nomark _)))))))), ?_⟩
      cases rv.int_inv
      cases ru.int_inv
      refine ⟨_, rfl, smallN _ (Nat.le_of_ble_eq_true rfl), fun tt H1 n1 => .inr ⟨_, "int", tt, ["list", "tuple"], _, rfl, n1.at', rfl, by decide, rfl, _, rfl, iteF ?_⟩⟩
      refine ⟨_, rfl, .inl ⟨_, "int", "str", _, rfl, rfl, by decide, rfl, _, rfl, iteF ?_⟩⟩
      refine ⟨_, rfl, _, "int", rfl, rfl, _, rfl, iteT ?_⟩
      refine ⟨_, rfl, _, rfl, .inl ⟨_, _, rfl, rfl, ?_⟩⟩
      show Q (.bl (decide (z = z))) H1
      rw [decide_eq_true rfl]
      exact k H1 n1.same
    · refine ⟨_, (pss_cons (ps_if (pt_val (pe_callB (x := "isinstance") (isiK K rfl) rfl (B.at "isinstance") PyProof.Rows.boot_isinstance (pa_cons (pv 1) (pa_cons (pe_tupA (pa_cons (pe_bltn (x := "list") (v := .ty "list") rfl (B.at "list") PyProof.Rows.boot_list rfl) (pa_cons (pe_bltn (x := "tuple") (v := .ty "tuple") rfl (B.at "tuple") PyProof.Rows.boot_tuple rfl) pa_nil))) pa_nil))))
    (pss_cons (ps_if (PW.pt (pw_or (pt_cmpR (neK K rfl hr.units) (pe_callB (x := "isinstance") (isiK K rfl) rfl (B.at "isinstance") PyProof.Rows.boot_isinstance (pa_cons (pv 1) (pa_cons (pe_bltn (x := "list") (v := .ty "list") rfl (B.at "list") PyProof.Rows.boot_list rfl) pa_nil))) (pe_callB (x := "isinstance") (isiK K rfl) rfl (B.at "isinstance") PyProof.Rows.boot_isinstance (pa_cons (pv 0) (pa_cons (pe_bltn (x := "list") (v := .ty "list") rfl (B.at "list") PyProof.Rows.boot_list rfl) pa_nil))) (nomark _)) (pw_or1 (pt_cmpR (neK K rfl hr.units) (pe_callB (x := "isinstance") (isiK K rfl) rfl (B.at "isinstance") PyProof.Rows.boot_isinstance (pa_cons (pv 1) (pa_cons (pe_bltn (x := "tuple") (v := .ty "tuple") rfl (B.at "tuple") PyProof.Rows.boot_tuple rfl) pa_nil))) (pe_callB (x := "isinstance") (isiK K rfl) rfl (B.at "isinstance") PyProof.Rows.boot_isinstance (pa_cons (pv 0) (pa_cons (pe_bltn (x := "tuple") (v := .ty "tuple") rfl (B.at "tuple") PyProof.Rows.boot_tuple rfl) pa_nil))) (nomark _)))))
    (pss_one (ps_ret pe_bl))
    pss_nil)
    (pss_one (ps_ret (pe_and (pe_cmpR (eqK K rfl hr.units) (pe_callB (x := "len") (lenK K rfl) rfl (B.at "len") PySem.boot_len (pa_cons (pv 0) pa_nil)) (pe_callB (x := "len") (lenK K rfl) rfl (B.at "len") PySem.boot_len (pa_cons (pv 1) pa_nil)) (nomark _)) (pe_one (pe_callB (x := "all") (allK K rfl rfl) rfl (B.at "all") PyProof.Rows.boot_all (pa_cons (pe_comp (N := ["_law_one", "_law_two"]) (js := [none, none]) rfl rfl rfl (pi_zip K rfl false false rfl (B.at "zip") (pa_cons (pv 0) (pa_cons (pv 1) pa_nil))) (fun _ _ _ _ _ => (pgT K rfl (n := 2) rfl (pgs_cons (pg_name (i := 0) (show List.Nodup (["_law_one", "_law_two"] : List Str) by decide +kernel) rfl (Or.inl rfl)) (pgs_cons (pg_name (i := 1) (show List.Nodup (["_law_one", "_law_two"] : List Str) by decide +kernel) rfl (Or.inl rfl)) pgs_nil)))) (fun _ _ _ _ _ => pts_nil) (fun _ _ _ _ _ => (pe_fn hL_alike (hr.mono (by omega)) rfl (pa_cons (pv 0) (pa_cons (pv 1) pa_nil))))) pa_nil)))))))
    pss_nil)
    (pss_cons (ps_if (pt_val (pe_callB (x := "isinstance") (isiK K rfl) rfl (B.at "isinstance") PyProof.Rows.boot_isinstance (pa_cons (pv 1) (pa_cons (pe_bltn (x := "str") (v := .ty "str") rfl (B.at "str") PyProof.Rows.boot_str rfl) pa_nil))))
    (pss_one (ps_ret (pe_and (pe_callB (x := "isinstance") (isiK K rfl) rfl (B.at "isinstance") PyProof.Rows.boot_isinstance (pa_cons (pv 0) (pa_cons (pe_bltn (x := "str") (v := .ty "str") rfl (B.at "str") PyProof.Rows.boot_str rfl) pa_nil))) (pe_one (pe_cmpR (eqK K rfl hr.units) (pv 0) (pv 1) (nomark _))))))
    pss_nil)
    (pss_one (ps_ret (pe_and (pe_fn hL_number (hr.mono (by omega)) rfl (pa_cons (pv 0) pa_nil)) (pe_one (pe_cmpR (eqK K rfl hr.units) (pv 0) (pv 1) (nomark _)))))))), ?_⟩
      cases rv.str_inv
      cases ru.str_inv
      refine ⟨_, rfl, smallN _ (Nat.le_of_ble_eq_true rfl), fun tt H1 n1 => .inr ⟨_, "str", tt, ["list", "tuple"], _, rfl, n1.at', rfl, by decide, rfl, _, rfl, iteF ?_⟩⟩
      refine ⟨_, rfl, .inl ⟨_, "str", "str", _, rfl, rfl, by decide, rfl, _, rfl, iteT ?_⟩⟩
      refine ⟨_, rfl, .inl ⟨_, "str", "str", _, rfl, rfl, by decide, rfl, _, rfl, iteT ?_⟩⟩
      refine ⟨_, rfl, _, rfl, .inr ⟨_, _, rd_str _, rd_str _, sh, sh, ?_⟩⟩
      rw [eq]
      exact k H1 n1.same
    · refine ⟨_, (pss_cons (ps_if (pt_val (pe_callB (x := "isinstance") (isiK K rfl) rfl (B.at "isinstance") PyProof.Rows.boot_isinstance (pa_cons (pv 1) (pa_cons (pe_tupA (pa_cons (pe_bltn (x := "list") (v := .ty "list") rfl (B.at "list") PyProof.Rows.boot_list rfl) (pa_cons (pe_bltn (x := "tuple") (v := .ty "tuple") rfl (B.at "tuple") PyProof.Rows.boot_tuple rfl) pa_nil))) pa_nil))))
    (pss_cons (ps_if (PW.pt (pw_or (pt_cmpR (neK K rfl hr.units) (pe_callB (x := "isinstance") (isiK K rfl) rfl (B.at "isinstance") PyProof.Rows.boot_isinstance (pa_cons (pv 1) (pa_cons (pe_bltn (x := "list") (v := .ty "list") rfl (B.at "list") PyProof.Rows.boot_list rfl) pa_nil))) (pe_callB (x := "isinstance") (isiK K rfl) rfl (B.at "isinstance") PyProof.Rows.boot_isinstance (pa_cons (pv 0) (pa_cons (pe_bltn (x := "list") (v := .ty "list") rfl (B.at "list") PyProof.Rows.boot_list rfl) pa_nil))) (nomark _)) (pw_or1 (pt_cmpR (neK K rfl hr.units) (pe_callB (x := "isinstance") (isiK K rfl) rfl (B.at "isinstance") PyProof.Rows.boot_isinstance (pa_cons (pv 1) (pa_cons (pe_bltn (x := "tuple") (v := .ty "tuple") rfl (B.at "tuple") PyProof.Rows.boot_tuple rfl) pa_nil))) (pe_callB (x := "isinstance") (isiK K rfl) rfl (B.at "isinstance") PyProof.Rows.boot_isinstance (pa_cons (pv 0) (pa_cons (pe_bltn (x := "tuple") (v := .ty "tuple") rfl (B.at "tuple") PyProof.Rows.boot_tuple rfl) pa_nil))) (nomark _)))))
    (pss_one (ps_ret pe_bl))
    pss_nil)
    (pss_one (ps_ret (pe_and (pe_cmpR (eqK K rfl hr.units) (pe_callB (x := "len") (lenK K rfl) rfl (B.at "len") PySem.boot_len (pa_cons (pv 0) pa_nil)) (pe_callB (x := "len") (lenK K rfl) rfl (B.at "len") PySem.boot_len (pa_cons (pv 1) pa_nil)) (nomark _)) (pe_one (pe_callB (x := "all") (allK K rfl rfl) rfl (B.at "all") PyProof.Rows.boot_all (pa_cons (pe_comp (N := ["_law_one", "_law_two"]) (js := [none, none]) rfl rfl rfl (pi_zip K rfl false false rfl (B.at "zip") (pa_cons (pv 0) (pa_cons (pv 1) pa_nil))) (fun _ _ _ _ _ => (pgT K rfl (n := 2) rfl (pgs_cons (pg_name (i := 0) (show List.Nodup (["_law_one", "_law_two"] : List Str) by decide +kernel) rfl (Or.inl rfl)) (pgs_cons (pg_name (i := 1) (show List.Nodup (["_law_one", "_law_two"] : List Str) by decide +kernel) rfl (Or.inl rfl)) pgs_nil)))) (fun _ _ _ _ _ => pts_nil) (fun _ _ _ _ _ => (pe_fn hL_alike (hr.mono (by omega)) rfl (pa_cons (pv 0) (pa_cons (pv 1) pa_nil))))) pa_nil)))))))
    pss_nil)
    (pss_cons (ps_if (pt_val (pe_callB (x := "isinstance") (isiK K rfl) rfl (B.at "isinstance") PyProof.Rows.boot_isinstance (pa_cons (pv 1) (pa_cons (pe_bltn (x := "str") (v := .ty "str") rfl (B.at "str") PyProof.Rows.boot_str rfl) pa_nil))))
    (pss_one (ps_ret (pe_and (pe_callB (x := "isinstance") (isiK K rfl) rfl (B.at "isinstance") PyProof.Rows.boot_isinstance (pa_cons (pv 0) (pa_cons (pe_bltn (x := "str") (v := .ty "str") rfl (B.at "str") PyProof.Rows.boot_str rfl) pa_nil))) (pe_one (pe_cmpR (eqK K rfl hr.units) (pv 0) (pv 1) (nomark _))))))
    pss_nil)
    (pss_one (ps_ret (pe_and (pe_fn hL_number (hr.mono (by omega)) rfl (pa_cons (pv 0) pa_nil)) (pe_one (pe_cmpR (eqK K rfl hr.units) (pv 0) (pv 1) (nomark _)))))))), ?_⟩
      obtain ⟨va, xs, rfl, hV, hxs⟩ := rv.tup_inv
      obtain ⟨ua, ys, rfl, hU, hys⟩ := ru.tup_inv
      have lx := hxs.length
      have ly := hys.length
      refine ⟨_, rfl, smallN _ (Nat.le_of_ble_eq_true rfl), fun tt H1 n1 => .inr ⟨_, "tuple", tt, ["list", "tuple"], _, rfl, n1.at', .inr ⟨rfl, _, hU.go n1.same⟩, by decide, rfl, _, rfl, iteT ?_⟩⟩
      have s1 := n1.same
      refine ⟨_, rfl, .inl ⟨_, "tuple", "list", _, rfl, .inr ⟨rfl, _, hU.go s1⟩, by decide, tyTL, _, rfl, .inl ⟨_, "tuple", "list", _, rfl, .inr ⟨rfl, _, hV.go s1⟩, by decide, tyTL, .inr ⟨.bool false, .bool false, rd_bl _, rd_bl _, rfl, rfl, _, rfl, iteF ?_⟩⟩⟩⟩
      refine ⟨_, rfl, .inl ⟨_, "tuple", "tuple", _, rfl, .inr ⟨rfl, _, hU.go s1⟩, by decide, tyTT, _, rfl, .inl ⟨_, "tuple", "tuple", _, rfl, .inr ⟨rfl, _, hV.go s1⟩, by decide, tyTT, .inr ⟨.bool true, .bool true, rd_bl _, rd_bl _, rfl, rfl, _, rfl, iteF ?_⟩⟩⟩⟩
      refine ⟨_, rfl, va, _, rfl, .inr (hV.go s1), _, rfl, ua, _, rfl, .inr (hU.go s1), .inl ⟨_, _, rfl, rfl, _, rfl, ?_⟩⟩
      rw [decide_eq_true (show (xs.length : Int) = (ys.length : Int) by omega)]
      refine iteT ?_
      refine ⟨_, rfl, _, rfl, va, ua, rfl, ⟨_, hV.go s1⟩, ⟨_, hU.go s1⟩, fun D2 H2 n2 => ?_⟩
      refine comp_blZG (K := K) (b1 := false) (b2 := false) (xs := xs) (ys := ys) (bs := List.replicate ds.length true) _ rfl (hV.go s1) (hU.go s1) n2 (by rw [List.length_replicate]; omega) (by rw [List.length_replicate]; omega) ?_ ?_
      · intro q x y b H3 Q' ex ey eb s3 hq
        have eb' : b = true := by
          rw [List.getElem?_replicate] at eb
          split at eb
          · exact (Option.some.inj eb).symm
          · cases eb
        subst eb'
        have s13 := s1.trans s3
        obtain ⟨d1, e1, r1⟩ := hxs.get' q ex
        obtain ⟨d2, e2, r2⟩ := hys.get' q ey
        rw [e1] at e2
        cases e2
        exact ⟨_, rfl, _, rfl, x, y, d1, rfl, RD.mono s13 _ r1, RD.mono s13 _ r2, hA d1 (List.mem_of_getElem? e1), fun H4 s4 => hq H4 s4⟩
      · intro H3 s3 d3
        refine ⟨D2, _, rfl, SqL.of d3, ?_⟩
        rw [all_rep]
        exact k H3 (s1.trans s3)
    · refine ⟨_, (pss_cons (ps_if (pt_val (pe_callB (x := "isinstance") (isiK K rfl) rfl (B.at "isinstance") PyProof.Rows.boot_isinstance (pa_cons (pv 1) (pa_cons (pe_tupA (pa_cons (pe_bltn (x := "list") (v := .ty "list") rfl (B.at "list") PyProof.Rows.boot_list rfl) (pa_cons (pe_bltn (x := "tuple") (v := .ty "tuple") rfl (B.at "tuple") PyProof.Rows.boot_tuple rfl) pa_nil))) pa_nil))))
    (pss_cons (ps_if (PW.pt (pw_or (pt_cmpR (neK K rfl hr.units) (pe_callB (x := "isinstance") (isiK K rfl) rfl (B.at "isinstance") PyProof.Rows.boot_isinstance (pa_cons (pv 1) (pa_cons (pe_bltn (x := "list") (v := .ty "list") rfl (B.at "list") PyProof.Rows.boot_list rfl) pa_nil))) (pe_callB (x := "isinstance") (isiK K rfl) rfl (B.at "isinstance") PyProof.Rows.boot_isinstance (pa_cons (pv 0) (pa_cons (pe_bltn (x := "list") (v := .ty "list") rfl (B.at "list") PyProof.Rows.boot_list rfl) pa_nil))) (nomark _)) (pw_or1 (pt_cmpR (neK K rfl hr.units) (pe_callB (x := "isinstance") (isiK K rfl) rfl (B.at "isinstance") PyProof.Rows.boot_isinstance (pa_cons (pv 1) (pa_cons (pe_bltn (x := "tuple") (v := .ty "tuple") rfl (B.at "tuple") PyProof.Rows.boot_tuple rfl) pa_nil))) (pe_callB (x := "isinstance") (isiK K rfl) rfl (B.at "isinstance") PyProof.Rows.boot_isinstance (pa_cons (pv 0) (pa_cons (pe_bltn (x := "tuple") (v := .ty "tuple") rfl (B.at "tuple") PyProof.Rows.boot_tuple rfl) pa_nil))) (nomark _)))))
    (pss_one (ps_ret pe_bl))
    pss_nil)
    (pss_one (ps_ret (pe_and (pe_cmpR (eqK K rfl hr.units) (pe_callB (x := "len") (lenK K rfl) rfl (B.at "len") PySem.boot_len (pa_cons (pv 0) pa_nil)) (pe_callB (x := "len") (lenK K rfl) rfl (B.at "len") PySem.boot_len (pa_cons (pv 1) pa_nil)) (nomark _)) (pe_one (pe_callB (x := "all") (allK K rfl rfl) rfl (B.at "all") PyProof.Rows.boot_all (pa_cons (pe_comp (N := ["_law_one", "_law_two"]) (js := [none, none]) rfl rfl rfl (pi_zip K rfl true true rfl (B.at "zip") (pa_cons (pv 0) (pa_cons (pv 1) pa_nil))) (fun _ _ _ _ _ => (pgT K rfl (n := 2) rfl (pgs_cons (pg_name (i := 0) (show List.Nodup (["_law_one", "_law_two"] : List Str) by decide +kernel) rfl (Or.inl rfl)) (pgs_cons (pg_name (i := 1) (show List.Nodup (["_law_one", "_law_two"] : List Str) by decide +kernel) rfl (Or.inl rfl)) pgs_nil)))) (fun _ _ _ _ _ => pts_nil) (fun _ _ _ _ _ => (pe_fn hL_alike (hr.mono (by omega)) rfl (pa_cons (pv 0) (pa_cons (pv 1) pa_nil))))) pa_nil)))))))
    pss_nil)
    (pss_cons (ps_if (pt_val (pe_callB (x := "isinstance") (isiK K rfl) rfl (B.at "isinstance") PyProof.Rows.boot_isinstance (pa_cons (pv 1) (pa_cons (pe_bltn (x := "str") (v := .ty "str") rfl (B.at "str") PyProof.Rows.boot_str rfl) pa_nil))))
    (pss_one (ps_ret (pe_and (pe_callB (x := "isinstance") (isiK K rfl) rfl (B.at "isinstance") PyProof.Rows.boot_isinstance (pa_cons (pv 0) (pa_cons (pe_bltn (x := "str") (v := .ty "str") rfl (B.at "str") PyProof.Rows.boot_str rfl) pa_nil))) (pe_one (pe_cmpR (eqK K rfl hr.units) (pv 0) (pv 1) (nomark _))))))
    pss_nil)
    (pss_one (ps_ret (pe_and (pe_fn hL_number (hr.mono (by omega)) rfl (pa_cons (pv 0) pa_nil)) (pe_one (pe_cmpR (eqK K rfl hr.units) (pv 0) (pv 1) (nomark _)))))))), ?_⟩
      obtain ⟨va, xs, rfl, hV, hxs⟩ := rv.lst_inv
      obtain ⟨ua, ys, rfl, hU, hys⟩ := ru.lst_inv
      have lx := hxs.length
      have ly := hys.length
      refine ⟨_, rfl, smallN _ (Nat.le_of_ble_eq_true rfl), fun tt H1 n1 => .inr ⟨_, "list", tt, ["list", "tuple"], _, rfl, n1.at', .inl ⟨rfl, _, hU.go n1.same⟩, by decide, rfl, _, rfl, iteT ?_⟩⟩
      have s1 := n1.same
      refine ⟨_, rfl, .inl ⟨_, "list", "list", _, rfl, .inl ⟨rfl, _, hU.go s1⟩, by decide, tyLL, _, rfl, .inl ⟨_, "list", "list", _, rfl, .inl ⟨rfl, _, hV.go s1⟩, by decide, tyLL, .inr ⟨.bool true, .bool true, rd_bl _, rd_bl _, rfl, rfl, _, rfl, iteF ?_⟩⟩⟩⟩
      refine ⟨_, rfl, .inl ⟨_, "list", "tuple", _, rfl, .inl ⟨rfl, _, hU.go s1⟩, by decide, tyLT, _, rfl, .inl ⟨_, "list", "tuple", _, rfl, .inl ⟨rfl, _, hV.go s1⟩, by decide, tyLT, .inr ⟨.bool false, .bool false, rd_bl _, rd_bl _, rfl, rfl, _, rfl, iteF ?_⟩⟩⟩⟩
      refine ⟨_, rfl, va, _, rfl, .inl (hV.go s1), _, rfl, ua, _, rfl, .inl (hU.go s1), .inl ⟨_, _, rfl, rfl, _, rfl, ?_⟩⟩
      rw [decide_eq_true (show (xs.length : Int) = (ys.length : Int) by omega)]
      refine iteT ?_
      refine ⟨_, rfl, _, rfl, va, ua, rfl, ⟨_, hV.go s1⟩, ⟨_, hU.go s1⟩, fun D2 H2 n2 => ?_⟩
      refine comp_blZG (K := K) (b1 := true) (b2 := true) (xs := xs) (ys := ys) (bs := List.replicate ds.length true) _ rfl (hV.go s1) (hU.go s1) n2 (by rw [List.length_replicate]; omega) (by rw [List.length_replicate]; omega) ?_ ?_
      · intro q x y b H3 Q' ex ey eb s3 hq
        have eb' : b = true := by
          rw [List.getElem?_replicate] at eb
          split at eb
          · exact (Option.some.inj eb).symm
          · cases eb
        subst eb'
        have s13 := s1.trans s3
        obtain ⟨d1, e1, r1⟩ := hxs.get' q ex
        obtain ⟨d2, e2, r2⟩ := hys.get' q ey
        rw [e1] at e2
        cases e2
        exact ⟨_, rfl, _, rfl, x, y, d1, rfl, RD.mono s13 _ r1, RD.mono s13 _ r2, hA d1 (List.mem_of_getElem? e1), fun H4 s4 => hq H4 s4⟩
      · intro H3 s3 d3
        refine ⟨D2, _, rfl, SqL.of d3, ?_⟩
        rw [all_rep]
        exact k H3 (s1.trans s3)
end
end Lw



set_option Elab.async false
set_option linter.all false
set_option maxRecDepth 100000
set_option maxHeartbeats 1000000
set_option exponentiation.threshold 6000
namespace Lw
open PySem PySem.Spec PyProof.Rows L2 Rt Ln Cn Pn
open Ow (topR cornO mnO betR atO ownF leadF ownL OkI OkIs)
section
variable {P : Program} {w : World} {K : PySem.W.Frag} {mg : Str → Option Value} {base : Heap}
theorem cut_two {xs : List V} {i : Nat} {a b : V} (ha : xs[i]? = some a) (hb : xs[i + 1]? = some b) : cutV xs (some (i : Int)) (some ((i : Int) + 2)) = [a, b] := by
  have h1 : i + 1 < xs.length := (List.getElem?_eq_some_iff.mp hb).1
  unfold cutV
  have e : (i : Int) + 2 = ((i + 2 : Nat) : Int) := by omega
  rw [e, HT.sIx_nat, HT.sIx_nat]
  rw [show min i xs.length = i by omega, show min (i + 2) xs.length = i + 2 by omega, show i + 2 - i = 2 by omega]
  apply List.ext_getElem?
  intro k
  rw [List.getElem?_take]
  match k with
  | 0 => rw [if_pos (by decide), List.getElem?_drop, Nat.add_zero, ha]; rfl
  | 1 => rw [if_pos (by decide), List.getElem?_drop, hb]; rfl
  | k + 2 => rw [if_neg (by omega)]; rfl
def spTapeL (K : PySem.W.Frag) : Sp := fun vs H Q _ => ∃ m iv rate rs r f j t ds os, vs = [m, iv, .int rate] ∧ RD K H m (machD rs r f j t) ∧ OkM rs r f j t ∧ RD K H iv (.tuple ds) ∧ RowOk rs.length ds os ∧ ds.length ≤ 30 ∧ 10 ≤ rate ∧ rate ≤ 200 ∧ ∀ l ys H', H l = none → H' l = some (.lst ys) → RDs K H' ys (tapeD r f j t rate ds os os.length) → Same H H' → Q (.ref l) H'
theorem linD_len (r f ti : Int) (ns : List Int) (top b e : Rat) : (linD r f ti ns top b e).length = leadN ns := by rw [linD, List.length_map, List.length_range]
theorem linD_get {r f ti : Int} {ns : List Int} {top b e : Rat} {k : Nat} (h : k < leadN ns) : (linD r f ti ns top b e)[k]? = some (stepD ti (rowZ ns k) (midR r f (leadN ns) top b e k)) := by
  rw [linD, List.getElem?_map, List.getElem?_range h]; rfl
abbrev sTapeL : Stmt := top 65
theorem scTapeL : FnScope ["_law_machine_here", "_law_items_here", "_law_rate", "_law_squares", "_law_found", "_law_number_here", "_law_item", "_law_begin", "_law_end", "_law_some", "_law_row", "_law_square"] ["_law_machine_here", "_law_items_here", "_law_rate"] (defScope sTapeL) := ⟨rfl, rfl, rfl, by decide +kernel, rfl, by decide +kernel, by decide +kernel⟩
theorem ok_tapeL (F : FA K mg "_law_tape" sTapeL) (B : Blt mg) (hL_plan : FnHas P w K mg base "_law_plan" 4 (spPlan K)) (hL_middles : FnHas P w K mg base "_law_middles" 3 (spMid K)) (hL_rows : FnHas P w K mg base "_law_rows" 3 (spRowsL K)) (hL_ticks : FnHas P w K mg base "_law_ticks" 1 (spTicksL K)) : FnHas P w K mg base "_law_tape" 5 (spTapeL K) := by
  refine F.has scTapeL (fun vs H Q E h => ?_) (fun _ _ _ _ _ _ us hl => match us, hl with | [_, _, _], _ => rfl) (fun fa cdv A outer s H vs Q E hr h => ?_)
  · obtain ⟨m, iv, rate, rs, r, f, j, t, ds, os, rfl, _⟩ := h
    rfl
  · obtain ⟨m, iv, rate, rs, r, f, j, t, ds, os, rfl, rm, okm, ri, row, hz, rt1, rt2, k⟩ := h
    have nd := scTapeL.nd
    refine ⟨_, (pss_cons (ps_set (i := 3) nd rfl (Or.inl rfl) (pe_fn hL_plan (hr.mono (by decide)) rfl (pa_cons (pv 0) (pa_cons (pv 1) (pa_cons (pv 2) pa_nil)))))
    (pss_cons (ps_set (i := 4) nd rfl (Or.inl rfl) (pe_lstA pa_nil))
    (pss_cons (ps_for PassesOwn.never rfl (pi_enum K rfl false rfl (B.at "enumerate") (pa_cons (pv 1) pa_nil)) (pgT K rfl (n := 2) rfl (pgs_cons (pg_name (i := 5) nd rfl (Or.inl rfl)) (pgs_cons (pg_name (i := 6) nd rfl (Or.inl rfl)) pgs_nil)))
    (pss_one (ps_if (pt_cmpR (eqK K rfl hr.units) (pe_ix (ixK K rfl) (pv 6) pe_int (fun _ _ => rfl)) pe_str (nomark _))
    (pss_cons (ps_asg (pe_slice (slK K rfl) (pv 3) (po_some (pv 5)) (po_some (pe_op op_add (pv 5) pe_int))) (pgL K rfl (n := 2) rfl (pgs_cons (pg_name (i := 7) nd rfl (Or.inl rfl)) (pgs_cons (pg_name (i := 8) nd rfl (Or.inl rfl)) pgs_nil))))
    (pss_cons (ps_set (i := 9) nd rfl (Or.inl rfl) (pe_fn hL_middles (hr.mono (by decide)) rfl (pa_cons (pv 0) (pa_cons (pv 6) (pa_cons (pv 7) (pa_cons (pv 8) (pa_cons (pv 2) pa_nil)))))))
    (pss_one (ps_for PassesOwn.never rfl (pi_zip K rfl true true rfl (B.at "zip") (pa_cons (pe_fn hL_rows (hr.mono (by decide)) rfl (pa_cons (pv 6) pa_nil)) (pa_cons (pv 9) pa_nil))) (pgT K rfl (n := 2) rfl (pgs_cons (pg_name (i := 10) nd rfl (Or.inl rfl)) (pgs_cons (pg_name (i := 11) nd rfl (Or.inl rfl)) pgs_nil)))
    (pss_one (ps_expr (peApp K rfl (pv 4) (pa_cons (pe_tupA (pa_cons pe_str (pa_cons (pv 10) (pa_cons (pe_fn hL_ticks (hr.mono (by decide)) rfl (pa_cons (pv 0) (pa_cons (pv 11) pa_nil))) (pa_cons (pv 11) pa_nil))))) pa_nil))))))))
    (pss_one (ps_expr (peApp K rfl (pv 4) (pa_cons (pv 6) pa_nil)))))))
    (pss_one (ps_ret (pv 4)))))), ?_⟩
    have ll := row.len
    have lr := okm.len
    have r50 := okm.r1
    have f50 := okm.f1
    have t50 := okm.t1
    have PB := planF_bd okm row hz rt1 rt2
    have PN : ∀ i, i ≤ os.length → 0 ≤ planF r f j rate os i := plan_nn (by omega) (by omega) (fun i _ => Ow.ownF_nn j rate os i)
    refine ⟨_, rfl, _, rfl, _, rfl, m, iv, rate, rs, r, f, j, t, ds, os, rfl, rm, okm, ri, row, hz, rt1, rt2, fun l1 y1 H1 nl1 dl1 rl1 s1 => ?_⟩
    have ly1 := rl1.length
    rw [List.length_map, planL_len] at ly1
    refine ⟨smallN _ (Nat.le_of_ble_eq_true rfl), fun D H2 n2 => ?_⟩
    have nD : H D = none := by
      cases e : H D with
      | none => rfl
      | some o => have := s1 _ _ e; rw [n2.no] at this; cases this
    obtain ⟨ia, xs, rfl, hi, hxs⟩ := ri.tup_inv
    have lx := hxs.length
    refine ⟨_, rfl, ia, rfl, ⟨_, hi.go (s1.trans n2.same)⟩, for_enum (K := K) (b := false) (a := ia) (xs := xs) (fun i σ H3 => Same H1 H3 ∧ ∃ zs v1 v2 v3 v4 v5 v6 v7, H3 D = some (.lst zs) ∧ RDs K H3 zs (tapeD r f j t rate ds os i) ∧ σ = [some m, some (.ref ia), some (.int rate), some (.ref l1), some (.ref D), v1, v2, v3, v4, v5, v6, v7]) ⟨n2.same, [], none, none, none, none, none, none, none, n2.at', rds_nil, rfl⟩ (fun i σ H3 _ h => hi.go (s1.trans h.1)) ?_ ?_⟩
    · rintro i y σ H3 hy ⟨s3, zs, v1, v2, v3, v4, v5, v6, v7, dz, rz, rfl⟩ T H4 n4
      have hix : i < xs.length := (List.getElem?_eq_some_iff.mp hy).1
      obtain ⟨d, ed, rd⟩ := hxs.get' i hy
      obtain ⟨o, eo, it⟩ := row.get ed
      have s14 := s3.trans n4.same
      have s4 := s1.trans s14
      have dz4 := n4.same _ _ dz
      have rz4 := RDs.mono n4.same _ rz
      have rd4 := RD.mono s4 _ rd
      have tn := tape_no (r := r) (f := f) (j := j) (ti := t) (rate := rate) row i (by omega)
      have tl := tape_len (r := r) (f := f) (j := j) (ti := t) (rate := rate) row i (by omega)
      have lz := rz.length
      have h24 : sizeLine = 16777216 := by decide
      refine ⟨T, _, rfl, SqT.of n4.at', rfl, _, _, rfl, _, _, rfl, rfl, ?_⟩
      obtain ⟨a, wd, yw, rfl, h1, ew, sw⟩ := it_word rd4 it
      refine ⟨_, rfl, .inr ⟨a, _, 0, .str wd, rfl, rfl, h1, atI_of (Int.le_refl 0) rfl, .inr ⟨_, _, rd_str _, rd_str _, sw, lineW, _, rfl, ?_⟩⟩⟩
      rw [ew]
      cases o with
      | none =>
        refine iteF ?_
        refine ⟨_, rfl, .inl ⟨rfl, _, SqL.of dz4⟩, _, rfl, D, zs, _, rfl, rfl, dz4, (by omega), ?_⟩
        refine ⟨fun b o e => ?_, _, _, _, _, _, _, _, _, upd_same, ?_, rfl⟩
        · rw [upd_ne (ne_of_none e n2.no)]; exact s14 b o e
        · show RDs K _ _ (tapeD r f j t rate ds os i ++ entD r f j t rate ds os i)
          rw [ent_other eo ed]
          exact RDs.snocT dz4 rz4 rd4 tn it.no
      | some q =>
        obtain ⟨ns, sp⟩ := q
        refine iteT ?_
        have ed' := it_line it
        subst ed'
        obtain ⟨okn, sp1, sp2⟩ := row.ok i ns sp eo
        have l100 := lead_100 okn
        have dl4 := s14 _ _ dl1
        have rl4 := RDs.mono s14 _ rl1
        obtain ⟨z0, ez0⟩ : ∃ z, y1[i]? = some z := ⟨_, List.getElem?_eq_getElem (show i < y1.length by omega)⟩
        obtain ⟨z1, ez1⟩ : ∃ z, y1[i + 1]? = some z := ⟨_, List.getElem?_eq_getElem (show i + 1 < y1.length by omega)⟩
        have rat : ∀ (c : Nat) (u : V), c ≤ os.length → y1[c]? = some u → RatV K H4 u (planF r f j rate os c) := by
          intro c u hc e
          obtain ⟨d1, e1, r1⟩ := rl4.get' c e
          rw [List.getElem?_map] at e1
          have e2 : (planL r f j rate os)[c]? = some (planF r f j rate os c) := lst_get _ hc
          rw [e2] at e1
          cases e1
          exact ratOf r1
        have R0 := rat i z0 (by omega) ez0
        have R1 := rat (i + 1) z1 (by omega) ez1
        have P0 := PN i (by omega)
        have P1 := PN (i + 1) (by omega)
        refine ⟨_, rfl, _, rfl, _, rfl, _, rfl, _, _, rfl, rfl, _, rfl, l1, _, rfl, .inl ⟨SqL.of dl4, fun c H4a n4a => ?_⟩⟩
        have ca := n4a.at'
        rw [cut_two ez0 ez1] at ca
        refine ⟨c, _, rfl, SqL.of ca, rfl, _, _, rfl, _, _, rfl, rfl, ?_⟩
        have s4a := n4a.same
        refine ⟨_, rfl, _, rfl, _, rfl, _, rfl, _, rfl, m, _, z0, z1, rate, rs, r, f, j, t, ns, sp, _, _, rfl, RD.mono (s4.trans s4a) _ rm, okm, RD.mono s4a _ rd4, okn, sp1, sp2, R0.go s4a, R1.go s4a, (PB i (by omega)).mono (by decide), (PB (i + 1) (by omega)).mono (by decide), rt1, rt2, fun l2 y2 H5 nl2 dl2 rl2 s5' => ?_⟩
        have s5 := s4a.trans s5'
        refine ⟨_, rfl, _, ns, sp, rfl, RD.mono s5 _ rd4, ⟨rfl, okn.bd, okn.nz⟩, by rw [okn.len]; omega, fun l3 y3 H6 nl3 dl3 rl3 s6 => ?_⟩
        have dl2_6 := s6 _ _ dl2
        have rl2_6 := RDs.mono s6 _ rl2
        have ly2 := rl2.length
        rw [List.length_map, midL, List.length_map, List.length_range] at ly2
        have ly3 := rl3.length
        rw [rowsD, List.length_map, List.length_range] at ly3
        have s46 := s5.trans s6
        have s16 := s14.trans s46
        have dz6 := s46 _ _ dz4
        have rz6 := RDs.mono s46 _ rz4
        have l3D : l3 ≠ D := fun e => by rw [e] at nl3; have := (s5 _ _ dz4); rw [nl3] at this; cases this
        have l2D : l2 ≠ D := fun e => by rw [e] at nl2; have := (s4a _ _ dz4); rw [nl2] at this; cases this
        refine ⟨_, rfl, l3, l2, rfl, ⟨_, SqL.of dl3⟩, ⟨_, SqL.of dl2_6⟩, ?_⟩
        refine for_zip (K := K) (b1 := true) (b2 := true) (xs := y3) (ys := y2) (leadN ns) (by omega) (fun q σ H7 => Same H1 H7 ∧ H7 l3 = some (.lst y3) ∧ H7 l2 = some (.lst y2) ∧ RDs K H7 y3 (rowsD ns) ∧ RDs K H7 y2 ((midL r f (leadN ns) (topR rate sp) (planF r f j rate os i) (planF r f j rate os (i + 1))).map ratD) ∧ ∃ us w10 w11, H7 D = some (.lst us) ∧ RDs K H7 us (tapeD r f j t rate ds os i ++ (linD r f t ns (topR rate sp) (planF r f j rate os i) (planF r f j rate os (i + 1))).take q) ∧ σ = [some m, some (.ref ia), some (.int rate), some (.ref l1), some (.ref D), some (.int i), some (.ref a), some z0, some z1, some (.ref l2), w10, w11]) ⟨s16, dl3, dl2_6, rl3, rl2_6, zs, _, _, dz6, by rw [List.take_zero, List.append_nil]; exact rz6, rfl⟩ (fun q σ H7 _ h => ⟨SqL.of h.2.1, SqL.of h.2.2.1⟩) ?_ ?_
        · rintro q x y' σ H7 ex ey ⟨s7, d3, d2, r3, r2, us, w10, w11, dD, rD, rfl⟩ T2 H8 n8
          have hq3 : q < leadN ns := by have := (List.getElem?_eq_some_iff.mp ex).1; omega
          obtain ⟨d3', e3, x3⟩ := r3.get' q ex
          obtain ⟨d2', e2, x2⟩ := r2.get' q ey
          rw [rowsD_get hq3] at e3
          cases e3
          rw [midL, List.getElem?_map, List.getElem?_map, List.getElem?_range hq3] at e2
          cases e2
          have hb1 := rise_bd r50.1 r50.2 hq3 l100
          have hb2 := fall_bd f50.1 f50.2 hq3 l100
          have bm : Bd 2000 (midR r f (leadN ns) (topR rate sp) (planF r f j rate os i) (planF r f j rate os (i + 1)) q) :=
            mn_bd (mn_bd ((add_bd (PB i (by omega)) (by rw [pow24]; omega)).mono (by decide)) ((Ow.topR_bd sp1 sp2 rt1 rt2).mono (by decide))) ((add_bd (PB (i + 1) (by omega)) (by rw [pow24]; omega)).mono (by decide))
          have mp := mid_pos r50.1 f50.1 hq3 (top_pos sp1 rt1) P0 P1
          refine ⟨T2, _, rfl, SqT.of n8.at', rfl, _, _, rfl, _, _, rfl, rfl, ?_⟩
          have dD8 := n8.same _ _ dD
          refine ⟨_, rfl, .inl ⟨rfl, _, SqL.of dD8⟩, ?_⟩
          refine ⟨_, rfl, _, rfl, _, rfl, m, y', rs, r, f, j, t, _, rfl, RD.mono (s1.trans (s7.trans n8.same)) _ rm, ratOf (RD.mono n8.same _ x2), bm, t50.1, t50.2, num_pos' mp, fun TT T1 T2' T3 T4 H9 s9 => ?_⟩
          have dD9 := s9 _ _ dD8
          refine ⟨_, rfl, smallN _ (Nat.le_of_ble_eq_true rfl), fun tq H10 n10 => ?_⟩
          have dD10 := n10.same _ _ dD9
          have lu := rD.length
          rw [List.length_append, List.length_take, linD_len] at lu
          refine ⟨D, us, _, rfl, rfl, dD10, (by omega), ?_⟩
          have s710 := n8.same.trans (s9.trans n10.same)
          have tt : SameT H10 (L2.upd H10 D (.lst (us ++ [.ref tq]))) := .updL dD10
          have etk := tkF_eq (Int.le_of_lt (num_pos' mp)) ⟨T1, T3, T4⟩
          have rstep : RD K H10 (.ref tq) (stepD t (rowZ ns q) (midR r f (leadN ns) (topR rate sp) (planF r f j rate os i) (planF r f j rate os (i + 1)) q)) := by
            unfold stepD
            rw [etk]
            exact rd_tup (SqT.of n10.at') (rds_cons (rd_str _) (rds_cons (RD.mono s710 _ x3) (rds_cons (rd_int _) (rds_cons (RD.mono s710 _ x2) rds_nil))))
          refine ⟨fun b o e => ?_, ?_, ?_, ?_, ?_, _, _, _, upd_same, ?_, rfl⟩
          · rw [upd_ne (ne_of_none e n2.no)]; exact s710 b o (s7 b o e)
          · rw [upd_ne l3D]; exact s710 _ _ d3
          · rw [upd_ne l2D]; exact s710 _ _ d2
          · exact RDs.t tt _ (rowsD_no ns) (RDs.mono s710 _ r3)
          · exact RDs.t tt _ (noLs_rat _) (RDs.mono s710 _ r2)
          · rw [List.take_succ, linD_get hq3, ← List.append_assoc]
            have nn : noLs (tapeD r f j t rate ds os i ++ (linD r f t ns (topR rate sp) (planF r f j rate os i) (planF r f j rate os (i + 1))).take q) = true := noLs_mem.mpr fun d hd => by
              rcases List.mem_append.mp hd with h | h
              · exact noLs_mem.mp tn d h
              · exact noLs_mem.mp (linD_no _ _ _ _ _ _ _) d (List.mem_of_mem_take h)
            exact (RDs.t tt _ nn (RDs.mono s710 _ rD)).append (rds_cons (RD.t tt _ (stepD_no _ _ _) rstep) rds_nil)
        · rintro σ H7 ⟨s7, d3, d2, r3, r2, us, w10, w11, dD, rD, rfl⟩
          rw [List.take_of_length_le (by rw [linD_len]; exact Nat.le_refl _), ← ent_line (ds := ds) eo] at rD
          exact ⟨s7, us, _, _, _, _, _, _, _, dD, rD, rfl⟩
    · rintro σ H3 ⟨s3, zs, v1, v2, v3, v4, v5, v6, v7, dz, rz, rfl⟩
      have e : xs.length = os.length := by omega
      rw [e] at rz
      exact ⟨_, rfl, k D zs H3 nD dz rz (s1.trans s3)⟩
/-! ### alike -/
abbrev A0 : PyData → Prop := fun _ => False
theorem nx_int {A : PyData → Prop} (z : Int) : Nx A (.int z) := .inl (.inl ⟨z, rfl⟩)
theorem nx_str {A : PyData → Prop} {s : Str} {n : Nat} (hn : n ≤ 8) (h : OkD n (.str s)) : Nx A (.str s) := .inl (.inr ⟨s, rfl, h.shaped (by omega), h.refl⟩)
theorem step_nx (ti : Int) (zs : List Int) (q : Rat) (hz : zs.length ≤ 1000) : Nx (Nx (Nx A0)) (stepD ti zs q) := by
  refine .inr ⟨_, .inl rfl, (by simp), fun x hx => ?_⟩
  simp only [List.mem_cons, List.not_mem_nil, or_false] at hx
  rcases hx with rfl | rfl | rfl | rfl
  · exact nx_str (n := 0) (by decide) (okd_s (shW (.inl rfl)))
  · refine .inr ⟨_, .inl rfl, by rw [List.length_map]; omega, fun y hy => ?_⟩
    obtain ⟨z, _, rfl⟩ := List.mem_map.mp hy
    exact nx_int z
  · exact nx_int _
  · refine .inr ⟨_, .inl rfl, (by simp), fun y hy => ?_⟩
    simp only [List.mem_cons, List.not_mem_nil, or_false] at hy
    rcases hy with rfl | rfl <;> exact nx_int _
theorem oth_nx {d : PyData} (h : OthOk d) : Nx (Nx (Nx A0)) d := by
  rcases h with ⟨n, rfl, _⟩ | ⟨w, s, rfl, hw, h, _⟩
  · refine .inr ⟨_, .inl rfl, (by simp), fun x hx => ?_⟩
    simp only [List.mem_cons, List.not_mem_nil, or_false] at hx
    rcases hx with rfl | rfl
    · exact nx_str (n := 0) (by decide) (okd_s (shW (.inr (.inl rfl))))
    · exact nx_int _
  · refine .inr ⟨_, .inl rfl, (by simp), fun x hx => ?_⟩
    simp only [List.mem_cons, List.not_mem_nil, or_false] at hx
    rcases hx with rfl | rfl
    · exact nx_str (n := 0) (by decide) (okd_s (shW (.inr (.inr hw))))
    · exact nx_str (by decide) h
theorem tape_nx {n : Nat} {r f j ti rate : Int} {ds : List PyData} {os : List Itm} (hn : n ≤ 1000) (row : RowOk n ds os) (rw' : RowW ds os) : ∀ i, i ≤ os.length → ∀ d ∈ tapeD r f j ti rate ds os i, Nx (Nx (Nx A0)) d
  | 0, _, _, h => nomatch h
  | i + 1, h, x, hx => by
    have ll := row.len
    obtain ⟨o, eo⟩ : ∃ o, os[i]? = some o := ⟨_, List.getElem?_eq_getElem (show i < os.length by omega)⟩
    obtain ⟨d, ed⟩ : ∃ d, ds[i]? = some d := ⟨_, List.getElem?_eq_getElem (show i < ds.length by omega)⟩
    rcases List.mem_append.mp hx with h1 | h1
    · exact tape_nx hn row rw' i (by omega) x h1
    · cases o with
      | none =>
        rw [ent_other eo ed, List.mem_singleton] at h1
        subst h1
        exact oth_nx (rw' i _ eo ed)
      | some q =>
        obtain ⟨ns, sp⟩ := q
        obtain ⟨okn, _, _⟩ := row.ok i ns sp eo
        rw [ent_line eo] at h1
        obtain ⟨k, _, rfl⟩ := List.mem_map.mp h1
        exact step_nx _ _ _ (by rw [rowZ, List.length_map, okn.len]; exact hn)
end
end Lw



set_option Elab.async false
set_option linter.all false
set_option maxRecDepth 100000
set_option maxHeartbeats 1000000
set_option exponentiation.threshold 6000
namespace Lw
open PySem PySem.Spec PyProof.Rows L2 Rt Ln Wk Pn
open Ow (topR)
section
variable {P : Program} {w : World} {K : PySem.W.Frag} {mg : Str → Option Value} {base : Heap}
def spLaw (K : PySem.W.Frag) : Sp := fun vs H Q _ => ∃ (a : Addr) (ns : List Int), vs = [.ref a] ∧ SqL K H a (ns.map V.int) ∧ ns.length ≤ 63 ∧ ∀ H', Q (.bl true) H'
abbrev sLaw : Stmt := top 67
theorem scLaw : FnScope ["_law_script", "_law_k", "_law_bag_here", "_law_machine_here", "_law_many", "_law_most", "_law_rate", "_law_items_here", "_law_due", "_law_found"] ["_law_script"] (defScope sLaw) := ⟨rfl, rfl, rfl, by decide +kernel, rfl, by decide +kernel, by decide +kernel⟩
theorem ok_law {f : Addr} {fd : FuncData} (F : Fun K "law" "law" sLaw f fd) (B : Blt mg) (hL_bag : FnHas P w K mg base "_law_bag" 1 (spBag K)) (hL_take : FnHas P w K mg base "_law_take" 1 spTake) (hL_machine : FnHas P w K mg base "_law_machine" 2 (spMach K)) (hL_sizes : FnHas P w K mg base "_law_sizes" 2 (spSz K)) (hL_place : FnHas P w K mg base "_law_place" 2 (spPl K)) (hL_items : FnHas P w K mg base "_law_items" 3 (spIts K)) (htape_of : FnHas P w K mg base "tape_of" 10 (spTape K)) (hL_tape : FnHas P w K mg base "_law_tape" 5 (spTapeL K)) (hL_alike : FnHas P w K mg base "_law_alike" 5 (spAl (Nx (Nx (Nx (Nx A0)))) K)) : FnOk P w K mg base CX0 11 f fd ["_law_script"] (spLaw K) := by
  refine F.ok scLaw (fun vs H Q E h => ?_) (fun cdv A outer s H vs Q E hr h => ?_)
  · obtain ⟨a, ns, rfl, _⟩ := h
    rfl
  · obtain ⟨a, ns, rfl, hS, hlen, k⟩ := h
    have nd := scLaw.nd
    refine ⟨_, (pss_cons (ps_for PassesOwn.never rfl (pi_range1 rfl (B.at "range") (pa_cons (pe_op op_add (pe_callB (x := "min") (call_min2 rfl) rfl (B.at "min") PyProof.Rows.boot_min (pa_cons pe_int (pa_cons (pe_callB (x := "len") (lenK K rfl) rfl (B.at "len") PySem.boot_len (pa_cons (pv 0) pa_nil)) pa_nil))) pe_int) pa_nil)) (pg_name (i := 1) nd rfl (Or.inl rfl))
    (pss_cons (ps_set (i := 2) nd rfl (Or.inl rfl) (pe_fn hL_bag (hr.mono (by decide)) rfl (pa_cons (pv 0) (pa_cons (pv 1) pa_nil))))
    (pss_cons (ps_set (i := 3) nd rfl (Or.inl rfl) (pe_fn hL_machine (hr.mono (by decide)) rfl (pa_cons (pv 2) pa_nil)))
    (pss_cons (ps_asg (pe_fn hL_sizes (hr.mono (by decide)) rfl (pa_cons (pv 2) (pa_cons (pe_cmpR (eqK K rfl hr.units) (pv 1) pe_int (nomark _)) pa_nil))) (pgT K rfl (n := 2) rfl (pgs_cons (pg_name (i := 4) nd rfl (Or.inl rfl)) (pgs_cons (pg_name (i := 5) nd rfl (Or.inl rfl)) pgs_nil))))
    (pss_cons (ps_set (i := 6) nd rfl (Or.inl rfl) (pe_ix (ixK K rfl) (pe_lstA (pa_cons pe_int (pa_cons pe_int (pa_cons pe_int (pa_cons (pe_op op_add pe_int (pe_fn hL_take (hr.mono (by decide)) rfl (pa_cons (pv 2) (pa_cons pe_int pa_nil)))) pa_nil))))) (pe_fn hL_take (hr.mono (by decide)) rfl (pa_cons (pv 2) (pa_cons pe_int pa_nil))) (fun _ _ => rfl)))
    (pss_cons (ps_set (i := 7) nd rfl (Or.inl rfl) (pe_fn hL_items (hr.mono (by decide)) rfl (pa_cons (pv 2) (pa_cons (pv 3) (pa_cons (pe_fn hL_place (hr.mono (by decide)) rfl (pa_cons (pv 2) (pa_cons (pv 3) pa_nil))) (pa_cons (pv 4) (pa_cons (pv 5) pa_nil)))))))
    (pss_cons (ps_set (i := 8) nd rfl (Or.inl rfl) (pe_fn hL_tape (hr.mono (by decide)) rfl (pa_cons (pv 3) (pa_cons (pv 7) (pa_cons (pv 6) pa_nil)))))
    (pss_cons (ps_set (i := 9) nd rfl (Or.inl rfl) (pe_fn htape_of (hr.mono (by decide)) rfl (pa_cons (pv 3) (pa_cons (pv 7) (pa_cons (pv 6) pa_nil)))))
    (pss_cons (ps_if (pt_not (pt_val (pe_fn hL_alike (hr.mono (by decide)) rfl (pa_cons (pv 9) (pa_cons (pv 8) pa_nil)))))
    (pss_one (ps_ret pe_bl))
    pss_nil)
    (pss_cons (ps_expr (peClear K rfl (pv 9)))
    (pss_one (ps_if (PW.pt (pw_and (pt_cmpR op_gt (pv 1) pe_int (nomark _)) (pw_and1 (pt_not (pt_val (pe_fn hL_alike (hr.mono (by decide)) rfl (pa_cons (pe_fn htape_of (hr.mono (by decide)) rfl (pa_cons (pv 3) (pa_cons (pv 7) (pa_cons (pv 6) pa_nil)))) (pa_cons (pv 8) pa_nil))))))))
    (pss_one (ps_ret pe_bl))
    pss_nil))))))))))))
    (pss_one (ps_ret (pe_cmpR (eqK K rfl hr.units) (pe_fn htape_of (hr.mono (by decide)) rfl (pa_cons (pv 3) (pa_cons (pe_tupA pa_nil) (pa_cons pe_int pa_nil)))) (pe_lstA pa_nil) (nomark _))))), ?_⟩
    refine ⟨_, rfl, a, _, rfl, .inl hS, _, _, rfl, _, _, rfl, rfl, _, rfl, ?_, ?_, ?_⟩
    · split <;> omega
    · split <;> (try rw [List.length_map]) <;> omega
    have hN : ((if ((ns.map V.int).length : Int) < 2 then ((ns.map V.int).length : Int) else 2) + 1).toNat ≤ 32 := by
      split <;> omega
    refine for_range (Pv := fun i σ H2 => Same H H2 ∧ ∃ mo v1 v2 v3 v4 v5 v6 v7 v8 v9, σ = [some (.ref a), v1, v2, v3, v4, v5, v6, v7, v8, v9] ∧ (0 < i → ∃ mv rs r f j ti, v3 = some mv ∧ RD K H2 mv (machD rs r f j ti) ∧ OkM rs r f j ti ∧ mo = mv)) ?_ ?_ ?_
    · exact ⟨Same.refl _, .non, none, none, none, none, none, none, none, none, none, rfl, fun h => absurd h (by decide)⟩
    · rintro i σ H2 hi ⟨s2, mo, v1, v2, v3, v4, v5, v6, v7, v8, v9, rfl, _⟩
      have hi8 : i < 32 := Nat.lt_of_lt_of_le hi hN
      refine ⟨_, rfl, _, rfl, a, ns, _, rfl, s2.seq hS, hlen, by omega, by omega, fun p H3 np bg3 s3 => ?_⟩
      refine ⟨_, rfl, p, rfl, bg3, fun mv rs r f j ti H4 rm okm b4 => ?_⟩
      have nm := machD_no rs r f j ti
      refine ⟨_, rfl, _, rfl, .inl ⟨_, _, rfl, rfl, ?_⟩⟩
      refine ⟨p, _, rfl, b4.bag, fun t many most H5 hT m1 m2 m3 m4 b5 => ?_⟩
      refine ⟨t, _, rfl, hT, rfl, _, _, rfl, _, _, rfl, rfl, ?_⟩
      refine ⟨_, rfl, p, 191, rfl, b5.bag, by decide, by decide, fun g H8 g0 g1 b8 => ?_⟩
      refine ⟨_, _, rfl, rfl, smallN _ (Nat.le_of_ble_eq_true rfl), fun lr' H9 n9 => ?_⟩
      have b9 : BagX p H8 H9 := .ofSame b8.bag n9.same
      have lrp : lr' ≠ p := fun e => b8.bag.ne (e ▸ n9.no)
      refine ⟨_, rfl, p, 4, rfl, b9.bag, by decide, by decide, fun ix H10 x0 x1 b10 => ?_⟩
      have hra : ∃ rate : Int, atI ([.int 10, .int 200, .int 100, .int (10 + g)] : List V) ix = some (.int rate) ∧ 10 ≤ rate ∧ rate ≤ 200 := by
        rcases (show ix = 0 ∨ ix = 1 ∨ ix = 2 ∨ ix = 3 by omega) with rfl | rfl | rfl | rfl
        · exact ⟨10, rfl, by decide, by decide⟩
        · exact ⟨200, rfl, by decide, by decide⟩
        · exact ⟨100, rfl, by decide, by decide⟩
        · exact ⟨10 + g, rfl, by omega, by omega⟩
      obtain ⟨rate, era, rt1, rt2⟩ := hra
      refine .inl ⟨lr', _, _, _, rfl, rfl, SqL.of (b10.same _ _ lrp n9.at'), era, ?_⟩
      have b410 := b5.trans (b8.trans (b9.trans b10))
      have rm10 := RD.t (BagX.t b4.bag b410) _ nm rm
      refine ⟨_, rfl, _, rfl, _, rfl, _, rfl, p, mv, rs, r, f, j, ti, rfl, b10.bag, rm10, okm, fun plv pl H11 rpl on b11 => ?_⟩
      have rm11 := RD.t (BagX.t b10.bag b11) _ nm rm10
      refine ⟨_, rfl, _, rfl, p, mv, rs, r, f, j, ti, plv, pl, many, most, rfl, b11.bag, rm11, okm, rpl, on, m1, m2, m3, m4, fun iv ds os H12 ri row rw' hl b12 => ?_⟩
      have rm12 := RD.t (BagX.t b11.bag b12) _ nm rm11
      have s212 : Same H2 H12 := (b4.trans (b410.trans (b11.trans b12))).sameOf s3 np
      have ll := row.len
      have lr3 := okm.len
      have tl := tape_len (r := r) (f := f) (j := j) (ti := ti) (rate := rate) row os.length (Nat.le_refl _)
      have tnx := tape_nx (r := r) (f := f) (j := j) (ti := ti) (rate := rate) (by omega) row rw' os.length (Nat.le_refl _)
      have tno := tape_no (r := r) (f := f) (j := j) (ti := ti) (rate := rate) row os.length (Nat.le_refl _)
      have nx : Nx (Nx (Nx (Nx A0))) (.list (tapeD r f j ti rate ds os os.length)) := .inr ⟨_, .inr rfl, by omega, tnx⟩
      have okT : ds.length ≤ 30 := by omega
      refine ⟨_, rfl, _, rfl, _, rfl, mv, iv, rate, rs, r, f, j, ti, ds, os, rfl, rm12, okm, ri, row, okT, rt1, rt2, fun l1 y1 H13 nl1 dl1 rl1 s13 => ?_⟩
      have rm13 := RD.mono s13 _ rm12
      have ri13 := RD.mono s13 _ ri
      refine ⟨_, rfl, _, rfl, _, rfl, mv, iv, rate, rs, r, f, j, ti, ds, os, rfl, rm13, okm, ri13, row, okT, rt1, rt2, fun l2 y2 H14 nl2 dl2 rl2 s14 => ?_⟩
      have dl1' := s14 _ _ dl1
      have rl1' := RDs.mono s14 _ rl1
      refine ⟨_, rfl, _, rfl, _, _, _, rfl, rd_lst (SqL.of dl2) rl2, rd_lst (SqL.of dl1') rl1', nx, fun H15 s15 => ⟨_, rfl, iteF ?_⟩⟩
      have dl2' := s15 _ _ dl2
      refine ⟨_, rfl, .inl ⟨rfl, _, SqL.of dl2'⟩, l2, _, rfl, rfl, dl2', ?_⟩
      have tt : SameT H15 (L2.upd H15 l2 (.lst [])) := .updL dl2'
      have l12 : l1 ≠ l2 := fun e => by rw [e] at dl1; rw [nl2] at dl1; cases dl1
      have s1316 : Same H13 (L2.upd H15 l2 (.lst [])) := fun b o e => by
        rw [upd_ne (ne_of_none e nl2)]; exact s15 b o (s14 b o e)
      have rm16 := RD.mono s1316 _ rm13
      have ri16 := RD.mono s1316 _ ri13
      have s216 : Same H (L2.upd H15 l2 (.lst [])) := s2.trans (s212.trans (s13.trans s1316))
      refine ⟨_, rfl, _, _, rfl, rfl, _, rfl, ?_⟩
      refine ite2 (fun hc => ?_) (fun hc => ?_)
      · refine ⟨_, rfl, _, rfl, _, rfl, mv, iv, rate, rs, r, f, j, ti, ds, os, rfl, rm16, okm, ri16, row, okT, rt1, rt2, fun l3 y3 H17 nl3 dl3 rl3 s17 => ?_⟩
        have dl17 := s17 _ _ (s1316 _ _ dl1)
        have rl17 := RDs.mono (s1316.trans s17) _ rl1
        refine ⟨_, rfl, _, _, _, rfl, rd_lst (SqL.of dl3) rl3, rd_lst (SqL.of dl17) rl17, nx, fun H18 s18 => ⟨_, rfl, iteF ?_⟩⟩
        exact ⟨s216.trans (s17.trans s18), mv, _, _, _, _, _, _, _, _, _, rfl, fun _ => ⟨mv, rs, r, f, j, ti, rfl, RD.mono (s17.trans s18) _ rm16, okm, rfl⟩⟩
      · exact ⟨s216, mv, _, _, _, _, _, _, _, _, _, rfl, fun _ => ⟨mv, rs, r, f, j, ti, rfl, rm16, okm, rfl⟩⟩
    · rintro σ H2 ⟨s2, mo, v1, v2, v3, v4, v5, v6, v7, v8, v9, rfl, hm⟩
      obtain ⟨mv, rs, r, f, j, ti, rfl, rm, okm, _⟩ := hm (by split <;> omega)
      refine ⟨_, rfl, smallN _ (Nat.le_of_ble_eq_true rfl), fun tq H3 n3 => ?_⟩
      refine ⟨mv, .ref tq, 100, rs, r, f, j, ti, [], [], rfl, RD.mono n3.same _ rm, okm, rd_tup (SqT.of n3.at') rds_nil, RowOk.nil, by decide, by decide, by decide, fun l ys H4 nl dl rl s4 => ?_⟩
      have ey := rl.nil_inv
      subst ey
      refine ⟨smallN _ (Nat.le_of_ble_eq_true rfl), fun l2 H5 n5 => ?_⟩
      refine .inr ⟨.list [], .list [], rd_lst (SqL.of (n5.same _ _ dl)) rds_nil, rd_lst (SqL.of n5.at') rds_nil, rfl, rfl, ?_⟩
      exact k H5
end
end Lw



set_option Elab.async false
set_option linter.all false
namespace Lw
open PySem PySem.Spec PyProof.Rows L2
structure All (K : PySem.W.Frag) (mg : Str → Option Value) : Prop where
  B : Blt mg
  n0 : GT K mg "NOUGHT" [.int 0, .int 1]
  g1 : GV mg "LEAST_RATE" (.int 10)
  g2 : GV mg "GREATEST_RATE" (.int 200)
  iw : FA K mg "is_whole" sIW
  ww : FA K mg "is_whole_within" sWW
  fn : FA K mg "fraction" sFn
  mi : FA K mg "minus" sMinus
  le : FA K mg "is_less" sLess
  lst : FA K mg "least" sLeast
  lt : FA K mg "lowest_terms" sLT
  cd : FA K mg "common_divisor" sCD
  ld : FA K mg "lead_of" sLeadP
  wy : FA K mg "ways_of" sWays
  cp : FA K mg "corner_square" sCornP
  tp : FA K mg "top_square" sTop
  ir : FA K mg "is_rate" sIsRate
  tu : FA K mg "greatest_turn" sTurn
  isl : FA K mg "is_line" sIsLn
  own : FA K mg "own_bounds" sOwn
  pl : FA K mg "plan_of" sPlan
  ri : FA K mg "kept_by_rise" sRise
  fa : FA K mg "kept_by_fall" sFall
  pw : FA K mg "plus_whole" sPW
  bet : FA K mg "bound_between" sBet
  bag : FA K mg "_law_bag" sBag
  take : FA K mg "_law_take" sTake
  st : FA K mg "stand_at" sStand
  sr : FA K mg "step_rows" sRows
  nr : FA K mg "nearest" sNearP
  mid : FA K mg "middles" sMid
  tk : FA K mg "ticks_of" sTicks
  en : FA K mg "are_enough" sEn
  ent : FA K mg "step_entry" sEnt
  tap : FA K mg "tape_of" sTape
  pla : FA K mg "_law_place" sPl
  line : FA K mg "_law_line" sLnM
  oth : FA K mg "_law_other" sOth
  its : FA K mg "_law_items" sIts
  siz : FA K mg "_law_sizes" sSz
  lead : FA K mg "_law_lead" sLead
  num : FA K mg "_law_number" sLNum
  frc : FA K mg "_law_frac" sFracL
  sum : FA K mg "_law_sum" sSumL
  les : FA K mg "_law_less" sLessL
  min : FA K mg "_law_min" sMinL
  stl : FA K mg "_law_stand" sStandL
  rol : FA K mg "_law_rows" sRowsL
  tpl : FA K mg "_law_top" sTopL
  bnd : FA K mg "_law_bounds" sBnd
  pln : FA K mg "_law_plan" sPlanL
  tkl : FA K mg "_law_ticks" sTicksL
  mdl : FA K mg "_law_middles" sMidL
  tal : FA K mg "_law_tape" sTapeL
  alk : FA K mg "_law_alike" sAlike
  law : FA K mg "law" sLaw
  mach : FA K mg "_law_machine" sMach
theorem all_law {P : Program} {w : World} {K : PySem.W.Frag} {mg : Str → Option Value} {base : Heap} {f : Addr} {fd : FuncData} (A : All K mg) (F : Fun K "law" "law" sLaw f fd) : FnOk P w K mg base CX0 11 f fd ["_law_script"] (spLaw K) := by
  have tk : FnHas P w K mg base "_law_take" 1 spTake := ok_take A.take A.B
  have cd : FnHas P w K mg base "common_divisor" 1 spDiv := ok_cd A.cd A.B
  have lt : FnHas P w K mg base "lowest_terms" 2 spLow := ok_lt A.lt A.B cd
  have iw : FnHas P w K mg base "is_whole" 1 (spIsW K) := ok_iw A.iw A.B
  have fn : FnHas P w K mg base "fraction" 3 (spMk K) := ok_fn A.fn A.B iw lt
  have ld : FnHas P w K mg base "lead_of" 1 (spLead K) := ok_leadP A.ld A.B
  have ls : FnHas P w K mg base "is_less" 1 (spLess K) := ok_less A.le A.B
  have cp : FnHas P w K mg base "corner_square" 6 (spCorn K) := ok_cornP A.cp A.B (ok_turn A.tu A.B (ok_ways A.wy A.B ld fn) (ok_minus A.mi A.B lt) ls) fn
  have tp : FnHas P w K mg base "top_square" 4 (spTop K) := ok_top A.tp A.B (ok_israte A.ir A.B A.g1 A.g2 (ok_ww A.ww A.B iw)) fn
  have own : FnHas P w K mg base "own_bounds" 8 (spOwn K) := ok_own A.own A.B A.n0 (ok_bet A.bet A.B A.n0 (ok_isln A.isl A.B) tp cp (ok_least A.lst A.B ls))
  have pw : FnHas P w K mg base "plus_whole" 4 (spPW K) := ok_pw A.pw A.B
  have lst : FnHas P w K mg base "least" 2 (spLeast K) := ok_least A.lst A.B ls
  have isl : FnHas P w K mg base "is_line" 1 (spIsLn K) := ok_isln A.isl A.B
  have pl : FnHas P w K mg base "plan_of" 9 (spPlan K) := ok_plan A.pl A.B own (ok_rise A.ri A.B isl ld pw lst) (ok_fall A.fa A.B isl ld pw lst)
  have mid : FnHas P w K mg base "middles" 5 (spMid K) := ok_mid A.mid A.B tp ld pw lst
  have nr : FnHas P w K mg base "nearest" 1 spNear := ok_nearP A.nr A.B
  have sr : FnHas P w K mg base "step_rows" 3 (spRows K) := ok_rows A.sr A.B ld (ok_stand A.st A.B ld nr)
  have ent : FnHas P w K mg base "step_entry" 3 (spEnt K) := ok_ent A.ent A.B (ok_ticks A.tk A.B (ok_en A.en A.B))
  have tap : FnHas P w K mg base "tape_of" 10 (spTape K) := ok_tape A.tap A.B pl isl mid sr ent
  have ln : FnHas P w K mg base "_law_line" 2 (spLnM K) := ok_lnM A.line A.B tk
  have fr : FnHas P w K mg base "_law_frac" 1 (spFracL K) := ok_fracL A.frc A.B
  have sm : FnHas P w K mg base "_law_sum" 2 (spR2 (· + ·) K) := ok_sumL A.sum A.B fr
  have mn : FnHas P w K mg base "_law_min" 2 (spLeast K) := ok_minL A.min A.B (ok_lessL A.les A.B)
  have tpl : FnHas P w K mg base "_law_top" 2 (spTopL K) := ok_topL A.tpl A.B fr
  have led : FnHas P w K mg base "_law_lead" 1 (spLead K) := ok_lead A.lead A.B
  have pll : FnHas P w K mg base "_law_plan" 4 (spPlan K) := ok_planL A.pln A.B (ok_bnd A.bnd A.B led mn tpl fr) sm led mn
  have tal : FnHas P w K mg base "_law_tape" 5 (spTapeL K) := ok_tapeL A.tal A.B pll (ok_midL A.mdl A.B tpl led sm mn) (ok_rowsL A.rol A.B led (ok_standL A.stl A.B led)) (ok_ticksL A.tkl A.B)
  have nm : FnHas P w K mg base "_law_number" 1 (spIsW K) := ok_lnum A.num A.B
  have al : FnHas P w K mg base "_law_alike" 5 (spAl (Nx (Nx (Nx (Nx A0)))) K) := ok_alN (by decide) A.alk A.B nm (ok_alN (by decide) A.alk A.B nm (ok_alN (by decide) A.alk A.B nm (ok_alN (by decide) A.alk A.B nm (ok_al0 A.alk A.B))))
  exact ok_law F A.B (ok_bag A.bag A.B) tk (ok_mach A.mach A.B tk) (ok_sz A.siz A.B tk) (ok_pl A.pla A.B tk) (ok_its A.its A.B tk (ok_ot2 A.oth A.B tk) ln) tap tal al
end Lw
def PySem.W.Fast.tw11751160102925152949 : PySem.Program := PySem.Challenge.pw_glidequeue_k34_tapes
theorem PySem.W.Fast.te11751160102925152949 : PySem.Challenge.pw_glidequeue_k34_tapes = PySem.W.Fast.tw11751160102925152949 := rfl
local macro_rules|`(command|universe $x:ident)=>return Lean.mkNullNode (<-((x.getId.toString.splitOn "_").drop 1).toArray.mapM fun i=>`(command|theorem $(Lean.mkIdent (`_root_.PySem.W.Fast++Lean.Name.mkSimple s!"tw{(`PySem.Challenge.cw_glidequeue_k34_tapes_holds++Lean.Name.mkSimple ((match i.front with|'h'=>"heap"|'t'=>"tree"|'v'=>"view"|'s'=>"sts"|'e'=>"env"|_=>"o")++"_"++(i.drop 1).toString)).hash}")):ident:True:=True.intro))
universe t_h446_h39_t445_v39_t284_s368_s285_t207_t367_s208_o368_s130_o285_t129_o208_o405_o291_o403_o410_o445_o263_o443_o367_s79_o433_o357_o130_o431_o289_o355_o365_o391_o179_o261_o412_o426_o436_o424_o438_o393_o362_o360_o256_o177_o254_o343_o249_o247_o216_t78_o345_o214_o235_o233_o193_o79_o388_o228_o298_o386_o226_o296_o129_o242_o172_o174_o419_o270_o417_o169_o268_o379_o191_o157_t63_o115_o64_o200_o167_o240_o127_o350_o113_o305_o319_o348_o198_o277_o303_o138_o49_o259_o159_o136_o317_o340_o381_o275_o429_o164_o284_o162_o282_o353_o152_o122_o186_o107_o145_o212_o376_o100_o150_o91_o312_o441_o422_o338_o120_o105_o143_o374_o98_o310_o326_o184_o207_o400_o324_o205
open PySem PySem.W PyProof.Rows
set_option maxRecDepth 100000 in
set_option maxHeartbeats 0 in
theorem PySem.Challenge.cw_glidequeue_k34_tapes_holds : PySem.Challenge.rw_glidequeue_k34_tapes.Holds := by
  w_on; o_law; k_head; (case hw => w_witness2)
  k_fill
  refine L2.law_walk (l := PySem.Challenge.rw_glidequeue_k34_tapes) (k := 11) (x := "_law_script") (st := Lw.sLaw) rfl rfl ⟨rfl, by decide, by decide⟩ (fun w h Y => PySem.W.kIn_of Y) Lw.All ?F (fun _ _ A => A.law) (fun _ _ _ _ _ _ _ => rfl) (fun _ _ _ _ _ _ _ A F => Lw.all_law A F)
  case F =>
    intro w mg h KX G
    refine ⟨L2.blt_mk KX G ?b, ?t1, ?g1, ?g2, ?f1, ?f2, ?f3, ?f4, ?f5, ?f6, ?f7, ?f8, ?f9, ?f10, ?f11, ?f12, ?f13, ?f14, ?f15, ?f16, ?f17, ?f18, ?f19, ?f21, ?f22, ?f23, ?f24, ?f25, ?f26, ?f27, ?f28, ?f29, ?f30, ?f31, ?f32, ?f33, ?f34, ?f35, ?f36, ?f37, ?f38, ?f39, ?f40, ?f41, ?f42, ?f43, ?f44, ?f45, ?f46, ?f47, ?f48, ?f49, ?f50, ?f51, ?f52, ?f53, ?f54⟩
    case t1 => refine' L2.gt_mk KX G ?a ?l ?z ?r; (case a => k_is); (case l => k_is); (case z => decide); (case r => exact .cons ⟨_, rfl⟩ (.cons ⟨_, rfl⟩ .nil))
    case g1 => (refine' L2.gv_int KX G ?z; (case z => k_is))
    case g2 => (refine' L2.gv_int KX G ?z; (case z => k_is))
    case b => (unfold L2.bltNames; repeat (refine L2.NoG.cons ?z ?_; (case z => k_is))); exact L2.NoG.nil
    all_goals (refine' L2.fa_mk KX G ?a ?l ?c ?k; (case a => k_is); (case l => k_is); (case c => k_is); (case k => k_is))
#print axioms PySem.Challenge.cw_glidequeue_k34_tapes_holds



