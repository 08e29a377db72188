import PyProof.Rows.All
import Wide.All
import OpenK.AllK
import Wide.FinOn
import PyProof.EqAt
import PyProof.EqKinds
import PyProof.TupleCall
import PyProof.StrReplace2
import Lean
import PySem.Challenge.RW_seektree_k18_each_refusal_alone
-- CHANGE: your row's module here, as the last of these rows
set_option Elab.async false
set_option linter.all false
set_option maxRecDepth 100000
/-! THE HAND LAYER, for ints, bools, texts, own classes, LISTS and tuples (index, slices, in, append, pop ..), calls, loops. Paste it whole ahead of your own text; what your proof does not reach may be deleted. -/
namespace L2
open PySem PySem.Spec PyProof.Rows

/-- a key: an int or a str -/
abbrev Key := Sum Int Str
def keyIs : Key → Value → Bool
  | .inl k, v => Value.isInt k v
  | .inr x, v => Value.isStrOf x v
def keyH (w : World) : Key → Int
  | .inl k => hashInt k
  | .inr x => hashStr w x
theorem keyIs_shape : ∀ {k : Key} {v : Value}, keyIs k v = true → (∃ i t, k = Sum.inl i ∧ v = Value.int i t) ∨ (∃ x t, k = Sum.inr x ∧ v = Value.str x t)
  | .inl i, v, h => by
    obtain ⟨t, e⟩ := Value.isInt_shape (k := i) (v := v) h
    exact .inl ⟨i, t, rfl, e⟩
  | .inr x, v, h => by
    obtain ⟨t, e⟩ := Value.isStrOf_shape (x := x) (v := v) h
    exact .inr ⟨x, t, rfl, e⟩
theorem key_ll (a b : Int) : decide ((Sum.inl a : Key) = Sum.inl b) = (a == b) := by
  by_cases e : a = b
  · subst e; simp
  · have h : ¬ (Sum.inl a : Key) = Sum.inl b := fun q => e (Sum.inl.inj q)
    rw [decide_eq_false h]
    exact (beq_eq_false_iff_ne.mpr e).symm
theorem key_rr (a b : Str) : decide ((Sum.inr a : Key) = Sum.inr b) = decide (a = b) := by
  by_cases e : a = b
  · subst e; simp
  · have h : ¬ (Sum.inr a : Key) = Sum.inr b := fun q => e (Sum.inr.inj q)
    rw [decide_eq_false h, decide_eq_false e]
theorem key_lr (a : Int) (b : Str) : decide ((Sum.inl a : Key) = Sum.inr b) = false := decide_eq_false (fun q => nomatch q)
theorem key_rl (a : Str) (b : Int) : decide ((Sum.inr a : Key) = Sum.inl b) = false := decide_eq_false (fun q => nomatch q)

def mixKind (prog : Program) (w : World) : PySem.KeyKind prog w Key where
  is := keyIs
  hash := keyH w
  inj := fun v a b ha hb => by
    rcases keyIs_shape ha with ⟨i, t, rfl, rfl⟩ | ⟨x, t, rfl, rfl⟩
    · rcases keyIs_shape hb with ⟨j, u, rfl, e⟩ | ⟨y, u, rfl, e⟩
      · injection e with e1 _; rw [e1]
      · exact nomatch e
    · rcases keyIs_shape hb with ⟨j, u, rfl, e⟩ | ⟨y, u, rfl, e⟩
      · exact nomatch e
      · injection e with e1 _; rw [e1]
  byValue := fun k v h => by
    rcases keyIs_shape h with ⟨i, t, rfl, rfl⟩ | ⟨x, t, rfl, rfl⟩ <;> rfl
  pyHash := fun hv h => by
    rcases keyIs_shape hv with ⟨i, t, rfl, rfl⟩ | ⟨x, t, rfl, rfl⟩
    · exact wpAny_pyHash_int h
    · exact wpAny_pyHash_str h
  eqBool := fun hu hv h => by
    rcases keyIs_shape hu with ⟨i, t, rfl, rfl⟩ | ⟨x, t, rfl, rfl⟩
    · rcases keyIs_shape hv with ⟨j, u, rfl, rfl⟩ | ⟨y, u, rfl, rfl⟩
      · rw [key_ll] at h; exact wpAny_eqBool_int h
      · rw [key_lr] at h; exact SeqAt.EqAt.int_str i t y u _ _ _ _ h
    · rcases keyIs_shape hv with ⟨j, u, rfl, rfl⟩ | ⟨y, u, rfl, rfl⟩
      · rw [key_rl] at h; exact SeqAt.EqAt.str_int x t j u _ _ _ _ h
      · rw [key_rr] at h; exact wpAny_eqBool_str h
  «strs» := fun k x t v h => by
    rcases keyIs_shape h with ⟨i, u, rfl, e⟩ | ⟨y, u, rfl, e⟩
    · exact nomatch e
    · injection e with e1 _
      subst e1
      cases v <;> rfl

end L2

namespace L2
open PySem PySem.Spec PyProof.Rows

/-- a value, without the heap -/
inductive V where
  | non | bl (b : Bool) | int (i : Int) | str (x : Str) | byt (b : Array UInt8) | flt (b : UInt64) | ref (a : Addr) | ty (n : String)
  deriving DecidableEq

def RelV : V → Value → Prop
  | .non, u => u = Value.none
  | .bl b, u => u = Value.bool b
  | .int i, u => ∃ t, u = Value.int i t
  | .str x, u => ∃ t, u = Value.str x t
  | .byt b, u => ∃ t, u = Value.bytes b t
  | .flt b, u => ∃ t, u = Value.float b t
  | .ref a, u => u = Value.ref a
  | .ty n, u => u = Value.type n

abbrev Vals : List V → List Value → Prop := Paired RelV
theorem Vals.length {xs : List V} {us : List Value} (r : Vals xs us) : xs.length = us.length := Paired.length r
theorem Vals.get : ∀ {xs : List V} {us : List Value} {i : Nat} {x : V}, Vals xs us → xs[i]? = some x → ∃ u, us[i]? = some u ∧ RelV x u
  | _, _, _, _, .nil, e => by simp at e
  | _, _, 0, _, .cons r _, e => by simp at e; subst e; exact ⟨_, rfl, r⟩
  | _, _, i + 1, x, .cons _ t, e => by
    obtain ⟨u, h1, h2⟩ := Vals.get (i := i) (x := x) t (by simpa using e)
    exact ⟨u, by simpa using h1, h2⟩
theorem Vals.set {x : V} {u : Value} (r : RelV x u) : ∀ {xs : List V} {us : List Value} (i : Nat), Vals xs us → Vals (xs.set i x) (us.set i u)
  | _, _, _, .nil => .nil
  | _, _, 0, .cons _ t => .cons r t
  | _, _, i + 1, .cons q t => .cons q (Vals.set r i t)
theorem Vals.append : ∀ {xs ys : List V} {us ws : List Value}, Vals xs us → Vals ys ws → Vals (xs ++ ys) (us ++ ws)
  | _, _, _, _, .nil, s => s
  | _, _, _, _, .cons r t, s => .cons r (Vals.append t s)
theorem Vals.take : ∀ {xs : List V} {us : List Value} (n : Nat), Vals xs us → Vals (xs.take n) (us.take n)
  | _, _, 0, _ => .nil
  | _, _, _ + 1, .nil => .nil
  | _, _, n + 1, .cons r t => .cons r (Vals.take n t)
theorem Vals.drop : ∀ {xs : List V} {us : List Value} (n : Nat), Vals xs us → Vals (xs.drop n) (us.drop n)
  | _, _, 0, r => r
  | _, _, _ + 1, .nil => .nil
  | _, _, n + 1, .cons _ t => Vals.drop n t
def RelO : Option V → Option Value → Prop
  | some v, some u => RelV v u
  | none, none => True
  | _, _ => False
def KV {κ : Type} : List (κ × V) → List (κ × Value) → Prop := Paired fun (p : κ × V) (q : κ × Value) => p.1 = q.1 ∧ RelV p.2 q.2

/-- a key of a dict (00_mix): an int or a text -/
def kV : Key → V
  | .inl i => .int i
  | .inr x => .str x

/-- what stands at a tracked address -/
inductive HO where
  /-- a list -/
  | lst (xs : List V)
  /-- a tuple (never changes) -/
  | tup (xs : List V)
  /-- a dict whose keys are ints and texts; one whose keys are tuples of ints and texts (the empty one is both) -/
  | dK (kvs : List (Key × V)) | dT (kvs : List (List Key × V))
  /-- a set of ints: its members, its size -/
  | set (S : Int → Bool) (n : Nat)
  /-- an instance of the class at C, its dict at dx, its attributes -/
  | ins (C dx : Addr) (fs : List (Str × V))
  /-- the dict of the instance at x -/
  | own (x : Addr)
  /-- the dict of an exception -/
  | xd (fs : List (Str × V))
  /-- a bound method, f of x -/
  | met (f x : Addr)
  /-- a range object lo, lo + 1, .. below hi -/
  | rng (lo hi : Int)
  /-- a thing that is known to the object (the script; a dict while a loop walks it): read, never written while it is so -/
  | frz (o : Obj) (u : HO)
  /-- a code object's table -/
  | tbl (ps : Array Value)
  /-- any other thing, by what is true of its one object (a def of one's own: SetO a S n := HO.ext fun h => ..) -/
  | ext (φ : Heap → Prop)

abbrev Hp := Addr → Option HO
def upd (H : Hp) (a : Addr) (o : HO) : Hp := fun b => if b = a then some o else H b
theorem upd_same {H : Hp} {a : Addr} {o : HO} : upd H a o a = some o := by unfold upd; rw [if_pos rfl]
theorem upd_ne {H : Hp} {a b : Addr} {o : HO} (h : b ≠ a) : upd H a o b = H b := by unfold upd; rw [if_neg h]
theorem ne_of_none {H : Hp} {a b : Addr} {o : HO} (h : H a = some o) (h' : H b = none) : a ≠ b := by
  intro e; subst e; rw [h] at h'; cases h'

section
variable (P : Program) (w : World)
def ObjOk (H : Hp) (h : Heap) (a : Addr) : HO → Prop
  | .lst xs => xs.length ≤ sizeLine ∧ ∃ (its : List Value) (n : Nat), Vals xs its ∧ h.get? a = some { cls := .type "list", data := .seq its.toArray n }
  | .tup xs => xs.length ≤ sizeLine ∧ ∃ its : List Value, Vals xs its ∧ IsTup h a its.toArray
  | .dK kvs => kvs.length ≤ sizeLine ∧ (a == sysModules) = false ∧ ∃ vs, KV kvs vs ∧ h.DictOf (mixKind P w) a vs
  | .dT kvs => kvs.length ≤ sizeLine ∧ (a == sysModules) = false ∧ ∃ xs : List (List Key × Addr × Value),
      Paired (fun (p : List Key × V) (q : List Key × Addr × Value) => p.1 = q.1 ∧ H q.2.1 = some (.tup (p.1.map kV)) ∧ RelV p.2 q.2.2) kvs xs ∧
      ∃ o es ep, h.get? a = some o ∧ o.ExactDict ∧ o.data = .dict es ep ∧ es.toList = xs.map (entryOfKey (tupleKind (mixKind P w))) ∧ (xs.map (·.1)).Nodup
  | .set S n => h.SetOf (intKind P w) a S n
  | .ins C dx fs => H dx = some (.own a) ∧ fs.length ≤ 1000 ∧ dx ≠ a ∧ h.get? a = some (PySem.W.instObj C dx) ∧
      ∃ mA, h.Ns1 dx mA ∧ (∀ f, RelO (fs.lookup f) (mA f)) ∧ PySem.Within mA (fs.map (·.1))
  | .own _ => ∃ o, h.get? a = some o
  | .xd fs => ∃ mA, h.Ns1 a mA ∧ ∀ f, RelO (fs.lookup f) (mA f)
  | .rng lo hi => ∃ t u v, h.get? a = some { cls := .type "range", data := .fields #[.int lo t, .int hi u, .int 1 v] }
  | .frz o u => h.get? a = some o ∧ ObjOk H h a u
  | .tbl ps => h.get? a = some { cls := .none, data := .fields ps }
  | .met f x => h.get? a = some (PySem.W.methodObj (.ref f) (.ref x))
  | .ext φ => φ h ∧ (∃ o, h.get? a = some o) ∧ ∀ h1 h2 : Heap, φ h1 → (∀ o, h1.get? a = some o → h2.get? a = some o) → φ h2
/-- the abstract heap is held -/
def HOk (H : Hp) (h : Heap) : Prop := ∀ a o, H a = some o → ObjOk P w H h a o
end

section
variable {P : Program} {w : World} {H H' : Hp} {h h' : Heap} {a : Addr} {o : HO}
theorem ObjOk.lt (x : ObjOk P w H h a o) : a < h.objs.size := by
  cases o with
  | lst xs => obtain ⟨_, _, _, _, e⟩ := x; exact Heap.lt_size e
  | tup xs => obtain ⟨_, _, _, p⟩ := x; exact p.lt
  | dK kvs => obtain ⟨_, _, _, _, o, _, _, e, _⟩ := x; exact Heap.lt_size e
  | dT kvs => obtain ⟨_, _, _, _, o, _, _, e, _⟩ := x; exact Heap.lt_size e
  | set S n => obtain ⟨o, _, _, _, e, _⟩ := x; exact Heap.lt_size e
  | ins C dx fs => obtain ⟨_, _, _, e, _⟩ := x; exact Heap.lt_size e
  | own y => obtain ⟨_, e⟩ := x; exact Heap.lt_size e
  | xd fs => obtain ⟨_, ⟨_, _, _, e, _⟩, _⟩ := x; exact Heap.lt_size e
  | rng lo hi => obtain ⟨_, _, _, e⟩ := x; exact Heap.lt_size e
  | frz ob u => obtain ⟨e, _⟩ := x; exact Heap.lt_size e
  | tbl ps => exact Heap.lt_size (show h.get? a = some _ from x)
  | met f y => exact Heap.lt_size (show h.get? a = some _ from x)
  | ext φ => obtain ⟨_, ⟨_, e⟩, _⟩ := x; exact Heap.lt_size e
theorem Paired.mapP {α β : Type} {F G : α → β → Prop} : ∀ {l₁ : List α} {l₂ : List β}, Paired F l₁ l₂ → (∀ a b, F a b → G a b) → Paired G l₁ l₂
  | _, _, .nil, _ => .nil
  | _, _, .cons r t, f => .cons (f _ _ r) (Paired.mapP t f)
/-- what an object's description leans on: its own object, its own dict, the tuples -/
theorem ObjOk.stay (x : ObjOk P w H h a o) (k : ∀ b u, (b = a ∨ H b = some (.own a)) → h.get? b = some u → h'.get? b = some u)
    (ho : ∀ b, H b = some (.own a) → H' b = some (.own a)) (ht : ∀ b xs, H b = some (.tup xs) → H' b = some (.tup xs)) : ObjOk P w H' h' a o := by
  induction o with
  | lst xs => obtain ⟨z, its, n, r, e⟩ := x; exact ⟨z, its, n, r, k _ _ (.inl rfl) e⟩
  | tup xs => obtain ⟨z, its, r, ob, e, c⟩ := x; exact ⟨z, its, r, ob, k _ _ (.inl rfl) e, c⟩
  | dK kvs => obtain ⟨z, y, vs, r, ob, es, ep, e, c⟩ := x; exact ⟨z, y, vs, r, ob, es, ep, k _ _ (.inl rfl) e, c⟩
  | dT kvs =>
    obtain ⟨z, y, xs, r, ob, es, ep, e, c⟩ := x
    exact ⟨z, y, xs, Paired.mapP r fun p q z => ⟨z.1, ht _ _ z.2.1, z.2.2⟩, ob, es, ep, k _ _ (.inl rfl) e, c⟩
  | set S n => obtain ⟨ob, es, ep, t, e, c⟩ := x; exact ⟨ob, es, ep, t, k _ _ (.inl rfl) e, c⟩
  | ins C dx fs =>
    obtain ⟨d, z, ne, e, mA, ⟨od, es, ep, e2, c⟩, r⟩ := x
    exact ⟨ho _ d, z, ne, k _ _ (.inl rfl) e, mA, ⟨od, es, ep, k _ _ (.inr d) e2, c⟩, r⟩
  | own y => obtain ⟨ob, e⟩ := x; exact ⟨ob, k _ _ (.inl rfl) e⟩
  | xd fs => obtain ⟨mA, ⟨od, es, ep, e, c⟩, r⟩ := x; exact ⟨mA, ⟨od, es, ep, k _ _ (.inl rfl) e, c⟩, r⟩
  | rng lo hi => obtain ⟨t, u, v, e⟩ := x; exact ⟨t, u, v, k _ _ (.inl rfl) e⟩
  | frz ob u ih => obtain ⟨e, q⟩ := x; exact ⟨k _ _ (.inl rfl) e, ih q⟩
  | tbl ps =>
    have e : h.get? a = some { cls := .none, data := .fields ps } := x
    show h'.get? a = some { cls := .none, data := .fields ps }
    exact k a _ (.inl rfl) e
  | met f y =>
    have e : h.get? a = some (PySem.W.methodObj (.ref f) (.ref y)) := x
    show h'.get? a = some (PySem.W.methodObj (.ref f) (.ref y))
    exact k a _ (.inl rfl) e
  | ext φ => obtain ⟨p, ⟨o, e⟩, st⟩ := x; exact ⟨st _ _ p fun o q => k _ _ (.inl rfl) q, ⟨o, k _ _ (.inl rfl) e⟩, st⟩
theorem HOk.lt (x : HOk P w H h) (e : H a = some o) : a < h.objs.size := (x a o e).lt
theorem HOk.fresh (x : HOk P w H h) (e : h.objs.size ≤ a) : H a = none := by
  cases q : H a with
  | none => rfl
  | some u => exact absurd (Nat.lt_of_lt_of_le (x.lt q) e) (Nat.lt_irrefl _)
/-- every object of the heap is kept -/
theorem HOk.kept (x : HOk P w H h) (k : ∀ b u, h.get? b = some u → h'.get? b = some u) : HOk P w H h' := fun a o e =>
  (x a o e).stay (fun b u _ q => k b u q) (fun _ q => q) fun _ _ q => q
/-- a new object is laid and tracked -/
theorem HOk.laid (x : HOk P w H h) (k : ∀ b u, h.get? b = some u → h'.get? b = some u) (hp : h.objs.size ≤ a) (new : ObjOk P w (upd H a o) h' a o) : HOk P w (upd H a o) h' := fun b u e => by
  have hn := x.fresh hp
  by_cases hb : b = a
  · subst hb; rw [upd_same] at e; cases e; exact new
  · rw [upd_ne hb] at e
    exact (x b u e).stay (fun c v _ q => k c v q) (fun c q => by rw [upd_ne (ne_of_none q hn)]; exact q) fun c xs q => by rw [upd_ne (ne_of_none q hn)]; exact q
end

/-- what may be read as u: it is u, or a known u -/
def Rd (H : Hp) (a : Addr) (u : HO) : Prop := H a = some u ∨ ∃ o, H a = some (.frz o u)
theorem Rd.of {H : Hp} {a : Addr} {u : HO} (h : H a = some u) : Rd H a u := .inl h
theorem Rd.ok {P : Program} {w : World} {H : Hp} {h : Heap} {a : Addr} {u : HO} (r : Rd H a u) (x : HOk P w H h) : ObjOk P w H h a u := by
  rcases r with r | ⟨o, r⟩
  · exact x a u r
  · obtain ⟨_, q⟩ := x a _ r
    exact q
/-- what may be written -/
def Mut : Option HO → Prop
  | some (.lst _) => True
  | some (.dK _) => True
  | some (.dT _) => True
  | some (.set _ _) => True
  | some (.ins _ _ _) => True
  | some (.ext _) => True
  | _ => False
section
variable {P : Program} {w : World} {H : Hp} {h h' : Heap} {x e : Addr} {o' : HO}
/-- the object at e is changed: x itself, or the dict of the instance x -/
theorem HOk.write (ok : HOk P w H h) (mu : Mut (H x)) (he : e = x ∨ H e = some (.own x)) (k : ∀ b u, b ≠ e → h.get? b = some u → h'.get? b = some u) (heo : ∃ u, h'.get? e = some u)
    (new : ObjOk P w (upd H x o') h' x o') : HOk P w (upd H x o') h' := fun b u q => by
  have nown : ∀ c y, H c = some (.own y) → c ≠ x := fun c y r z => by subst z; rw [r] at mu; exact mu
  have ntup : ∀ c xs, H c = some (.tup xs) → c ≠ x := fun c xs r z => by subst z; rw [r] at mu; exact mu
  by_cases hb : b = x
  · subst hb; rw [upd_same] at q; cases q; exact new
  · rw [upd_ne hb] at q
    by_cases hbe : b = e
    · have q' : H b = some (.own x) := by
        rcases he with z | z
        · exact absurd (hbe.trans z) hb
        · rw [hbe]; exact z
      rw [q] at q'; cases q'
      obtain ⟨v, hv⟩ := heo
      exact ⟨v, by rw [hbe]; exact hv⟩
    · refine (ok b u q).stay (fun c v hc r => k c v ?_ r) (fun c r => by rw [upd_ne (nown c b r)]; exact r) fun c xs r => by rw [upd_ne (ntup c xs r)]; exact r
      rcases hc with rfl | hc
      · exact hbe
      · rintro rfl
        rcases he with z | z
        · exact nown c b hc z
        · rw [hc] at z; cases z; exact hb rfl
end

/-! ### kept unless tracked; of the frames at fs (the callers') the slots may change (an exception that passes writes there); of the records at ex (iterators) nothing is said -/
structure Un (fs ex : List Addr) (H H' : Hp) (h h' : Heap) : Prop where
  keep : ∀ b o, h.get? b = some o → H b = none → b ∉ fs → b ∉ ex → h'.get? b = some o
  slot : ∀ b o, h.get? b = some o → H b = none → b ∈ fs → b ∉ ex → ∃ sl, h'.get? b = some { o with slots := sl }
  free : ∀ b o, h.get? b = some o → H b = none → b ∉ ex → H' b = none
  there : ∀ b o, h.get? b = some o → b ∉ ex → ∃ o', h'.get? b = some o'
  tups : ∀ b xs, H b = some (.tup xs) → H' b = some (.tup xs)
  frzs : ∀ b o u, H b = some (.frz o u) → H' b = some (.frz o u)
  tbls : ∀ b ps, H b = some (.tbl ps) → ∃ more, H' b = some (.tbl (ps ++ more))
section
variable {fs fs' ex ex' : List Addr} {H H1 H2 : Hp} {h h1 h2 h' : Heap} {a x e : Addr} {o : HO}
theorem Un.any (u : Un fs ex H H1 h h1) {b : Addr} {ob : Obj} (q : h.get? b = some ob) (n : H b = none) (hx : b ∉ ex) : ∃ sl, h1.get? b = some { ob with slots := sl } := by
  by_cases hb : b ∈ fs
  · exact u.slot b ob q n hb hx
  · exact ⟨ob.slots, u.keep b ob q n hb hx⟩
theorem Un.trans (a : Un fs ex H H1 h h1) (b : Un fs ex H1 H2 h1 h2) : Un fs ex H H2 h h2 where
  keep := fun c ob q n hc hx => b.keep c ob (a.keep c ob q n hc hx) (a.free c ob q n hx) hc hx
  slot := fun c ob q n hc hx => by
    obtain ⟨sl, e1⟩ := a.slot c ob q n hc hx
    obtain ⟨sl', e2⟩ := b.slot c _ e1 (a.free c ob q n hx) hc hx
    exact ⟨sl', e2⟩
  free := fun c ob q n hx => by
    obtain ⟨o', e1⟩ := a.there c ob q hx
    exact b.free c o' e1 (a.free c ob q n hx) hx
  there := fun c ob q hx => by
    obtain ⟨o', e1⟩ := a.there c ob q hx
    exact b.there c o' e1 hx
  tups := fun c xs q => b.tups c xs (a.tups c xs q)
  frzs := fun c ob xs q => b.frzs c ob xs (a.frzs c ob xs q)
  tbls := fun c ps q => by
    obtain ⟨m1, e1⟩ := a.tbls c ps q
    obtain ⟨m2, e2⟩ := b.tbls c _ e1
    exact ⟨m1 ++ m2, by rw [e2, Array.append_assoc]⟩
theorem Un.kept (k : ∀ b u, h.get? b = some u → h'.get? b = some u) : Un fs ex H H h h' :=
  ⟨fun b ob q _ _ _ => k b ob q, fun b ob q _ _ _ => ⟨ob.slots, k b ob q⟩, fun _ _ _ n _ => n, fun b ob q _ => ⟨ob, k b ob q⟩, fun _ _ q => q, fun _ _ _ q => q, fun _ ps q => ⟨#[], by rw [q]; simp⟩⟩
theorem Un.refl : Un fs ex H H h h := Un.kept fun _ _ q => q
theorem Un.laid (k : ∀ b u, h.get? b = some u → h'.get? b = some u) (hp : h.objs.size ≤ a) (hn : H a = none) : Un fs ex H (upd H a o) h h' where
  keep := fun b u q _ _ _ => k b u q
  slot := fun b u q _ _ _ => ⟨u.slots, k b u q⟩
  free := fun b u q n _ => by rw [upd_ne (Nat.ne_of_lt (Nat.lt_of_lt_of_le (Heap.lt_size q) hp))]; exact n
  there := fun b u q _ => ⟨u, k b u q⟩
  tups := fun b xs q => by rw [upd_ne (ne_of_none q hn)]; exact q
  frzs := fun b u xs q => by rw [upd_ne (ne_of_none q hn)]; exact q
  tbls := fun b ps q => ⟨#[], by rw [upd_ne (ne_of_none q hn), q]; simp⟩
theorem Un.write (mu : Mut (H x)) (he : e = x ∨ H e = some (.own x)) (k : ∀ b u, b ≠ e → h.get? b = some u → h'.get? b = some u) (heo : ∃ u, h'.get? e = some u) : Un fs ex H (upd H x o) h h' := by
  have hx : ∀ b, H b = none → b ≠ x := fun b n z => by subst z; rw [n] at mu; exact mu
  have hb : ∀ b, H b = none → b ≠ e := fun b n z => by
    subst z
    rcases he with r | r
    · exact hx b n r
    · rw [n] at r; cases r
  have hm : ∀ b u, H b = some u → ¬ Mut (some u) → b ≠ x := fun b u q nm z => by subst z; rw [q] at mu; exact nm mu
  refine ⟨fun b u q n _ _ => k b u (hb b n) q, fun b u q n _ _ => ⟨u.slots, k b u (hb b n) q⟩, fun b u q n _ => by rw [upd_ne (hx b n)]; exact n, fun b u q _ => ?_,
    fun b xs q => by rw [upd_ne (hm b _ q fun z => z)]; exact q, fun b u xs q => by rw [upd_ne (hm b _ q fun z => z)]; exact q, fun b ps q => ⟨#[], by rw [upd_ne (hm b _ q fun z => z), q]; simp⟩⟩
  by_cases hbe : b = e
  · subst hbe; exact heo
  · exact ⟨u, k b u hbe q⟩
theorem Un.mono (u : Un fs ex H H1 h h1) (hs : ∀ b ∈ fs, b ∈ fs') (hx : ∀ b ∈ ex, b ∈ ex') : Un fs' ex' H H1 h h1 :=
  ⟨fun b ob q n hb he => u.keep b ob q n (fun z => hb (hs b z)) fun z => he (hx b z), fun _ _ q n _ he => u.any q n fun z => he (hx _ z), fun b ob q n he => u.free b ob q n fun z => he (hx b z), fun b ob q he => u.there b ob q fun z => he (hx b z), u.tups, u.frzs, u.tbls⟩
end

/-! ### the heap without what is tracked -/
def trk (h : Heap) (H : Hp) : List Addr := (List.range h.objs.size).filter fun a => (H a).isSome
def hidT (h : Heap) (H : Hp) : Heap := PySem.W.hideAll h (trk h H)
theorem hidT_size (h : Heap) (H : Hp) : (hidT h H).objs.size = h.objs.size := PySem.W.hideAll_size _ _
theorem hidT_get {h : Heap} {H : Hp} {b : Addr} {o : Obj} (e : h.get? b = some o) (n : H b = none) : (hidT h H).get? b = some o :=
  PySem.W.hideAll_get _ e fun hm => by
    have q : (H b).isSome = true := (List.mem_filter.mp hm).2
    rw [n] at q; simp at q
theorem of_hidT {h : Heap} {H : Hp} {b : Addr} {o : Obj} (e : (hidT h H).get? b = some o) : h.get? b = some o ∧ H b = none := by
  have e' : h.get? b = some o := PySem.W.of_hideAll (trk h H) e
  refine ⟨e', ?_⟩
  cases q : H b with
  | none => rfl
  | some x =>
    have hm : b ∈ trk h H := List.mem_filter.mpr ⟨List.mem_range.mpr (Heap.lt_size e'), by simp [q]⟩
    have z : (hidT h H).get? b = none := PySem.W.hideAll_none (trk h H) hm
    rw [z] at e; cases e

/-! ### OpenK's ledger, filled with every new object but one -/
def allNews (g h : Heap) (L : Addr) : List (Addr × Obj) := (List.range h.objs.size).filterMap fun a => if a = L ∨ (g.get? a).isSome = true then none else (h.get? a).map fun o => (a, o)
def rest (g h : Heap) (L d : Addr) : List (Addr × Obj) := (allNews g h L).filter fun p => decide (p.1 ≠ d)
end L2

namespace L2
open PySem PySem.Spec PyProof.Rows

/-- the module's facts, over the base: the heap at the law's entry without what is tracked there -/
structure Mod (K : PySem.W.Frag) (mg : Str → Option Value) (base : Heap) : Prop where
  kin : K.In base
  glob : base.Ns mainGlobals mg
  blt : ∃ mb, base.Ns builtinsNs mb ∧ ∀ x : Str, x ≠ "__name__" → mb x = bootBuiltins x
  nolimit : base.NoLimit

/-- the context: a def's body (or a comprehension's block) running. base: fixed through the whole law; s₀, H₀: the entry; outer: the frames whose slots others may change (a def's callers); stack: all frames that run;
   ex: iterators that were made ahead of the entry and are walked here (a comprehension's); fn: the names whose cells were made at the entry (a def: all; a comprehension's block: its own); calm: not within an except suite; pn: pins that every state bears; xe: what is wanted of an exception that leaves the code -/
structure Cx where
  prog : Program
  w : World
  K : PySem.W.Frag
  mg : Str → Option Value
  base : Heap
  A : Around
  N : List Str
  s₀ : Shared
  H₀ : Hp
  env : Env
  outer : List Env
  stack : List Env
  ex : List Addr
  fn : Str → Bool
  calm : Bool
  pn : List (Addr × Obj)
  xe : Value → Shared → Prop
/-- the callers' frames -/
def frs (l : List Env) : List Addr := l.filterMap (·.frame)
abbrev Cx.fs (X : Cx) : List Addr := frs X.outer

def Vis (sc : Scope) (x : Str) : Prop := sc.names.lookup x = some .local ∨ sc.names.lookup x = some .cell ∨ sc.names.lookup x = some .free
def Loc (sc : Scope) (x : Str) : Prop := sc.names.lookup x = some .local ∨ sc.names.lookup x = some .cell
def Look (env : Env) (h : Heap) (m : Str → Option Value) (x : Str) (u : Value) : Prop :=
  (env.kindOf x = some .local ∧ m x = some u) ∨ ((env.kindOf x = some .cell ∨ env.kindOf x = some .free) ∧ ∃ c, env.cells.lookup x = some c ∧ h.IsCell c (some u))

structure Cx.Ok (X : Cx) : Prop where
  mod : Mod X.K X.mg X.base
  kind : X.env.scope.kind = .function
  glob : X.env.globals = mainGlobals
  blt : X.env.builtins = builtinsNs
  above : X.s₀.heap.objs.size ≤ X.env.locals
  inj : ∀ x y c, X.env.cells.lookup x = some c → X.env.cells.lookup y = some c → x = y
  has : ∀ x, (X.env.kindOf x = some .cell ∨ X.env.kindOf x = some .free) → ∃ c, X.env.cells.lookup x = some c
  cab : ∀ x c, X.fn x = true → X.env.cells.lookup x = some c → X.s₀.heap.objs.size ≤ c
  hd : X.calm = true → X.A.handled = none
  frames : X.A.frames = some X.stack
  stk : X.stack = X.outer ∨ (X.stack = X.env :: X.outer ∧ X.env.frame = some X.env.locals)
  exf : ∀ b ∈ X.ex, b ≠ X.env.locals ∧ ∀ x c, X.env.cells.lookup x = some c → c ≠ b
  bs : ∀ b o, X.base.get? b = some o → X.s₀.heap.get? b = some o ∧ X.H₀ b = none
  bsz : X.base.objs.size ≤ X.s₀.heap.objs.size
  noex : ∀ b o, X.base.get? b = some o → b ∉ X.ex
  exfs : ∀ b ∈ X.ex, b ∉ X.fs
  funs : X.s₀.heap.FunFrames X.base X.outer
  frf : ∀ b ∈ X.fs, X.H₀ b = none

structure Inv (X : Cx) (pins : List (Addr × Obj)) (σ : List (Option V)) (H : Hp) (s : Shared) : Prop where
  ok : X.Ok
  os : s.os = X.s₀.os
  bare : AllBare s.gens
  base : Un X.fs X.ex X.H₀ H X.s₀.heap s.heap
  loc : ∃ m, s.heap.Ns X.env.locals m ∧ ∀ (i : Nat) (x : Str) (v : V), X.N[i]? = some x → σ[i]? = some (some v) → Vis X.env.scope x → ∃ u, RelV v u ∧ Look X.env s.heap m x u
  cell : ∀ x c, X.env.cells.lookup x = some c → ∃ v, s.heap.IsCell c v
  free : H X.env.locals = none
  freeC : ∀ x c, X.env.cells.lookup x = some c → H c = none
  pin : ∀ p ∈ X.pn ++ pins, s.heap.get? p.1 = some p.2 ∧ H p.1 = none ∧ p.1 ≠ X.env.locals ∧ p.1 ∉ X.fs ∧ ∀ v, p.2.data ≠ .cell v
  hok : HOk X.prog X.w H s.heap
  len : σ.length = X.N.length

section
variable {X : Cx} {pins : List (Addr × Obj)} {σ : List (Option V)} {H H' : Hp} {s : Shared} {h' : Heap}

theorem Cx.Ok.nofr (ok : X.Ok) {b : Addr} {o : Obj} (e : X.base.get? b = some o) : b ∉ X.fs := fun hb => by
  have := (ok.funs.mem hb).1
  rw [e] at this; cases this
theorem Inv.bs (I : Inv X pins σ H s) : ∀ b o, X.base.get? b = some o → s.heap.get? b = some o ∧ H b = none := fun b o e =>
  ⟨I.base.keep b o (I.ok.bs b o e).1 (I.ok.bs b o e).2 (I.ok.nofr e) (I.ok.noex b o e), I.base.free b o (I.ok.bs b o e).1 (I.ok.bs b o e).2 (I.ok.noex b o e)⟩
theorem Inv.bk (I : Inv X pins σ H s) : ∀ b o, X.base.get? b = some o → s.heap.get? b = some o := fun b o e => (I.bs b o e).1
theorem Inv.mod (I : Inv X pins σ H s) : Mod X.K X.mg X.base := I.ok.mod
theorem Inv.kIn (I : Inv X pins σ H s) : X.K.In s.heap := I.ok.mod.kin.keeps I.bk
theorem Inv.nolimit (I : Inv X pins σ H s) : s.heap.NoLimit := I.ok.mod.nolimit.keeps I.bk
theorem Inv.lt (I : Inv X pins σ H s) : X.env.locals < s.heap.objs.size := let ⟨_, hn, _⟩ := I.loc; hn.lt
theorem Inv.sz (I : Inv X pins σ H s) : X.s₀.heap.objs.size ≤ s.heap.objs.size := Nat.le_trans I.ok.above (Nat.le_of_lt I.lt)
theorem Inv.nofs (I : Inv X pins σ H s) {a : Addr} (h : s.heap.objs.size ≤ a) : a ∉ X.fs := fun hb => by
  obtain ⟨_, o, ho, _⟩ := I.ok.funs.mem hb
  exact absurd (Nat.lt_of_lt_of_le (Heap.lt_size ho) (Nat.le_trans I.sz h)) (Nat.lt_irrefl _)
theorem Inv.cne (I : Inv X pins σ H s) : ∀ x c, X.env.cells.lookup x = some c → c ≠ X.env.locals := fun x c e z => by
  obtain ⟨v, o, ho, hd⟩ := I.cell x c e
  obtain ⟨m, ⟨o', es, ep, ho', hd', _⟩, _⟩ := I.loc
  rw [z, ho'] at ho; cases ho; rw [hd'] at hd; cases hd
theorem Inv.funs (I : Inv X pins σ H s) : s.heap.FunFrames X.base X.outer := by
  have all : ∀ (l : List Env), (∀ b ∈ frs l, b ∈ X.fs) → X.s₀.heap.FunFrames X.base l → s.heap.FunFrames X.base l := by
    intro l
    induction l with
    | nil => intro _ _; trivial
    | cons env r ih =>
      intro hs hl
      obtain ⟨hk, ⟨L, o, hf, hn, ho, hd⟩, hr⟩ := hl
      have hL : L ∈ X.fs := hs L (by unfold frs; rw [List.filterMap_cons, hf]; exact List.mem_cons_self)
      obtain ⟨sl, e⟩ := I.base.slot L o ho (I.ok.frf L hL) hL fun z => I.ok.exfs L z hL
      exact ⟨hk, ⟨L, _, hf, hn, e, hd⟩, ih (fun b hb => hs b (by unfold frs; rw [List.filterMap_cons, hf]; exact List.mem_cons_of_mem _ hb)) hr⟩
  exact all X.outer (fun _ hb => hb) I.ok.funs

/-- the frames that run, for a call -/
theorem Inv.stack (I : Inv X pins σ H s) : s.heap.FunFrames X.base X.stack := by
  rcases I.ok.stk with e | ⟨e, hf⟩
  · rw [e]; exact I.funs
  · rw [e]
    obtain ⟨m, hn, _⟩ := I.loc
    refine .cons (by rw [I.ok.kind]; decide) hf hn ?_ I.funs
    exact Heap.get?_none_of_le (Nat.le_trans I.ok.bsz I.ok.above)
theorem Inv.stkSub (I : Inv X pins σ H s) : ∀ b ∈ frs X.stack, b ∈ X.env.locals :: X.fs := fun b hb => by
  rcases I.ok.stk with e | ⟨e, hf⟩
  · rw [e] at hb; exact List.mem_cons_of_mem _ hb
  · rw [e] at hb
    unfold frs at hb
    rw [List.filterMap_cons, hf] at hb
    exact hb
theorem Inv.stkFree (I : Inv X pins σ H s) : ∀ b ∈ frs X.stack, H b = none := fun b hb => by
  rcases List.mem_cons.mp (I.stkSub b hb) with e | hb
  · rw [e]; exact I.free
  · obtain ⟨_, o, ho, _⟩ := I.ok.funs.mem hb
    exact I.base.free b o ho (I.ok.frf b hb) fun z => I.ok.exfs b z hb

/-- THE STEP: the untracked objects but the frame and the records at ch are kept (the callers' frames up to slots), the frame's map is kept, the new abstract heap is held -/
theorem Inv.step {g' : Array GenState} {t' : Nat} {d' : Drawn} {ch : List Addr} (I : Inv X pins σ H s)
    (hch : ∀ b ∈ ch, (b ∈ X.ex ∨ X.s₀.heap.objs.size ≤ b) ∧ b ≠ X.env.locals ∧ (∀ x c, X.env.cells.lookup x = some c → c ≠ b) ∧ ∀ p ∈ X.pn ++ pins, p.1 ≠ b)
    (keep : ∀ b o, b ≠ X.env.locals → b ∉ X.fs → b ∉ ch → s.heap.get? b = some o → H b = none → h'.get? b = some o)
    (slot : ∀ b o, b ≠ X.env.locals → b ∈ X.fs → b ∉ ch → s.heap.get? b = some o → H b = none → ∃ sl, h'.get? b = some { o with slots := sl }) (free : ∀ b o, b ∉ ch → s.heap.get? b = some o → H b = none → H' b = none)
    (there : ∀ b o, b ∉ ch → s.heap.get? b = some o → ∃ o', h'.get? b = some o')
    (tups : ∀ b xs, H b = some (.tup xs) → H' b = some (.tup xs)) (frzs : ∀ b o u, H b = some (.frz o u) → H' b = some (.frz o u)) (tbls : ∀ b ps, H b = some (.tbl ps) → ∃ more, H' b = some (.tbl (ps ++ more)))
    (ns : ∀ m, s.heap.Ns X.env.locals m → h'.Ns X.env.locals m) (hok : HOk X.prog X.w H' h') (hg : AllBare g') :
    Inv X pins σ H' { s with heap := h', gens := g', drawn := d', toks := t' } := by
  have neL : ∀ b o, X.s₀.heap.get? b = some o → b ≠ X.env.locals := fun b o e => Nat.ne_of_lt (Nat.lt_of_lt_of_le (Heap.lt_size e) I.ok.above)
  have neC : ∀ b o, X.s₀.heap.get? b = some o → b ∉ X.ex → b ∉ ch := fun b o e hx hb => by
    rcases (hch b hb).1 with z | z
    · exact hx z
    · exact absurd (Nat.lt_of_lt_of_le (Heap.lt_size e) z) (Nat.lt_irrefl _)
  have cellK : ∀ x c, X.env.cells.lookup x = some c → ∀ v, s.heap.IsCell c v → h'.IsCell c v := fun x c e v ⟨o, ho, hd⟩ => by
    have nch : c ∉ ch := fun z => (hch c z).2.2.1 x c e rfl
    by_cases hc : c ∈ X.fs
    · obtain ⟨sl, q⟩ := slot c o (I.cne x c e) hc nch ho (I.freeC x c e)
      exact ⟨_, q, hd⟩
    · exact ⟨o, keep c o (I.cne x c e) hc nch ho (I.freeC x c e), hd⟩
  refine ⟨I.ok, I.os, hg, ⟨fun b o e n hb hx => ?_, fun b o e n hb hx => ?_, fun b o e n hx => ?_, fun b o e hx => ?_, fun b xs e => tups b xs (I.base.tups b xs e), fun b o xs e => frzs b o xs (I.base.frzs b o xs e), fun b ps e => ?_⟩, ?_, fun x c e => ?_, ?_, fun x c e => ?_, fun p hp => ?_, hok, I.len⟩
  · exact keep b o (neL b o e) hb (neC b o e hx) (I.base.keep b o e n hb hx) (I.base.free b o e n hx)
  · obtain ⟨sl, e1⟩ := I.base.slot b o e n hb hx
    obtain ⟨sl', e2⟩ := slot b _ (neL b o e) hb (neC b o e hx) e1 (I.base.free b o e n hx)
    exact ⟨sl', e2⟩
  · obtain ⟨o', e1⟩ := I.base.there b o e hx
    exact free b o' (neC b o e hx) e1 (I.base.free b o e n hx)
  · obtain ⟨o', e1⟩ := I.base.there b o e hx
    exact there b o' (neC b o e hx) e1
  · obtain ⟨m1, e1⟩ := I.base.tbls b ps e
    obtain ⟨m2, e2⟩ := tbls b _ e1
    exact ⟨m1 ++ m2, by rw [e2, Array.append_assoc]⟩
  · obtain ⟨m, hn, hl⟩ := I.loc
    refine ⟨m, ns m hn, fun i x v e1 e2 e3 => ?_⟩
    obtain ⟨u, r, l⟩ := hl i x v e1 e2 e3
    refine ⟨u, r, ?_⟩
    rcases l with l | ⟨k, c, e, z⟩
    · exact .inl l
    · exact .inr ⟨k, c, e, cellK x c e _ z⟩
  · obtain ⟨v, z⟩ := I.cell x c e
    exact ⟨v, cellK x c e v z⟩
  · obtain ⟨m, ⟨o, _, _, ho, _⟩, _⟩ := I.loc
    exact free _ o (fun z => (hch _ z).2.1 rfl) ho I.free
  · obtain ⟨v, o, ho, hd⟩ := I.cell x c e
    exact free c o (fun z => (hch c z).2.2.1 x c e rfl) ho (I.freeC x c e)
  · obtain ⟨e, n, ne, nf, d⟩ := I.pin p hp
    have nch : p.1 ∉ ch := fun z => (hch p.1 z).2.2.2 p hp rfl
    exact ⟨keep p.1 p.2 ne nf nch e n, free p.1 p.2 nch e n, ne, nf, d⟩
/-- .. where the frame's own object is kept too -/
theorem Inv.un {t' : Nat} (I : Inv X pins σ H s) (u : Un X.fs [] H H' s.heap h') (hok : HOk X.prog X.w H' h') : Inv X pins σ H' { s with heap := h', toks := t' } := by
  obtain ⟨m, ⟨o, es, ep, ho, r⟩, _⟩ := id I.loc
  obtain ⟨sl, hL⟩ := u.any ho I.free (by simp)
  exact I.step (g' := s.gens) (d' := s.drawn) (ch := []) (fun _ z => nomatch z) (fun b o _ hb _ e n => u.keep b o e n hb (by simp)) (fun b o _ hb _ e n => u.slot b o e n hb (by simp)) (fun b o _ e n => u.free b o e n (by simp)) (fun b o _ e => u.there b o e (by simp)) u.tups u.frzs u.tbls (fun m' hm => by
    obtain ⟨o', es', ep', ho', r'⟩ := hm
    rw [ho] at ho'; cases ho'
    exact ⟨_, es', ep', hL, r'⟩) hok I.bare
/-- behind a call (or a comprehension's block): the slots of this frame may have changed too, the records at ch may have turned -/
theorem Inv.call {g' : Array GenState} {t' : Nat} {d' : Drawn} {ch : List Addr} (I : Inv X pins σ H s) (u : Un (frs X.stack) ch H H' s.heap h') (hok : HOk X.prog X.w H' h') (hg : AllBare g')
    (hch : ∀ b ∈ ch, (b ∈ X.ex ∨ X.s₀.heap.objs.size ≤ b) ∧ b ≠ X.env.locals ∧ (∀ x c, X.env.cells.lookup x = some c → c ≠ b) ∧ ∀ p ∈ X.pn ++ pins, p.1 ≠ b) :
    Inv X pins σ H' { s with heap := h', gens := g', drawn := d', toks := t' } := by
  obtain ⟨m, ⟨o, es, ep, ho, r⟩, _⟩ := id I.loc
  obtain ⟨sl, hL⟩ := u.any ho I.free fun z => (hch _ z).2.1 rfl
  exact I.step (ch := ch) hch (fun b o hL hb hc e n => u.keep b o e n (fun z => (List.mem_cons.mp (I.stkSub b z)).elim hL hb) hc) (fun b o _ _ hc e n => u.any e n hc) (fun b o hc e n => u.free b o e n hc) (fun b o hc e => u.there b o e hc) u.tups u.frzs u.tbls (fun m' hm => by
    obtain ⟨o', es', ep', ho', r'⟩ := hm
    rw [ho] at ho'; cases ho'
    exact ⟨_, es', ep', hL, r'⟩) hok hg
/-- an untracked record of ours (an iterator) has turned -/
theorem Inv.turned {t' : Nat} {it : Addr} (I : Inv X pins σ H s) (k : ∀ b o, b ≠ it → s.heap.get? b = some o → h'.get? b = some o) (hn : H it = none) (hL : it ≠ X.env.locals)
    (h1 : it ∈ X.ex ∨ X.s₀.heap.objs.size ≤ it) (h2 : ∀ x c, X.env.cells.lookup x = some c → c ≠ it) (h3 : ∀ p ∈ X.pn ++ pins, p.1 ≠ it) : Inv X pins σ H { s with heap := h', toks := t' } := by
  have nit : ∀ b u, H b = some u → b ≠ it := fun b u e z => by rw [z, hn] at e; cases e
  refine I.step (g' := s.gens) (d' := s.drawn) (ch := [it]) (fun b hb => ?_) (fun b o _ _ hc e _ => k b o (fun z => hc (by simp [z])) e) (fun b o _ _ hc e _ => ⟨o.slots, k b o (fun z => hc (by simp [z])) e⟩) (fun _ _ _ _ n => n)
    (fun b o hc e => ⟨o, k b o (fun z => hc (by simp [z])) e⟩) (fun _ _ e => e) (fun _ _ _ e => e) (fun b ps e => ⟨#[], by rw [e]; simp⟩) (fun m hm => ?_) (fun b u e => ?_) I.bare
  · have e : b = it := by simpa using hb
    subst e
    exact ⟨h1, hL, h2, h3⟩
  · obtain ⟨o, es, ep, ho, r⟩ := hm
    exact ⟨o, es, ep, k _ o (Ne.symm hL) ho, r⟩
  · refine (I.hok b u e).stay (fun c v hc q => k c v ?_ q) (fun _ q => q) fun _ _ q => q
    rcases hc with z | z
    · rw [z]; exact nit b u e
    · exact nit c _ z
theorem Inv.tok (I : Inv X pins σ H s) (t : Nat) : Inv X pins σ H { s with toks := t } := I.un (h' := s.heap) (t' := t) Un.refl I.hok
/-- all objects kept -/
theorem Inv.kept {t' : Nat} (I : Inv X pins σ H s) (k : ∀ b u, s.heap.get? b = some u → h'.get? b = some u) : Inv X pins σ H { s with heap := h', toks := t' } := I.un (Un.kept k) (I.hok.kept k)
/-- a new object laid and tracked -/
theorem Inv.laid {a : Addr} {o : HO} {t' : Nat} (I : Inv X pins σ H s) (k : ∀ b u, s.heap.get? b = some u → h'.get? b = some u) (hp : s.heap.objs.size ≤ a) (new : ObjOk X.prog X.w (upd H a o) h' a o) :
    Inv X pins σ (upd H a o) { s with heap := h', toks := t' } := I.un (Un.laid k hp (I.hok.fresh hp)) (I.hok.laid k hp new)
/-- an object written -/
theorem Inv.write {x e : Addr} {o : HO} {t' : Nat} (I : Inv X pins σ H s) (mu : Mut (H x)) (he : e = x ∨ H e = some (.own x)) (k : ∀ b u, b ≠ e → s.heap.get? b = some u → h'.get? b = some u) (heo : ∃ u, h'.get? e = some u)
    (new : ObjOk X.prog X.w (upd H x o) h' x o) : Inv X pins σ (upd H x o) { s with heap := h', toks := t' } := I.un (Un.write mu he k heo) (I.hok.write mu he k heo new)
theorem Inv.pins_of {pins' : List (Addr × Obj)} (I : Inv X pins σ H s) (h : ∀ p ∈ pins', s.heap.get? p.1 = some p.2 ∧ H p.1 = none ∧ p.1 ≠ X.env.locals ∧ p.1 ∉ X.fs ∧ ∀ v, p.2.data ≠ .cell v) : Inv X pins' σ H s :=
  ⟨I.ok, I.os, I.bare, I.base, I.loc, I.cell, I.free, I.freeC, fun p hp => (List.mem_append.mp hp).elim (fun z => I.pin p (List.mem_append_left _ z)) (h p), I.hok, I.len⟩

theorem nodup_ix {N : List Str} (hN : N.Nodup) {i j : Nat} {x : Str} (a : N[i]? = some x) (b : N[j]? = some x) : i = j := by
  obtain ⟨h1, e1⟩ := List.getElem?_eq_some_iff.mp a
  obtain ⟨h2, e2⟩ := List.getElem?_eq_some_iff.mp b
  exact (List.getElem_inj hN).mp (e1.trans e2.symm)

/-- a name is stored; what changed -/
theorem store_ok2 {M : Model} {A : Around} {E : Value → Shared → Prop} {i : Nat} {x : Str} {v : V} {u : Value} {Q : Unit → Shared → Prop} (I : Inv X pins σ H s) (hN : X.N.Nodup) (hi : X.N[i]? = some x) (hx : Loc X.env.scope x) (r : RelV v u)
    (h : ∀ s', Inv X pins (σ.set i (some v)) H s' → (∃ a, Heap.SameBut a s.heap s'.heap ∧ (a = X.env.locals ∨ X.env.cells.lookup x = some a)) → Q () s') (hf : X.fn x = true ∨ X.env.scope.names.lookup x = some .local := by first | exact .inl rfl | exact .inr rfl | assumption) : wpAny M A (storeName X.env x u) Q E s := by
  obtain ⟨m, hn, hl⟩ := id I.loc
  have hcls : (X.env.scope.kind == .class || (X.env.scope.kind == .module && X.env.locals != X.env.globals)) = false := by rw [I.ok.kind]; rfl
  have hiσ : i < σ.length := by rw [I.len]; exact (List.getElem?_eq_some_iff.mp hi).1
  have cne := I.cne
  have tracked : ∀ {a : Addr} {h' : Heap}, (∃ o, s.heap.get? a = some o ∧ H a = none) → Heap.SameBut a s.heap h' → HOk X.prog X.w H h' := fun {a h'} ha hs b ob e => by
    obtain ⟨_, _, hfree⟩ := ha
    refine (I.hok b ob e).stay (fun c w' hc q => (hs.2 c ?_).trans q) (fun _ q => q) fun _ _ q => q
    rintro rfl
    rcases hc with rfl | hc
    · rw [hfree] at e; cases e
    · rw [hfree] at hc; cases hc
  rcases hx with hk | hk
  · refine wpAny_storeName_local hk hn (fun h' hn' hs => ?_) hcls
    obtain ⟨oL, _, _, hoL, _⟩ := id hn
    refine h _ ⟨I.ok, I.os, I.bare, ⟨fun b o e n hb hx => ?_, fun b o e n hb hx => ?_, I.base.free, fun b o e hx => ?_, I.base.tups, I.base.frzs, I.base.tbls⟩, ⟨_, hn', fun j y v' e1 e2 e3 => ?_⟩, fun y c e => ?_, I.free, I.freeC, fun p hp => ?_, tracked ⟨oL, hoL, I.free⟩ hs, by simpa using I.len⟩ ⟨_, hs, .inl rfl⟩
    · exact (hs.2 b (Nat.ne_of_lt (Nat.lt_of_lt_of_le (Heap.lt_size e) I.ok.above))).trans (I.base.keep b o e n hb hx)
    · obtain ⟨sl, e1⟩ := I.base.slot b o e n hb hx
      exact ⟨sl, (hs.2 b (Nat.ne_of_lt (Nat.lt_of_lt_of_le (Heap.lt_size e) I.ok.above))).trans e1⟩
    · obtain ⟨o', e1⟩ := I.base.there b o e hx
      exact ⟨o', (hs.2 b (Nat.ne_of_lt (Nat.lt_of_lt_of_le (Heap.lt_size e) I.ok.above))).trans e1⟩
    · by_cases hj : j = i
      · subst hj
        rw [hi] at e1; cases e1
        rw [List.getElem?_set_self hiσ] at e2
        cases e2
        exact ⟨u, r, .inl ⟨hk, by simp⟩⟩
      · rw [List.getElem?_set_ne (Ne.symm hj)] at e2
        obtain ⟨u', r', q⟩ := hl j y v' e1 e2 e3
        refine ⟨u', r', ?_⟩
        rcases q with ⟨k, e⟩ | ⟨k, c, e, z⟩
        · refine .inl ⟨k, ?_⟩
          have : y ≠ x := fun e => hj (nodup_ix hN e1 (e ▸ hi))
          simp [this, e]
        · exact .inr ⟨k, c, e, z.sameBut hs (cne y c e)⟩
    · obtain ⟨w', z⟩ := I.cell y c e
      exact ⟨w', z.sameBut hs (cne y c e)⟩
    · obtain ⟨e, n, ne, nf, d⟩ := I.pin p hp
      exact ⟨(hs.2 p.1 ne).trans e, n, ne, nf, d⟩
  · have hfn : X.fn x = true := by
      rcases hf with z | z
      · exact z
      · rw [z] at hk; cases hk
    obtain ⟨c, hc⟩ := I.ok.has x (.inl hk)
    obtain ⟨w', z⟩ := I.cell x c hc
    refine wpAny_storeName_cell I.ok.kind hk hc z (fun h' hc' hs => ?_)
    obtain ⟨oc, hoc, hocd⟩ := id z
    refine h { s with heap := h' } ⟨I.ok, I.os, I.bare, ⟨fun b o e n hb hx => ?_, fun b o e n hb hx => ?_, I.base.free, fun b o e hx => ?_, I.base.tups, I.base.frzs, I.base.tbls⟩, ⟨m, hn.sameBut hs (Ne.symm (cne x c hc)), fun j y v' e1 e2 e3 => ?_⟩, fun y c' e => ?_, I.free, I.freeC, fun p hp => ?_, tracked ⟨oc, hoc, I.freeC x c hc⟩ hs, by simpa using I.len⟩ ⟨c, hs, .inr hc⟩
    · exact (hs.2 b (Nat.ne_of_lt (Nat.lt_of_lt_of_le (Heap.lt_size e) (I.ok.cab x c hfn hc)))).trans (I.base.keep b o e n hb hx)
    · obtain ⟨sl, e1⟩ := I.base.slot b o e n hb hx
      exact ⟨sl, (hs.2 b (Nat.ne_of_lt (Nat.lt_of_lt_of_le (Heap.lt_size e) (I.ok.cab x c hfn hc)))).trans e1⟩
    · obtain ⟨o', e1⟩ := I.base.there b o e hx
      exact ⟨o', (hs.2 b (Nat.ne_of_lt (Nat.lt_of_lt_of_le (Heap.lt_size e) (I.ok.cab x c hfn hc)))).trans e1⟩
    · by_cases hj : j = i
      · subst hj
        rw [hi] at e1; cases e1
        rw [List.getElem?_set_self hiσ] at e2
        cases e2
        exact ⟨u, r, .inr ⟨.inl hk, c, hc, hc'⟩⟩
      · rw [List.getElem?_set_ne (Ne.symm hj)] at e2
        obtain ⟨u', r', q⟩ := hl j y v' e1 e2 e3
        refine ⟨u', r', ?_⟩
        rcases q with q | ⟨k, c', e, z'⟩
        · exact .inl q
        · refine .inr ⟨k, c', e, z'.sameBut hs ?_⟩
          rintro rfl
          exact hj (nodup_ix hN e1 (I.ok.inj _ _ _ e hc ▸ hi))
    · by_cases hcc : c' = c
      · subst hcc; exact ⟨_, hc'⟩
      · obtain ⟨w2, z2⟩ := I.cell y c' e
        exact ⟨w2, z2.sameBut hs hcc⟩
    · obtain ⟨e, n, ne, nf, d⟩ := I.pin p hp
      refine ⟨(hs.2 p.1 ?_).trans e, n, ne, nf, d⟩
      intro q
      rw [q, hoc] at e
      have q' : oc = p.2 := Option.some.inj e
      exact d w' (by rw [← q']; exact hocd)
theorem store_ok {M : Model} {A : Around} {E : Value → Shared → Prop} {i : Nat} {x : Str} {v : V} {u : Value} {Q : Unit → Shared → Prop} (I : Inv X pins σ H s) (hN : X.N.Nodup) (hi : X.N[i]? = some x) (hx : Loc X.env.scope x) (r : RelV v u)
    (h : ∀ s', Inv X pins (σ.set i (some v)) H s' → Q () s') (hf : X.fn x = true ∨ X.env.scope.names.lookup x = some .local := by first | exact .inl rfl | exact .inr rfl | assumption) : wpAny M A (storeName X.env x u) Q E s :=
  store_ok2 I hN hi hx r (fun s' I' _ => h s' I') hf
/-- behind a call or a block, the state as it is -/
theorem Inv.call' {s' : Shared} {ch : List Addr} (I : Inv X pins σ H s) (ho : s'.os = s.os) (u : Un (frs X.stack) ch H H' s.heap s'.heap) (hok : HOk X.prog X.w H' s'.heap) (hg : AllBare s'.gens)
    (hch : ∀ b ∈ ch, (b ∈ X.ex ∨ X.s₀.heap.objs.size ≤ b) ∧ b ≠ X.env.locals ∧ (∀ x c, X.env.cells.lookup x = some c → c ≠ b) ∧ ∀ p ∈ X.pn ++ pins, p.1 ≠ b) : Inv X pins σ H' s' := by
  obtain ⟨h', g', d', t', o'⟩ := s'
  have e : o' = s.os := ho
  subst e
  exact I.call (g' := g') (t' := t') (d' := d') u hok hg hch
end

/-! ### the judgements -/
/-- an exception: its class, its own dict's address (where it has one), the abstract heap behind it -/
abbrev XK := Value → Option Addr → Hp → Prop
abbrev St := List (Option V)
abbrev VK := V → Hp → Prop
/-- an expression's reading; a test's; an argument list's -/
abbrev TE := St → Hp → VK → Prop
abbrev TT := St → Hp → (Bool → Hp → Prop) → Prop
abbrev TA := St → Hp → (List V → Hp → Prop) → Prop
/-- what is wanted behind a statement -/
structure Ends where
  nx : St → Hp → Prop
  rt : VK
  bk : St → Hp → Prop := fun _ _ => False
  ct : St → Hp → Prop := fun _ _ => False
abbrev TS := Ends → St → Hp → Prop

def EP (X : Cx) (pins : List (Addr × Obj)) (σ : St) (Q : VK) (u : Value) (s' : Shared) : Prop := ∃ v H', Inv X pins σ H' s' ∧ RelV v u ∧ Q v H'
def TP (X : Cx) (pins : List (Addr × Obj)) (σ : St) (Q : Bool → Hp → Prop) (b : Bool) (s' : Shared) : Prop := ∃ H', Inv X pins σ H' s' ∧ Q b H'
def AP (X : Cx) (pins : List (Addr × Obj)) (σ : St) (Q : List V → Hp → Prop) (us : List Value) (s' : Shared) : Prop := ∃ vs H', Inv X pins σ H' s' ∧ Vals vs us ∧ Q vs H'
def SP (X : Cx) (pins : List (Addr × Obj)) (D : Ends) (f : Flow) (s' : Shared) : Prop :=
  match f with
  | .next => ∃ σ' H', Inv X pins σ' H' s' ∧ D.nx σ' H'
  | .brk => ∃ σ' H', Inv X pins σ' H' s' ∧ D.bk σ' H'
  | .cont => ∃ σ' H', Inv X pins σ' H' s' ∧ D.ct σ' H'
  | .ret u => ∃ v σ' H', Inv X pins σ' H' s' ∧ RelV v u ∧ D.rt v H'

def PE (X : Cx) (e : Expr) (t : TE) : Prop :=
  ∀ (pins : List (Addr × Obj)) (s : Shared) (σ : St) (H : Hp) (Q : VK), Inv X pins σ H s → t σ H Q → wpAny (model X.prog X.w) X.A (eval e X.env) (EP X pins σ Q) X.xe s
def PT (X : Cx) (e : Expr) (t : TT) : Prop :=
  ∀ (pins : List (Addr × Obj)) (s : Shared) (σ : St) (H : Hp) (Q : Bool → Hp → Prop), Inv X pins σ H s → t σ H Q → wpAny (model X.prog X.w) X.A (isTrue e X.env (eval e X.env)) (TP X pins σ Q) X.xe s
/-- an argument list (no star), from the left -/
def PA (X : Cx) (es : List Expr) (t : TA) : Prop :=
  ∀ (pos : Pos) (pins : List (Addr × Obj)) (s : Shared) (σ : St) (H : Hp) (Q : List V → Hp → Prop), Inv X pins σ H s → t σ H Q → wpAny (model X.prog X.w) X.A (spliced (backTo pos (starEach es X.env))) (AP X pins σ Q) X.xe s
def PS (X : Cx) (st : Stmt) (t : TS) : Prop :=
  ∀ (pins : List (Addr × Obj)) (s : Shared) (σ : St) (H : Hp) (D : Ends), Inv X pins σ H s → t D σ H → wpAny (model X.prog X.w) X.A (exec st X.env) (SP X pins D) X.xe s
def PSs (X : Cx) (st : List Stmt) (t : TS) : Prop :=
  ∀ (pins : List (Addr × Obj)) (s : Shared) (σ : St) (H : Hp) (D : Ends), Inv X pins σ H s → t D σ H → wpAny (model X.prog X.w) X.A (execs st X.env) (SP X pins D) X.xe s
/-- weaken the end -/
theorem thn {α : Type} {t : Sem α} {Q Q' : α → Shared → Prop} {M : Model} {A : Around} {E : Value → Shared → Prop} {s : Shared} (h : wpAny M A t Q E s) (hQ : ∀ a s, Q a s → Q' a s) : wpAny M A t Q' E s := wpAny_mono h hQ fun _ _ x => x
end L2

namespace L2
open PySem PySem.Spec PyProof.Rows
section
variable {X : Cx}

/-! ### names and constants -/
def tVar (i : Nat) : TE := fun σ H Q => ∃ v, σ[i]? = some (some v) ∧ Q v H
def tC (v : V) : TE := fun _ H Q => Q v H
theorem pe_var {i : Nat} {x : Str} {pos : Pos} (hN : X.N[i]? = some x) (hv : Vis X.env.scope x) (hd : (x == ("__debug__" : Str)) = false := by decide) (hcd : (x == ("__classdict__" : Str)) = false := by decide) : PE X (.Name x pos) (tVar i) := by
  intro pins s σ H Q I h
  obtain ⟨v, e, h⟩ := h
  obtain ⟨m, hn, hl⟩ := I.loc
  obtain ⟨u, r, l⟩ := hl i x v hN e hv
  have fin : EP X pins σ Q u s := ⟨v, H, I, r, h⟩
  rcases l with ⟨hk, hm⟩ | ⟨hk, c, hc, hcell⟩
  · exact wpAny_Name (wpAny_loadName_local I.ok.kind hk hn hm fin) hd
  · rcases hk with hk | hk
    · exact wpAny_Name (wpAny_loadName_cell I.ok.kind hk hc hcell fin) hd
    · exact wpAny_Name (wpAny_loadName_free I.ok.kind hk hc hcell fin hcd) hd
theorem pe_int {i j pos} : PE X (.Constant (.int i) j pos) (tC (.int i)) := fun _ _ _ H _ I h => wpAny_Constant_int ⟨.int i, H, I.tok _, ⟨_, rfl⟩, h⟩
theorem pe_bl {b j pos} : PE X (.Constant (.bool b) j pos) (tC (.bl b)) := fun _ _ _ H _ I h => Constant_bool ⟨.bl b, H, I, rfl, h⟩
theorem pe_non {j pos} : PE X (.Constant .none j pos) (tC .non) := fun _ _ _ H _ I h => Constant_none ⟨.non, H, I, rfl, h⟩
theorem pe_str {x j pos} : PE X (.Constant (.str x) j pos) (tC (.str x)) := fun _ _ _ H _ I h => Calls.Constant_str ⟨.str x, H, I.tok _, ⟨_, rfl⟩, h⟩

/-- a global name of the def -/
def Gl (X : Cx) (x : Str) : Prop := X.env.kindOf x = some .globalImplicit
theorem ld_glob {E : Value → Shared → Prop} {pins : List (Addr × Obj)} {s : Shared} {σ : St} {H : Hp} {x : Str} {u : Value} {pos : Pos} {Q : Value → Shared → Prop} (I : Inv X pins σ H s) (hg : Gl X x) (hm : X.mg x = some u) (h : Q u s)
    (hd : (x == ("__debug__" : Str)) = false := by decide) : wpAny (model X.prog X.w) X.A (eval (.Name x pos) X.env) Q E s :=
  Calls.Name_function_global I.ok.kind hg (Calls.loadGlobal_global (by rw [I.ok.glob]; exact I.mod.glob.keeps I.bk) hm h) hd
theorem ld_blt {E : Value → Shared → Prop} {pins : List (Addr × Obj)} {s : Shared} {σ : St} {H : Hp} {x : Str} {u : Value} {pos : Pos} {Q : Value → Shared → Prop} (I : Inv X pins σ H s) (hg : Gl X x) (hm : X.mg x = none) (hv : bootBuiltins x = some u) (h : Q u s)
    (hn : x ≠ "__name__" := by decide) (hd : (x == ("__debug__" : Str)) = false := by decide) : wpAny (model X.prog X.w) X.A (eval (.Name x pos) X.env) Q E s := by
  obtain ⟨mb, h1, h2⟩ := I.mod.blt
  exact Calls.Name_function_global I.ok.kind hg (Calls.loadGlobal_builtin (by rw [I.ok.glob]; exact I.mod.glob.keeps I.bk) hm (by rw [I.ok.blt]; exact h1.keeps I.bk) ((h2 x hn).trans hv) h) hd
/-- a module's constant, a class, a function, as a value -/
theorem pe_glob {x : Str} {v : V} {u : Value} {pos : Pos} (hg : Gl X x) (hm : X.mg x = some u) (r : RelV v u) (hd : (x == ("__debug__" : Str)) = false := by decide) : PE X (.Name x pos) (tC v) :=
  fun _ _ _ H _ I h => ld_glob I hg hm ⟨v, H, I, r, h⟩ hd
theorem pe_bltn {x : Str} {v : V} {u : Value} {pos : Pos} (hg : Gl X x) (hm : X.mg x = none) (hv : bootBuiltins x = some u) (r : RelV v u) (hn : x ≠ "__name__" := by decide) (hd : (x == ("__debug__" : Str)) = false := by decide) : PE X (.Name x pos) (tC v) :=
  fun _ _ _ H _ I h => ld_blt I hg hm hv ⟨v, H, I, r, h⟩ hn hd

/-! ### arithmetic -/
variable {a b : Expr} {ta tb : TE} {pos : Pos}
/-! ### comparisons -/
/-- a comparison as a value, as a test -/
def tB (t : TE) : TT := fun σ H Q => t σ H fun x H1 => ∃ c, x = .bl c ∧ Q c H1
/-- an expression whose value is a bool, as a test -/
theorem pt_val {e : Expr} {t : TE} (h : PE X e t) (he : ∀ whole, isTrue e X.env whole = (do let v ← whole; standAt e.pos; holding [v] (truthy v)) := by intro _; rfl) : PT X e (tB t) := by
  intro pins s σ H Q I hw
  refine isTrue_plain (thn (h pins s σ H _ I hw) fun v s1 ⟨x, H1, I1, r1, q1⟩ => ?_) (he _)
  obtain ⟨d, rfl, q⟩ := q1
  cases r1
  exact wpAny_truthy_bool ⟨H1, I1, q⟩

/-! ### and, or, not -/
variable {tA tB' : TT} {rest : List Expr}
def tAnd (t u : TT) : TT := fun σ H Q => t σ H fun c H1 => if c = true then u σ H1 Q else Q false H1
def tOr (t u : TT) : TT := fun σ H Q => t σ H fun c H1 => if c = true then Q true H1 else u σ H1 Q
def tNot (t : TT) : TT := fun σ H Q => t σ H fun c H1 => Q (!c) H1
theorem pt_not (ha : PT X a tA) : PT X (.UnaryOp .Not a pos) (tNot tA) := by
  intro pins s σ H Q I h
  exact isTrue_not (ha pins s σ H (fun c H1 => Q (!c) H1) I h)
/-- .. as values (bools) -/
def tAndV (ta tb : TE) : TE := fun σ H Q => ta σ H fun x H1 => ∃ c, x = .bl c ∧ if c = true then tb σ H1 Q else Q (.bl false) H1
def tOrV (ta tb : TE) : TE := fun σ H Q => ta σ H fun x H1 => ∃ c, x = .bl c ∧ if c = true then Q (.bl true) H1 else tb σ H1 Q
def tNotV (ta : TE) : TE := fun σ H Q => ta σ H fun x H1 => ∃ c, x = .bl c ∧ Q (.bl (!c)) H1
theorem pe_one {op} {t : TE} (h : PE X a t) : PE X (.BoolOp op [a] pos) t := fun pins s σ H Q I hw => BoolOp_one (h pins s σ H Q I hw)
theorem pe_and (ha : PE X a ta) (hb : PE X (.BoolOp .And (b :: rest) pos) tb) : PE X (.BoolOp .And (a :: b :: rest) pos) (tAndV ta tb) := by
  intro pins s σ H Q I h
  refine BoolOp_and (thn (ha pins s σ H _ I h) fun v s1 ⟨x, H1, I1, r1, q1⟩ => ?_)
  obtain ⟨c, rfl, q1⟩ := q1
  cases r1
  refine wpAny_truthy_bool ?_
  cases c with
  | true => exact hb pins s1 σ H1 Q I1 q1
  | false => exact ⟨.bl false, H1, I1, rfl, q1⟩
/-- a if t else b -/
def tIf (t : TT) (ta tb : TE) : TE := fun σ H Q => t σ H fun c H1 => if c = true then ta σ H1 Q else tb σ H1 Q
end
end L2

namespace L2
open PySem PySem.Spec PyProof.Rows

/-! ### a list, a tuple that is read: tracked, frozen, or an object of the module -/
def SqL (K : PySem.W.Frag) (H : Hp) (a : Addr) (xs : List V) : Prop :=
  Rd H a (.lst xs) ∨
    ∃ (o : Obj) (its : Array Value) (n : Nat), K.lookup a = some o ∧ o.cls = .type "list" ∧ o.dict = none ∧ o.data = .seq its n ∧ its.size ≤ sizeLine ∧ Vals xs its.toList
def SqT (K : PySem.W.Frag) (H : Hp) (a : Addr) (xs : List V) : Prop :=
  Rd H a (.tup xs) ∨
    ∃ (o : Obj) (its : Array Value) (n : Nat), K.lookup a = some o ∧ o.cls = .type "tuple" ∧ o.data = .seq its n ∧ its.size ≤ sizeLine ∧ Vals xs its.toList
def absV : Value → Option V
  | .none => some .non
  | .bool b => some (.bl b)
  | .int i _ => some (.int i)
  | .str x _ => some (.str x)
  | .bytes b _ => some (.byt b)
  | .float b _ => some (.flt b)
  | .ref a => some (.ref a)
  | .type n => some (.ty n)
  | _ => none
theorem RelV.abs {x : V} {u : Value} (r : RelV x u) : absV u = some x := by
  cases x with
  | non => cases r; rfl
  | bl _ => cases r; rfl
  | int _ => obtain ⟨t, rfl⟩ := r; rfl
  | str _ => obtain ⟨t, rfl⟩ := r; rfl
  | byt _ => obtain ⟨t, rfl⟩ := r; rfl
  | flt _ => obtain ⟨t, rfl⟩ := r; rfl
  | ref _ => cases r; rfl
  | ty _ => cases r; rfl
theorem RelV.inj {x y : V} {u : Value} (r : RelV x u) (q : RelV y u) : x = y := Option.some.inj (r.abs.symm.trans q.abs)
theorem Vals.inj : ∀ {xs ys : List V} {us : List Value}, Vals xs us → Vals ys us → xs = ys
  | _, _, _, .nil, .nil => rfl
  | _, _, _, .cons r t, .cons r' t' => by rw [r.inj r', Vals.inj t t']
section
variable {X : Cx} {pins : List (Addr × Obj)} {σ : St} {H : Hp} {s : Shared} {a : Addr} {xs ys : List V}
theorem SqL.of {K : PySem.W.Frag} (h : H a = some (.lst xs)) : SqL K H a xs := .inl (.inl h)
theorem SqT.of {K : PySem.W.Frag} (h : H a = some (.tup xs)) : SqT K H a xs := .inl (.inl h)
theorem Inv.list (I : Inv X pins σ H s) (h : SqL X.K H a xs) : ∃ its : List Value, Vals xs its ∧ PlainL s.heap a its.toArray ∧ xs.length ≤ sizeLine := by
  rcases h with h | ⟨o, its, n, hk, hc, hd, hs, hz, r⟩
  · obtain ⟨z, its, n, r, e⟩ := h.ok I.hok
    exact ⟨its, r, ⟨_, n, e, rfl, rfl, rfl⟩, z⟩
  · refine ⟨its.toList, r, ⟨o, n, I.kIn a o hk, hc, hd, by simpa using hs⟩, ?_⟩
    have e := r.length
    simp only [Array.length_toList] at e
    omega
theorem Inv.tuple (I : Inv X pins σ H s) (h : SqT X.K H a xs) : ∃ its : List Value, Vals xs its ∧ IsTup s.heap a its.toArray ∧ xs.length ≤ sizeLine := by
  rcases h with h | ⟨o, its, n, hk, hc, hs, hz, r⟩
  · obtain ⟨z, its, r, p⟩ := h.ok I.hok
    exact ⟨its, r, p, z⟩
  · refine ⟨its.toList, r, ⟨o, I.kIn a o hk, hc, n, by simpa using hs⟩, ?_⟩
    have e := r.length
    simp only [Array.length_toList] at e
    omega
theorem Inv.list_inj (I : Inv X pins σ H s) (h : SqL X.K H a xs) (h' : SqL X.K H a ys) : xs = ys := by
  obtain ⟨its, r, ⟨o, n, e, _, _, d⟩, _⟩ := I.list h
  obtain ⟨its', r', ⟨o', n', e', _, _, d'⟩, _⟩ := I.list h'
  rw [e] at e'; cases e'
  rw [d] at d'
  injection d' with d1 _
  have : its = its' := by simpa using congrArg Array.toList d1
  subst this
  exact r.inj r'
end

/-! ### another wish about exceptions -/
abbrev Cx.wish (X : Cx) (E : Value → Shared → Prop) : Cx := { X with xe := E }
/-- no exception leaves -/
abbrev Cx.nox (X : Cx) : Cx := X.wish fun _ _ => False
theorem Cx.Ok.wish {X : Cx} (ok : X.Ok) (E : Value → Shared → Prop) : (X.wish E).Ok :=
  ⟨ok.mod, ok.kind, ok.glob, ok.blt, ok.above, ok.inj, ok.has, ok.cab, ok.hd, ok.frames, ok.stk, ok.exf, ok.bs, ok.bsz, ok.noex, ok.exfs, ok.funs, ok.frf⟩
theorem Cx.Ok.unwish {X : Cx} {E : Value → Shared → Prop} (ok : (X.wish E).Ok) : X.Ok :=
  ⟨ok.mod, ok.kind, ok.glob, ok.blt, ok.above, ok.inj, ok.has, ok.cab, ok.hd, ok.frames, ok.stk, ok.exf, ok.bs, ok.bsz, ok.noex, ok.exfs, ok.funs, ok.frf⟩
section
variable {X : Cx} {pins : List (Addr × Obj)} {σ : St} {H : Hp} {s : Shared} {E : Value → Shared → Prop}
theorem Inv.wish (I : Inv X pins σ H s) (E : Value → Shared → Prop) : Inv (X.wish E) pins σ H s := ⟨I.ok.wish E, I.os, I.bare, I.base, I.loc, I.cell, I.free, I.freeC, I.pin, I.hok, I.len⟩
theorem Inv.unwish (I : Inv (X.wish E) pins σ H s) : Inv X pins σ H s := ⟨I.ok.unwish, I.os, I.bare, I.base, I.loc, I.cell, I.free, I.freeC, I.pin, I.hok, I.len⟩
theorem SP.unwish {D : Ends} {f : Flow} {s' : Shared} (h : SP (X.wish E) pins D f s') : SP X pins D f s' := by
  cases f with
  | next => obtain ⟨σ', H', I, q⟩ := h; exact ⟨σ', H', I.unwish, q⟩
  | brk => obtain ⟨σ', H', I, q⟩ := h; exact ⟨σ', H', I.unwish, q⟩
  | cont => obtain ⟨σ', H', I, q⟩ := h; exact ⟨σ', H', I.unwish, q⟩
  | ret u => obtain ⟨v, σ', H', I, r, q⟩ := h; exact ⟨v, σ', H', I.unwish, r, q⟩
theorem PE.nox {e : Expr} {t : TE} (h : PE X.nox e t) : PE X e t := fun pins s σ H Q I hw =>
  wpAny_mono (h pins s σ H Q (I.wish _) hw) (fun _ _ ⟨v, H', I', r, q⟩ => ⟨v, H', I'.unwish, r, q⟩) fun _ _ z => False.elim z
theorem PT.nox {e : Expr} {t : TT} (h : PT X.nox e t) : PT X e t := fun pins s σ H Q I hw =>
  wpAny_mono (h pins s σ H Q (I.wish _) hw) (fun _ _ ⟨H', I', q⟩ => ⟨H', I'.unwish, q⟩) fun _ _ z => False.elim z
theorem PSs.nox {st : List Stmt} {t : TS} (h : PSs X.nox st t) : PSs X st t := fun pins s σ H D I hw =>
  wpAny_mono (h pins s σ H D (I.wish _) hw) (fun _ _ q => q.unwish) fun _ _ z => False.elim z
end

/-! ### blocks and small statements -/
section
variable {X : Cx} {st : Stmt} {rest : List Stmt} {t u : TS} {e : Expr} {te : TE} {pos : Pos}
def tNext : TS := fun D σ H => D.nx σ H
def tSeq (t u : TS) : TS := fun D σ H => t { D with nx := u D } σ H
theorem pss_nil : PSs X [] tNext := fun _ _ σ H _ I h => wpAny_execs_nil ⟨σ, H, I, h⟩
theorem pss_cons (h1 : PS X st t) (h2 : PSs X rest u) : PSs X (st :: rest) (tSeq t u) := by
  intro pins s σ H D I h
  refine wpAny_execs_cons (thn (h1 pins s σ H { D with nx := u D } I h) fun f s1 q => ?_)
  cases f with
  | next =>
    obtain ⟨σ', H', I', q⟩ := q
    exact h2 pins s1 σ' H' D I' q
  | ret v => exact q
  | brk => exact q
  | cont => exact q
theorem pss_one (h1 : PS X st t) : PSs X [st] t := by
  intro pins s σ H D I h
  refine wpAny_execs_cons (thn (h1 pins s σ H D I h) fun f s1 q => ?_)
  cases f with
  | next => exact wpAny_execs_nil q
  | ret v => exact q
  | brk => exact q
  | cont => exact q
/-- in a def's body nothing is shown -/
theorem Inv.quiet {pins : List (Addr × Obj)} {σ : St} {H : Hp} {s : Shared} (I : Inv X pins σ H s) : interactive X.env = false := by simp [interactive, I.ok.kind]
/-- an expression whose value is dropped -/
def tDrop (te : TE) : TS := fun D σ H => te σ H fun _ H1 => D.nx σ H1
theorem ps_expr (he : PE X e te) (hs : swapsWith e none pos.line X.env = pure false := by rfl) : PS X (.Expr e pos) (tDrop te) := by
  intro pins s σ H D I h
  exact wpAny_Expr_any (thn (he pins s σ H _ I h) fun v s1 ⟨x, H1, I1, r1, q1⟩ => ⟨σ, H1, I1, q1⟩) I.quiet hs
def tRet (te : TE) : TS := fun D σ H => te σ H D.rt
theorem ps_ret (he : PE X e te) : PS X (.Return (some e) pos) (tRet te) := by
  intro pins s σ H D I h
  exact wpAny_Return_some (thn (he pins s σ H _ I h) fun v s1 ⟨x, H1, I1, r1, q1⟩ => ⟨x, σ, H1, I1, r1, q1⟩)
def tRetN : TS := fun D _ H => D.rt .non H
def tIfS (c : TT) (t u : TS) : TS := fun D σ H => c σ H fun b H1 => if b = true then t D σ H1 else u D σ H1
theorem ps_if {c : Expr} {a b : List Stmt} {tc : TT} (hc : PT X c tc) (ha : PSs X a t) (hb : PSs X b u) : PS X (.If c a b pos) (tIfS tc t u) := by
  intro pins s σ H D I h
  refine wpAny_If (thn (hc pins s σ H _ I h) fun d s1 ⟨H1, I1, q1⟩ => ?_)
  cases d with
  | true => exact ha pins s1 σ H1 D I1 q1
  | false => exact hb pins s1 σ H1 D I1 q1
end

/-! ### targets -/
abbrev TG := V → St → Hp → (St → Hp → Prop) → Prop
abbrev TGs := List V → St → Hp → (St → Hp → Prop) → Prop
def PG (X : Cx) (target : Expr) (t : TG) : Prop :=
  ∀ (pins : List (Addr × Obj)) (s : Shared) (σ : St) (H : Hp) (v : V) (u : Value) (Q : St → Hp → Prop), Inv X pins σ H s → RelV v u → t v σ H Q →
    wpAny (model X.prog X.w) X.A (assign target X.env u) (fun _ s' => ∃ σ' H', Inv X pins σ' H' s' ∧ Q σ' H') X.xe s
/-- o[i] = v, by values -/
abbrev TSet := V → V → V → Hp → (Hp → Prop) → Prop
/-- a op= b, by values -/
abbrev TIp := V → V → Hp → VK → Prop
def PIp (X : Cx) (op : Operator) (t : TIp) : Prop :=
  ∀ (pins : List (Addr × Obj)) (s : Shared) (σ : St) (H : Hp) (x y : V) (v u : Value) (Q : VK), Inv X pins σ H s → RelV x v → RelV y u → t x y H Q →
    wpAny (model X.prog X.w) X.A (inplaceOp op v u) (EP X pins σ Q) X.xe s
section
variable {X : Cx} {pos : Pos}
def gName (i : Nat) : TG := fun v σ H Q => Q (σ.set i (some v)) H
theorem pg_name {i : Nat} {x : Str} (hN : X.N.Nodup) (hi : X.N[i]? = some x) (hx : Loc X.env.scope x) (hf : X.fn x = true ∨ X.env.scope.names.lookup x = some .local := by first | exact .inl rfl | exact .inr rfl | assumption) : PG X (.Name x pos) (gName i) := by
  intro pins s σ H v u Q I r h
  exact wpAny_assign_Name (store_ok I hN hi hx r (fun s' I' => ⟨_, H, I', h⟩) hf)
def gNil : TGs := fun vs σ H Q => vs = [] ∧ Q σ H
def gCons (t : TG) (u : TGs) : TGs := fun vs σ H Q => ∃ v r, vs = v :: r ∧ t v σ H fun σ' H' => u r σ' H' Q
/-- (a, b, ..) = a tuple of that length -/
def gTup (K : PySem.W.Frag) (n : Nat) (t : TGs) : TG := fun v σ H Q => ∃ a xs, v = .ref a ∧ SqT K H a xs ∧ xs.length = n ∧ t xs σ H Q
/-- o[i] = .. -/
def gSub (to ti : TE) (t : TSet) : TG := fun v σ H Q => to σ H fun o H1 => ti σ H1 fun i H2 => t o i v H2 fun H3 => Q σ H3
/-- target = value -/
def tAsg (te : TE) (g : TG) : TS := fun D σ H => te σ H fun x H1 => g x σ H1 D.nx
/-- name = value -/
theorem ps_set {i : Nat} {x : Str} {e : Expr} {te : TE} {pos' : Pos} (hN : X.N.Nodup) (hi : X.N[i]? = some x) (hx : Loc X.env.scope x) (he : PE X e te) (hs : swapsWith e (some (.Name x pos')) pos.line X.env = pure false := by rfl) (hf : X.fn x = true ∨ X.env.scope.names.lookup x = some .local := by first | exact .inl rfl | exact .inr rfl | assumption) :
    PS X (.Assign [.Name x pos'] e pos) (tAsg te (gName i)) := by
  intro pins s σ H D I h
  refine wpAny_Assign_Name (thn (he pins s σ H _ I h) fun v s1 ⟨y, H1, I1, r1, q1⟩ => ?_) hs
  exact store_ok I1 hN hi hx r1 (fun s2 I2 => ⟨_, H1, I2, q1⟩) hf
/-- name op= e -/
def tAug (i : Nat) (te : TE) (ti : TIp) : TS := fun D σ H => ∃ x, σ[i]? = some (some x) ∧ te σ H fun y H1 => ti x y H1 fun z H2 => D.nx (σ.set i (some z)) H2
theorem ps_aug {i : Nat} {x : Str} {e : Expr} {te : TE} {op : Operator} {ti : TIp} {pos' : Pos} (hN : X.N.Nodup) (hi : X.N[i]? = some x) (hx : Loc X.env.scope x) (he : PE X e te) (ho : PIp X op ti) (hf : X.fn x = true ∨ X.env.scope.names.lookup x = some .local := by first | exact .inl rfl | exact .inr rfl | assumption) :
    PS X (.AugAssign (.Name x pos') op e pos) (tAug i te ti) := by
  intro pins s σ H D I h
  obtain ⟨v, e1, h⟩ := h
  obtain ⟨m, hn, hl⟩ := I.loc
  have vis : Vis X.env.scope x := by rcases hx with k | k; exact .inl k; exact .inr (.inl k)
  obtain ⟨u, r, l⟩ := hl i x v hi e1 vis
  refine wpAny_AugAssign_Name ?_
  have go : wpAny (model X.prog X.w) X.A (eval e X.env) (fun w s₂ => wpAny (model X.prog X.w) X.A (inplaceOp op u w) (fun r s₃ => wpAny (model X.prog X.w) X.A (storeName X.env x r) (fun _ => SP X pins D .next) X.xe s₃) X.xe s₂) X.xe s := by
    refine thn (he pins s σ H _ I h) fun w s1 ⟨y, H1, I1, r1, q1⟩ => ?_
    refine thn (ho pins s1 σ H1 v y u w _ I1 r r1 q1) fun z s2 ⟨zv, H2, I2, r2, q2⟩ => ?_
    exact store_ok I2 hN hi hx r2 (fun s3 I3 => ⟨_, H2, I3, q2⟩) hf
  rcases l with ⟨hk, hm⟩ | ⟨hk, c, hc, hcell⟩
  · exact wpAny_loadName_local I.ok.kind hk hn hm go
  · rcases hk with hk | hk
    · exact wpAny_loadName_cell I.ok.kind hk hc hcell go
    · rcases hx with k | k
      · have : X.env.scope.names.lookup x = some .free := hk
        rw [k] at this; cases this
      · have : X.env.scope.names.lookup x = some .free := hk
        rw [k] at this; cases this
/-- ints -/
def ipI (f : Int → Int → Int) : TIp := fun x y H Q => ∃ i j, x = .int i ∧ y = .int j ∧ Q (.int (f i j)) H
theorem ip_add : PIp X .Add (ipI fun i j => i + j) := by
  intro pins s σ H x y v u Q I r1 r2 h
  obtain ⟨i, j, e1, e2, q⟩ := h
  subst e1; subst e2
  obtain ⟨t, rfl⟩ := r1
  obtain ⟨t', rfl⟩ := r2
  exact iadd_int ⟨.int _, H, I.tok _, ⟨_, rfl⟩, q⟩
end

/-! ### while -/
section
variable {X : Cx} {pos : Pos}
/-- the invariant W with its measure -/
def tWhile (c : TT) (tb : TS) : TS := fun D σ H => ∃ W : Nat → St → Hp → Prop, (∃ m, W m σ H) ∧ ∀ m σ H, W m σ H →
  c σ H fun b H1 => if b = true then ∃ N : St → Hp → Prop, (∀ σ' H', N σ' H' → ∃ m', m' < m ∧ W m' σ' H') ∧ tb { D with nx := N, ct := N, bk := D.nx } σ H1 else D.nx σ H1
theorem ps_while {c : Expr} {body : List Stmt} {tc : TT} {tb : TS} (hp : PassesOwn (model X.prog X.w) X.A X.env X.xe) (hc : PT X c tc) (hb : PSs X body tb) : PS X (.While c body [] pos) (tWhile tc tb) := by
  intro pins s σ H D I h
  obtain ⟨W, ⟨m0, w0⟩, turn⟩ := h
  refine wpAny_While (codeAny_whileLoop (fun n s' => ∃ σ' H', Inv X pins σ' H' s' ∧ W n σ' H') ?_ m0 ⟨σ, H, I, w0⟩)
  rintro n s1 ⟨σ1, H1, I1, w1⟩
  refine wpAny_passesOwn hp (thn (hc pins s1 σ1 H1 _ I1 (turn n σ1 H1 w1)) fun b s2 ⟨H2, I2, q2⟩ => ?_)
  cases b with
  | true =>
    obtain ⟨N, hN, q2⟩ := q2
    rw [if_pos rfl]
    refine wpAny_passesOwn hp (thn (hb pins s2 σ1 H2 _ I2 q2) fun f s3 q3 => ?_)
    cases f with
    | next =>
      obtain ⟨σ3, H3, I3, n3⟩ := q3
      obtain ⟨m', hm, w3⟩ := hN σ3 H3 n3
      exact ⟨m', hm, σ3, H3, I3, w3⟩
    | cont =>
      obtain ⟨σ3, H3, I3, n3⟩ := q3
      obtain ⟨m', hm, w3⟩ := hN σ3 H3 n3
      exact ⟨m', hm, σ3, H3, I3, w3⟩
    | brk => exact q3
    | ret v => exact q3
  | false =>
    rw [if_neg Bool.false_ne_true]
    exact wpAny_execs_nil ⟨σ1, H2, I2, q2⟩
end

/-! ### what a loop or a comprehension walks -/
/-- at turn i: it yields x (the heap may grow), or it stops -/
structure It where
  go : Nat → Hp → Prop
  yld : Nat → Hp → V → Hp → Prop
  stop : Nat → Hp → Prop
/-- the iterator's own objects may turn: they are not the frame's, not pinned, younger than the entry (or a comprehension's own) -/
def FpOk (X : Cx) (pins : List (Addr × Obj)) (H : Hp) (b : Addr) : Prop :=
  H b = none ∧ b ≠ X.env.locals ∧ b ∉ X.fs ∧ (b ∈ X.ex ∨ X.s₀.heap.objs.size ≤ b) ∧ (∀ x c, X.env.cells.lookup x = some c → c ≠ b) ∧ ∀ p ∈ X.pn ++ pins, p.1 ≠ b
theorem Inv.fpOk {X : Cx} {pins : List (Addr × Obj)} {σ : St} {H H' : Hp} {s : Shared} {b : Addr} (I : Inv X pins σ H s) (hb : s.heap.objs.size ≤ b) (hn : H' b = none) : FpOk X pins H' b := by
  refine ⟨hn, Nat.ne_of_gt (Nat.lt_of_lt_of_le I.lt hb), I.nofs hb, .inr (Nat.le_trans I.sz hb), fun x c e z => ?_, fun p hp z => ?_⟩
  · obtain ⟨v, q⟩ := I.cell x c e
    exact absurd (Nat.lt_of_lt_of_le q.lt (by rw [z]; exact hb)) (Nat.lt_irrefl _)
  · exact absurd (Nat.lt_of_lt_of_le (Heap.lt_size (I.pin p hp).1) (by rw [z]; exact hb)) (Nat.lt_irrefl _)
structure Turn (P : Program) (w : World) (K : PySem.W.Frag) (tg : Expr) (J : It) (fp : List Addr) (it : Addr) (tn : Nat → Heap → Prop) : Prop where
  mem : it ∈ fp
  obj : ∀ i h, tn i h → ∀ b ∈ fp, ∃ o, h.get? b = some o ∧ ∀ v, o.data ≠ .cell v
  keep : ∀ i h h', tn i h → (∀ b ∈ fp, ∀ o, h.get? b = some o → h'.get? b = some o) → tn i h'
  item : ∀ (X : Cx), X.prog = P → X.w = w → X.K = K → X.calm = true → ∀ (i : Nat) (pins : List (Addr × Obj)) (s : Shared) (σ : St) (H : Hp) (E : Value → Shared → Prop), Inv X pins σ H s → (∀ b ∈ fp, FpOk X pins H b) → tn i s.heap → J.go i H →
    wpAny (model P w) X.A (pyNext (.ref it)) (fun r s1 => ∃ u, r = some u ∧
      wpAny (model P w) X.A (letOwnedTupleGo tg (.ref it) u) (fun _ s2 => ∃ x H', Inv X pins σ H' s2 ∧ RelV x u ∧ J.yld i H x H' ∧ tn (i + 1) s2.heap ∧ ∀ b ∈ fp, H' b = none) E s1) E s
  done : ∀ (X : Cx), X.prog = P → X.w = w → X.K = K → X.calm = true → ∀ (i : Nat) (pins : List (Addr × Obj)) (s : Shared) (σ : St) (H : Hp) (E : Value → Shared → Prop), Inv X pins σ H s → (∀ b ∈ fp, FpOk X pins H b) → tn i s.heap → J.stop i H →
    wpAny (model P w) X.A (pyNext (.ref it)) (fun r s1 => r = none ∧ Inv X pins σ H s1) E s
  self : ∀ (A : Around) (i : Nat) (s : Shared) (Q : Value → Shared → Prop) (E : Value → Shared → Prop), tn i s.heap → Q (.ref it) s → wpAny (model P w) A (pyIter (.ref it)) Q E s
abbrev TI := St → Hp → (It → Hp → Prop) → Prop
/-- an iterator has come -/
def PIE (X : Cx) (pins : List (Addr × Obj)) (σ : St) (tg : Expr) (R : It → Hp → Prop) (itv : Value) (s2 : Shared) : Prop :=
  ∃ (it : Addr) (fp : List Addr) (tn : Nat → Heap → Prop) (J : It) (H' : Hp), itv = .ref it ∧ Inv X pins σ H' s2 ∧ Turn X.prog X.w X.K tg J fp it tn ∧ tn 0 s2.heap ∧ (∀ b ∈ fp, FpOk X pins H' b) ∧ R J H'
def PI (X : Cx) (tg iter : Expr) (wi : TI) : Prop :=
  ∀ (pins : List (Addr × Obj)) (s : Shared) (σ : St) (H : Hp) (R : It → Hp → Prop), Inv X pins σ H s → wi σ H R →
    wpAny (model X.prog X.w) X.A (eval iter X.env) (fun v s1 => wpAny (model X.prog X.w) X.A (pyIter v) (PIE X pins σ tg R) X.xe s1) X.xe s

/-- the step ahead of the store is nothing for an iterator that keeps no tuple -/
theorem go_of {M : Model} {A : Around} {E : Value → Shared → Prop} {s : Shared} {tg : Expr} {it : Addr} {u : Value} {o : Obj} {n : String} {vs : Array Value} {Q : Unit → Shared → Prop} (ho : s.heap.get? it = some o) (hc : o.cls = .type n) (hd : o.data = .fields vs)
    (hn : ["enumerate", "zip", "dict_itemiterator", "dict_reverseitemiterator", "odict_iterator", "itertools.zip_longest", "itertools.pairwise"].contains n = false) (hQ : Q () s) : wpAny M A (letOwnedTupleGo tg (.ref it) u) Q E s := by
  unfold letOwnedTupleGo
  cases tg <;> first
    | exact wpAny_pure hQ
    | (cases u <;> first
        | exact wpAny_pure hQ
        | (refine wpAny_bind (wpAny_load ho ?_)
           rw [hc, hd]
           show wpAny M A (if (["enumerate", "zip", "dict_itemiterator", "dict_reverseitemiterator", "odict_iterator", "itertools.zip_longest", "itertools.pairwise"].contains n && vs[0]? == some (rawInt _)) = true then _ else _) Q E s
           rw [if_neg (by intro h; rw [hn, Bool.false_and] at h; cases h)]
           exact wpAny_pure hQ))

/-- the list at a, as it stands at each turn (a loop may append to it) -/
def Itl (K : PySem.W.Frag) (a : Addr) : It :=
  ⟨fun i H => ∃ xs x, SqL K H a xs ∧ xs[i]? = some x, fun i H x H' => H' = H ∧ ∀ xs, SqL K H a xs → xs[i]? = some x, fun i H => ∃ xs, SqL K H a xs ∧ xs.length ≤ i⟩
def Itt (K : PySem.W.Frag) (a : Addr) : It :=
  ⟨fun i H => ∃ xs x, SqT K H a xs ∧ xs[i]? = some x, fun i H x H' => H' = H ∧ ∀ xs, SqT K H a xs → xs[i]? = some x, fun i H => ∃ xs, SqT K H a xs ∧ xs.length ≤ i⟩
/-- lo, lo + 1, .. (n of them) -/
def Itr (lo : Int) (n : Nat) : It := ⟨fun i _ => i < n, fun i H x H' => H' = H ∧ x = .int (lo + i), fun i _ => n ≤ i⟩
theorem turn_list {P : Program} {w : World} {K : PySem.W.Frag} {tg : Expr} (a it : Addr) : Turn P w K tg (Itl K a) [it] it (fun i h => h.IsListIter it a i) where
  mem := by simp
  obj := fun i h st b hb => by
    have e : b = it := by simpa using hb
    subst e
    obtain ⟨o, e, c, d⟩ := st
    exact ⟨o, e, fun v z => by rw [d] at z; cases z⟩
  keep := fun i h h' st k => st.at fun o e => k it (by simp) o e
  item := by
    intro X hP hw hK hc i pins s σ H E I hf st hg
    subst hP hw hK
    obtain ⟨xs, x, hq, hx⟩ := hg
    obtain ⟨its, rv, p, hz⟩ := I.list hq
    obtain ⟨u, hu, ru⟩ := rv.get hx
    obtain ⟨f0, f1, f2, f3, f4, f5⟩ := hf it (by simp)
    refine wpAny_pyNext_list_item st p.isList (x := u) (by simpa using hu) fun h' st' sb => ?_
    have I1 : Inv X pins σ H { s with heap := h' } := I.turned (t' := s.toks) (fun b o hb e => (sb.2 b hb).trans e) f0 f1 f3 f4 f5
    obtain ⟨o, e, c, d⟩ := id st'
    exact ⟨u, rfl, go_of (s := { s with heap := h' }) e c d (by decide) ⟨x, H, I1, ru, ⟨rfl, fun ys hy => by rw [I.list_inj hy hq]; exact hx⟩, st', fun b hb => (hf b hb).1⟩⟩
  done := by
    intro X hP hw hK hc i pins s σ H E I hf st hg
    subst hP hw hK
    obtain ⟨xs, hq, hx⟩ := hg
    obtain ⟨its, rv, p, hz⟩ := I.list hq
    obtain ⟨f0, f1, f2, f3, f4, f5⟩ := hf it (by simp)
    have hl := rv.length
    exact wpAny_pyNext_list_end (I.ok.hd hc) st p.isList (by simp; omega) fun h' eb => ⟨rfl, I.turned (t' := s.toks) (fun b o hb e => eb b o hb e) f0 f1 f3 f4 f5⟩
  self := fun _ _ _ _ _ st h => wpAny_pyIter_listiter st h
theorem turn_range {P : Program} {w : World} {K : PySem.W.Frag} {tg : Expr} (it : Addr) (lo : Int) (n : Nat) : Turn P w K tg (Itr lo n) [it] it (fun i h => IsRangeIter h it (lo + (i : Nat) * 1) ((n : Int) - (i : Nat)) 1) where
  mem := by simp
  obj := fun i h st b hb => by
    have e : b = it := by simpa using hb
    subst e
    exact ⟨_, st, fun v z => by
      have z' : Data.fields _ = Data.cell v := z
      cases z'⟩
  keep := fun i h h' st k => k it (by simp) _ st
  item := by
    intro X hP hw hK hc i pins s σ H E I hf st hg
    subst hP hw hK
    obtain ⟨f0, f1, f2, f3, f4, f5⟩ := hf it (by simp)
    have W := Walks.range (prog := X.prog) (w := X.w) (I.ok.hd hc) it lo 1 n
    refine W.item i s _ _ hg st fun v h' tk hv st' kk => ?_
    obtain ⟨t, rfl⟩ := hv
    have I1 : Inv X pins σ H { s with heap := h', toks := tk } := I.turned (fun b o hb e => kk b o (by simpa using hb) e) f0 f1 f3 f4 f5
    refine ⟨_, rfl, go_of (s := { s with heap := h', toks := tk }) (n := "range_iterator") st' rfl rfl (by decide) ⟨.int (lo + i), H, I1, ⟨t, ?_⟩, ⟨rfl, rfl⟩, st', fun b hb => (hf b hb).1⟩⟩
    rw [Int.mul_one]
  done := by
    intro X hP hw hK hc i pins s σ H E I hf st hg
    subst hP hw hK
    obtain ⟨f0, f1, f2, f3, f4, f5⟩ := hf it (by simp)
    exact wpAny_pyNext_range_end (I.ok.hd hc) st (by have : n ≤ i := hg; omega) fun h' eb => ⟨rfl, I.turned (t' := s.toks) (fun b o hb e => eb b o hb e) f0 f1 f3 f4 f5⟩
  self := fun _ _ _ _ _ st h => wpAny_pyIter_rangeiter st h
end L2

namespace L2
open PySem PySem.Spec PyProof.Rows
section
variable {X : Cx} {tg : Expr}
def iList (K : PySem.W.Frag) (tl : TE) : TI := fun σ H R => tl σ H fun x H1 => ∃ a, x = .ref a ∧ (∃ xs, SqL K H1 a xs) ∧ R (Itl K a) H1
def iTup (K : PySem.W.Frag) (tl : TE) : TI := fun σ H R => tl σ H fun x H1 => ∃ a, x = .ref a ∧ (∃ xs, SqT K H1 a xs) ∧ R (Itt K a) H1
theorem pi_list {l : Expr} {tl : TE} (hl : PE X l tl) : PI X tg l (iList X.K tl) := by
  intro pins s σ H R I h
  refine thn (hl pins s σ H _ I h) fun v s1 ⟨x, H1, I1, r1, q1⟩ => ?_
  obtain ⟨a, e, ⟨xs, hq⟩, q⟩ := q1
  subst e
  cases r1
  obtain ⟨its, rv, p, hz⟩ := I1.list hq
  refine wpAny_pyIter_list p.isList ?_
  refine ⟨s1.heap.objs.size, [s1.heap.objs.size], _, _, H1, rfl, I1.kept (t' := s1.toks) fun b o e => Heap.get?_push_of_some _ e, turn_list a _, ⟨_, Heap.get?_push_size _ rfl, rfl, rfl⟩, fun b hb => ?_, q⟩
  have e : b = s1.heap.objs.size := by simpa using hb
  subst e
  exact I1.fpOk (Nat.le_refl _) (I1.hok.fresh (Nat.le_refl _))
/-- a range object just made, walked -/
theorem range_it {pins : List (Addr × Obj)} {σ : St} {H : Hp} {s : Shared} {R : It → Hp → Prop} {E : Value → Shared → Prop} {lo hi : Int} {t u v : Tok} {tk : Nat} (I : Inv X pins σ H s) (h1 : -(2 ^ 62) ≤ lo) (h2 : lo < 2 ^ 62) (h3 : -(2 ^ 62) ≤ hi) (h4 : hi < 2 ^ 62)
    (q : R (Itr lo (hi - lo).toNat) H) : wpAny (model X.prog X.w) X.A (pyIter (.ref s.heap.objs.size)) (PIE X pins σ tg R) E { s with heap := s.heap.push { cls := .type "range", data := .fields #[.int lo t, .int hi u, .int 1 v] }, toks := tk } := by
  refine wpAny_pyIter_range (IsRange.new ..) (small_one h1 h2 h3 h4) ?_
  have I1 : Inv X pins σ H { s with heap := s.heap.push { cls := .type "range", data := .fields #[.int lo t, .int hi u, .int 1 v] }, toks := tk } := I.kept fun b o e => Heap.get?_push_of_some _ e
  refine ⟨(s.heap.push { cls := .type "range", data := .fields #[.int lo t, .int hi u, .int 1 v] }).objs.size, [(s.heap.push { cls := .type "range", data := .fields #[.int lo t, .int hi u, .int 1 v] }).objs.size], _, _, H, rfl,
    I1.kept (t' := tk) fun b o e => Heap.get?_push_of_some _ e, turn_range _ lo (hi - lo).toNat, ?_, fun b hb => ?_, q⟩
  · have e1 : lo + ((0 : Nat) : Int) * 1 = lo := by simp
    have e2 : (((hi - lo).toNat : Nat) : Int) - ((0 : Nat) : Int) = Builtin.Range.rangeSize lo hi 1 := by rw [rangeSize_one]; split <;> omega
    show IsRangeIter _ _ (lo + ((0 : Nat) : Int) * 1) ((((hi - lo).toNat : Nat) : Int) - ((0 : Nat) : Int)) 1
    rw [e1, e2]
    exact Heap.get?_push_size _ rfl
  · have e : b = (s.heap.push { cls := .type "range", data := .fields #[.int lo t, .int hi u, .int 1 v] }).objs.size := by simpa using hb
    subst e
    exact I1.fpOk (Nat.le_refl _) (I1.hok.fresh (Nat.le_refl _))
def iRng1 (ta : TA) : TI := fun σ H R => ta σ H fun vs H1 => ∃ j : Int, vs = [.int j] ∧ -(2 ^ 62) ≤ j ∧ j < 2 ^ 62 ∧ R (Itr 0 j.toNat) H1
def iRng2 (ta : TA) : TI := fun σ H R => ta σ H fun vs H1 => ∃ i j : Int, vs = [.int i, .int j] ∧ (-(2 ^ 62) ≤ i ∧ i < 2 ^ 62 ∧ -(2 ^ 62) ≤ j ∧ j < 2 ^ 62) ∧ R (Itr i (j - i).toNat) H1
theorem pi_range1 {a : Expr} {ta : TA} {p pos : Pos} (hg : Gl X "range") (hm : X.mg "range" = none) (ha : PA X [a] ta) (hs : starEach [a] X.env = [(false, eval a X.env)] := by rfl) : PI X tg (.Call (.Name "range" p) [a] [] pos) (iRng1 ta) := by
  intro pins s σ H R I h
  refine Call_ (ld_blt I hg hm boot_range (PyProof.Rows.callWith_type1 (thn (ha pos pins s σ H _ I h) fun us s1 ⟨vs, H1, I1, r1, q1⟩ => ?_) hs rfl))
  obtain ⟨j, e, q1, q2, q⟩ := q1
  subst e
  cases r1 with
  | cons r rr =>
    cases rr
    obtain ⟨t, rfl⟩ := r
    exact call_range_1 (range_it I1 (by omega) (by omega) q1 q2 (by simpa using q))
theorem pi_range2 {a b : Expr} {ta : TA} {p pos : Pos} (hg : Gl X "range") (hm : X.mg "range" = none) (ha : PA X [a, b] ta) (hs : starEach [a, b] X.env = [(false, eval a X.env), (false, eval b X.env)] := by rfl) (hs2 : starEach [b] X.env = [(false, eval b X.env)] := by rfl) :
    PI X tg (.Call (.Name "range" p) [a, b] [] pos) (iRng2 ta) := by
  intro pins s σ H R I h
  refine Call_ (ld_blt I hg hm boot_range (PyProof.Rows.callWith_type1 (thn (ha pos pins s σ H _ I h) fun us s1 ⟨vs, H1, I1, r1, q1⟩ => ?_) (by rw [hs, hs2]) (by rw [hs2]; rfl)))
  obtain ⟨i, j, e, ⟨q1, q2, q3, q4⟩, q⟩ := q1
  subst e
  cases r1 with
  | cons r rr =>
    cases rr with
    | cons r' rr =>
      cases rr
      obtain ⟨t, rfl⟩ := r
      obtain ⟨t', rfl⟩ := r'
      exact call_range_2 (range_it I1 q1 q2 q3 q4 q)

/-! ### for -/
/-- W: the invariant by the turn and a measure; N: what the body is to reach -/
def tFor (wi : TI) (g : TG) (tb : TS) : TS := fun D σ H => wi σ H fun J H1 => ∃ W : Nat → Nat → St → Hp → Prop, (∃ m, W 0 m σ H1) ∧ ∀ i m σ H, W i m σ H →
  (J.stop i H ∧ D.nx σ H) ∨ (J.go i H ∧ ∃ N : St → Hp → Prop, (∀ σ' H', N σ' H' → ∃ m', m' < m ∧ W (i + 1) m' σ' H') ∧ ∀ x H', J.yld i H x H' → g x σ H' fun σ2 H2 => tb { D with nx := N, ct := N, bk := D.nx } σ2 H2)
/-- the records at fp as they stand -/
def pinsAt (fp : List Addr) (h : Heap) : List (Addr × Obj) := fp.filterMap fun b => (h.get? b).map fun o => (b, o)
theorem mem_pinsAt {fp : List Addr} {h : Heap} {b : Addr} {o : Obj} (hb : b ∈ fp) (e : h.get? b = some o) : (b, o) ∈ pinsAt fp h := List.mem_filterMap.mpr ⟨b, hb, by rw [e]; rfl⟩
theorem of_pinsAt {fp : List Addr} {h : Heap} {p : Addr × Obj} (hp : p ∈ pinsAt fp h) : p.1 ∈ fp ∧ h.get? p.1 = some p.2 := by
  obtain ⟨b, hb, e⟩ := List.mem_filterMap.mp hp
  cases q : h.get? b with
  | none => rw [q] at e; cases e
  | some o =>
    rw [q] at e
    have e' : (b, o) = p := Option.some.inj e
    subst e'
    exact ⟨hb, q⟩
theorem Inv.pinned {pins : List (Addr × Obj)} {σ : St} {H : Hp} {s : Shared} {fp : List Addr} (I : Inv X pins σ H s) (hf : ∀ b ∈ fp, FpOk X pins H b) (ho : ∀ b ∈ fp, ∃ o, s.heap.get? b = some o ∧ ∀ v, o.data ≠ .cell v) : Inv X (pins ++ pinsAt fp s.heap) σ H s :=
  I.pins_of fun p hp => (List.mem_append.mp hp).elim (fun z => I.pin p (List.mem_append_right _ z)) fun z => by
    obtain ⟨hb, e⟩ := of_pinsAt z
    obtain ⟨f0, f1, f2, _⟩ := hf p.1 hb
    obtain ⟨o, e', d⟩ := ho p.1 hb
    rw [e] at e'; cases e'
    exact ⟨e, f0, f1, f2, d⟩
theorem Inv.unpinned {pins pl : List (Addr × Obj)} {σ : St} {H : Hp} {s : Shared} (I : Inv X (pins ++ pl) σ H s) : Inv X pins σ H s := I.pins_of fun p hp => I.pin p (List.mem_append_right _ (List.mem_append_left _ hp))
theorem ps_for {iter : Expr} {body : List Stmt} {wi : TI} {g : TG} {tb : TS} {pos : Pos} (hp : PassesOwn (model X.prog X.w) X.A X.env X.xe) (hc : X.calm = true) (hi : PI X tg iter wi) (hg : PG X tg g) (hb : PSs X body tb)
    (hs : ∀ x, foldedSetIterable iter X.env x = pure x := by intro _; rfl) : PS X (.For tg iter body [] pos) (tFor wi g tb) := by
  intro pins s σ H D I h
  refine wpAny_For (thn (hi pins s σ H _ I h) fun v s1 h1 => thn h1 fun itv s2 h2 => ?_) hs
  obtain ⟨it, fp, tn, J, H2, e, I2, T, st2, f2, W, ⟨m0, w0⟩, turn⟩ := h2
  subst e
  -- what stays true of the iterator's objects through the loop
  have stat : ∀ {H' : Hp}, (∀ b ∈ fp, H' b = none) → ∀ b ∈ fp, FpOk X pins H' b := fun hn b hb => ⟨hn b hb, (f2 b hb).2⟩
  refine codeAny_forLoop_any (fun n s' => ∃ i σ' H', Inv X pins σ' H' s' ∧ tn i s'.heap ∧ (∀ b ∈ fp, H' b = none) ∧ W i n σ' H') ?_ m0 ⟨0, σ, H2, I2, st2, fun b hb => (f2 b hb).1, w0⟩
  rintro n s3 ⟨i, σ3, H3, I3, st3, fr3, w3⟩
  rcases turn i n σ3 H3 w3 with ⟨stop, qn⟩ | ⟨go, N, hN, step⟩
  · refine wpAny_passesOwn hp (thn (T.done X rfl rfl rfl hc i pins s3 σ3 H3 X.xe I3 (stat fr3) st3 stop) fun r s4 ⟨hr, I4⟩ => ?_)
    subst hr
    exact wpAny_execs_nil ⟨σ3, H3, I4, qn⟩
  · refine wpAny_passesOwn hp (thn (T.item X rfl rfl rfl hc i pins s3 σ3 H3 X.xe I3 (stat fr3) st3 go) fun r s4 ⟨u, hr, h4⟩ => ?_)
    subst hr
    refine wpAny_passesOwn hp (thn h4 fun _ s5 ⟨x, H5, I5, r5, y5, st5, fr5⟩ => ?_)
    have I5' := I5.pinned (stat fr5) (T.obj _ _ st5)
    refine wpAny_passesOwn hp (thn (hg _ s5 σ3 H5 x u _ I5' r5 (step x H5 y5)) fun _ s6 ⟨σ6, H6, I6, q6⟩ => ?_)
    refine wpAny_passesOwn hp (thn (hb _ s6 σ6 H6 _ I6 q6) fun f s7 q7 => ?_)
    have again : ∀ {σ7 : St} {H7 : Hp}, Inv X (pins ++ pinsAt fp s5.heap) σ7 H7 s7 → N σ7 H7 → ∃ m, m < n ∧ ∃ i σ' H', Inv X pins σ' H' s7 ∧ tn i s7.heap ∧ (∀ b ∈ fp, H' b = none) ∧ W i m σ' H' := fun {σ7 H7} I7 n7 => by
      obtain ⟨m', hm, w7⟩ := hN σ7 H7 n7
      refine ⟨m', hm, i + 1, σ7, H7, I7.unpinned, T.keep _ _ _ st5 fun b hb o e => (I7.pin (b, o) (List.mem_append_right _ (List.mem_append_right _ (mem_pinsAt hb e)))).1, fun b hb => ?_, w7⟩
      obtain ⟨o, e, d⟩ := T.obj _ _ st5 b hb
      exact (I7.pin (b, o) (List.mem_append_right _ (List.mem_append_right _ (mem_pinsAt hb e)))).2.1
    cases f with
    | next => obtain ⟨σ7, H7, I7, n7⟩ := q7; exact again I7 n7
    | cont => obtain ⟨σ7, H7, I7, n7⟩ := q7; exact again I7 n7
    | brk => obtain ⟨σ7, H7, I7, q7⟩ := q7; exact ⟨σ7, H7, I7.unpinned, q7⟩
    | ret v => obtain ⟨x7, σ7, H7, I7, r7, q7⟩ := q7; exact ⟨x7, σ7, H7, I7.unpinned, r7, q7⟩
end

/-! ### the forms one uses -/
theorem for_range {lo : Int} {n : Nat} {g : TG} {tb : TS} {D : Ends} {σ : St} {H : Hp} (Pv : Nat → St → Hp → Prop) (h0 : Pv 0 σ H)
    (hs : ∀ i σ H, i < n → Pv i σ H → g (.int (lo + i)) σ H fun σ2 H2 => tb { D with nx := Pv (i + 1), ct := Pv (i + 1), bk := D.nx } σ2 H2) (hd : ∀ σ H, Pv n σ H → D.nx σ H) :
    ∃ W : Nat → Nat → St → Hp → Prop, (∃ m, W 0 m σ H) ∧ ∀ i m σ H, W i m σ H →
      ((Itr lo n).stop i H ∧ D.nx σ H) ∨ ((Itr lo n).go i H ∧ ∃ N : St → Hp → Prop, (∀ σ' H', N σ' H' → ∃ m', m' < m ∧ W (i + 1) m' σ' H') ∧ ∀ x H', (Itr lo n).yld i H x H' → g x σ H' fun σ2 H2 => tb { D with nx := N, ct := N, bk := D.nx } σ2 H2) := by
  refine ⟨fun i m σ H => m = n - i ∧ i ≤ n ∧ Pv i σ H, ⟨n, by simp, Nat.zero_le _, h0⟩, ?_⟩
  rintro i m σ H ⟨rfl, hi, p⟩
  by_cases hlt : i < n
  · refine .inr ⟨hlt, Pv (i + 1), fun σ' H' p' => ⟨n - (i + 1), by omega, rfl, hlt, p'⟩, fun x H' y => ?_⟩
    obtain ⟨e, y⟩ := y
    subst e y
    exact hs i σ _ hlt p
  · have e : i = n := by omega
    subst e
    exact .inl ⟨Nat.le_refl _, hd σ H p⟩
end L2

namespace L2
open PySem PySem.Spec PyProof.Rows

abbrev R2 := V → V → Hp → VK → Prop
/-- a two-place operation on values: f is binaryOp op, inplaceOp op or compareOp op -/
def OpR (X : Cx) (f : Value → Value → Sem Value) (r : R2) : Prop :=
  ∀ (pins : List (Addr × Obj)) (s : Shared) (σ : St) (H : Hp) (x y : V) (v u : Value) (Q : VK), Inv X pins σ H s → RelV x v → RelV y u → r x y H Q →
    wpAny (model X.prog X.w) X.A (f v u) (EP X pins σ Q) X.xe s
/-- a one-place operation -/
def UnR (X : Cx) (f : Value → Sem Value) (r : V → Hp → VK → Prop) : Prop :=
  ∀ (pins : List (Addr × Obj)) (s : Shared) (σ : St) (H : Hp) (x : V) (v : Value) (Q : VK), Inv X pins σ H s → RelV x v → r x H Q →
    wpAny (model X.prog X.w) X.A (f v) (EP X pins σ Q) X.xe s
/-- a call of a value that is known (a builtin, a type) with values -/
def CallR (X : Cx) (f : Value) (r : List V → Hp → VK → Prop) : Prop :=
  ∀ (pins : List (Addr × Obj)) (s : Shared) (σ : St) (H : Hp) (xs : List V) (us : List Value) (Q : VK), Inv X pins σ H s → Vals xs us → r xs H Q →
    wpAny (model X.prog X.w) X.A (call f us) (EP X pins σ Q) X.xe s
def tOp (r : R2) (ta tb : TE) : TE := fun σ H Q => ta σ H fun x H1 => tb σ H1 fun y H2 => r x y H2 Q
def tUn (r : V → Hp → VK → Prop) (ta : TE) : TE := fun σ H Q => ta σ H fun x H1 => r x H1 Q
/-- ints in, under C, and a value out -/
def rI (C : Int → Int → Prop) (g : Int → Int → V) : R2 := fun x y H Q => ∃ i j, x = .int i ∧ y = .int j ∧ C i j ∧ Q (g i j) H
def rI0 (g : Int → Int → V) : R2 := fun x y H Q => ∃ i j, x = .int i ∧ y = .int j ∧ Q (g i j) H
def rU (g : Int → V) : V → Hp → VK → Prop := fun x H Q => ∃ i, x = .int i ∧ Q (g i) H

section
variable {X : Cx} {a b c : Expr} {ta tb tc : TE} {pos : Pos}

theorem binT (ha : PE X a ta) (hb : PE X b tb) {pins : List (Addr × Obj)} {s : Shared} {σ : St} {H : Hp} {R : V → V → Hp → Prop} (I : Inv X pins σ H s)
    (h : ta σ H fun x H1 => tb σ H1 fun y H2 => R x y H2) {Q : Value → Shared → Prop} {f : Value → Value → Sem Value}
    (hf : ∀ v u s2 x y H2, Inv X pins σ H2 s2 → RelV x v → RelV y u → R x y H2 → wpAny (model X.prog X.w) X.A (f v u) Q X.xe s2) :
    wpAny (model X.prog X.w) X.A (eval a X.env) (fun v s₁ => wpAny (model X.prog X.w) X.A (eval b X.env) (fun u s₂ => wpAny (model X.prog X.w) X.A (f v u) Q X.xe s₂) X.xe s₁) X.xe s := by
  refine thn (ha pins s σ H _ I h) fun v s1 ⟨x, H1, I1, r1, q1⟩ => ?_
  refine thn (hb pins s1 σ H1 _ I1 q1) fun u s2 ⟨y, H2, I2, r2, q2⟩ => ?_
  exact hf v u s2 x y H2 I2 r1 r2 q2

theorem pe_op {op : Operator} {r : R2} (ho : OpR X (binaryOp op) r) (ha : PE X a ta) (hb : PE X b tb) : PE X (.BinOp a op b pos) (tOp r ta tb) := by
  intro pins s σ H Q I h
  exact wpAny_BinOp (binT ha hb I h fun v u s2 x y H2 I2 rx ry q => ho pins s2 σ H2 x y v u Q I2 rx ry q)
theorem pe_un {op : UnaryOp} {r : V → Hp → VK → Prop} (ho : UnR X (unaryOp op) r) (ha : PE X a ta) : PE X (.UnaryOp op a pos) (tUn r ta) := by
  intro pins s σ H Q I h
  exact UnaryOp_ (thn (ha pins s σ H _ I h) fun v s1 ⟨x, H1, I1, r1, q1⟩ => ho pins s1 σ H1 x v Q I1 r1 q1)
/-! ### ints -/
theorem opI {f : Value → Value → Sem Value} {C : Int → Int → Prop} {g : Int → Int → Int}
    (rule : ∀ (i j : Int) (t u : Tok) (s : Shared) (Q : Value → Shared → Prop) (E : Value → Shared → Prop), C i j → Q (.int (g i j) s.toks) { s with toks := s.toks + 1 } → wpAny (model X.prog X.w) X.A (f (.int i t) (.int j u)) Q E s) :
    OpR X f (rI C fun i j => .int (g i j)) := by
  intro pins s σ H x y v u Q I rx ry h
  obtain ⟨i, j, rfl, rfl, hc, q⟩ := h
  obtain ⟨t, rfl⟩ := rx
  obtain ⟨t', rfl⟩ := ry
  exact rule i j t t' s _ _ hc ⟨.int (g i j), H, I.tok _, ⟨_, rfl⟩, q⟩
theorem opI0 {f : Value → Value → Sem Value} {g : Int → Int → Int}
    (rule : ∀ (i j : Int) (t u : Tok) (s : Shared) (Q : Value → Shared → Prop) (E : Value → Shared → Prop), Q (.int (g i j) s.toks) { s with toks := s.toks + 1 } → wpAny (model X.prog X.w) X.A (f (.int i t) (.int j u)) Q E s) :
    OpR X f (rI0 fun i j => .int (g i j)) := by
  intro pins s σ H x y v u Q I rx ry h
  obtain ⟨i, j, rfl, rfl, q⟩ := h
  obtain ⟨t, rfl⟩ := rx
  obtain ⟨t', rfl⟩ := ry
  exact rule i j t t' s _ _ ⟨.int (g i j), H, I.tok _, ⟨_, rfl⟩, q⟩
theorem opB0 {f : Value → Value → Sem Value} {g : Int → Int → Bool}
    (rule : ∀ (i j : Int) (t u : Tok) (s : Shared) (Q : Value → Shared → Prop) (E : Value → Shared → Prop), Q (.bool (g i j)) s → wpAny (model X.prog X.w) X.A (f (.int i t) (.int j u)) Q E s) :
    OpR X f (rI0 fun i j => .bl (g i j)) := by
  intro pins s σ H x y v u Q I rx ry h
  obtain ⟨i, j, rfl, rfl, q⟩ := h
  obtain ⟨t, rfl⟩ := rx
  obtain ⟨t', rfl⟩ := ry
  exact rule i j t t' s _ _ ⟨.bl (g i j), H, I, rfl, q⟩

def CDiv (i j : Int) : Prop := 0 < j ∧ j < 1073741824
def CMul (i j : Int) : Prop := (-(2 ^ 64) < i ∧ i < 2 ^ 64) ∨ (-(2 ^ 64) < j ∧ j < 2 ^ 64)
theorem CMul.ok {i j : Int} (h : CMul i j) : IntMulOk i j := by
  rcases h with ⟨h1, h2⟩ | ⟨h1, h2⟩
  · exact .of_left (intBits_le_64 h1 h2)
  · exact .of_right (intBits_le_64 h1 h2)
theorem op_add : OpR X (binaryOp .Add) (rI0 fun i j => .int (i + j)) := opI0 fun _ _ _ _ _ _ _ q => add_int q
theorem op_sub : OpR X (binaryOp .Sub) (rI0 fun i j => .int (i - j)) := opI0 fun _ _ _ _ _ _ _ q => sub_int q
/-- // by a positive divisor -/
theorem op_fdiv : OpR X (binaryOp .FloorDiv) (rI CDiv fun i j => .int (i / j)) := opI fun i j _ _ _ _ _ hc q => by
  have h1 : (0 : Int) < j := hc.1
  have h2 : j < 1073741824 := hc.2
  exact floordiv_int (by omega) (by rw [Int.fdiv_eq_ediv_of_nonneg i (by omega)]; exact q) (.inl (PyProof.noPylong_small (by omega)))
/-- % by a positive divisor of any size -/
theorem op_mod : OpR X (binaryOp .Mod) (rI (fun _ j => 0 < j) fun i j => .int (i % j)) := opI fun i j _ _ _ _ _ hc q => by
  have h1 : (0 : Int) < j := hc
  exact mod_int' (by omega) (by rw [Int.fmod_eq_emod_of_nonneg i (by omega)]; exact q)
theorem unI {f : Value → Sem Value} {g : Int → Int}
    (rule : ∀ (i : Int) (t : Tok) (s : Shared) (Q : Value → Shared → Prop) (E : Value → Shared → Prop), Q (.int (g i) s.toks) { s with toks := s.toks + 1 } → wpAny (model X.prog X.w) X.A (f (.int i t)) Q E s) :
    UnR X f (rU fun i => .int (g i)) := by
  intro pins s σ H x v Q I rx h
  obtain ⟨i, rfl, q⟩ := h
  obtain ⟨t, rfl⟩ := rx
  exact rule i t s _ _ ⟨.int (g i), H, I.tok _, ⟨_, rfl⟩, q⟩
theorem un_neg : UnR X (unaryOp .USub) (rU fun i => .int (-i)) := unI fun _ _ _ _ _ q => neg_int q
/-! ### bools among ints: n += (a < b) -/
end

/-! ### comparisons -/
/-- the scalars that == tells apart as data does -/
def scal : V → V → Bool
  | .non, .non => true | .non, .int _ => true | .int _, .non => true | .non, .bl _ => true | .bl _, .non => true | .non, .str _ => true | .str _, .non => true
  | .int _, .int _ => true | .bl _, .bl _ => true | .str _, .str _ => true | .byt _, .byt _ => true
  | .int _, .str _ => true | .str _, .int _ => true | .bl _, .str _ => true | .str _, .bl _ => true
  | _, _ => false
def rEq : R2 := fun x y H Q => scal x y = true ∧ Q (.bl (decide (x = y))) H
def rNe : R2 := fun x y H Q => scal x y = true ∧ Q (.bl (!decide (x = y))) H

theorem dec_int {i j : Int} : decide (V.int i = V.int j) = (i == j) := by
  rw [Bool.eq_iff_iff]
  simp
theorem dec_bl {i j : Bool} : decide (V.bl i = V.bl j) = (i == j) := by
  rw [Bool.eq_iff_iff]
  simp
theorem dec_str {i j : Str} : decide (V.str i = V.str j) = (i == j) := by
  rw [Bool.eq_iff_iff]
  simp
theorem dec_byt {i j : Array UInt8} : decide (V.byt i = V.byt j) = (i.toList == j.toList) := by
  rw [Bool.eq_iff_iff]
  cases i
  cases j
  simp

section
variable {X : Cx} {a b c : Expr} {ta tb tc : TE} {pos : Pos}
theorem fin_bl {pins : List (Addr × Obj)} {σ : St} {H : Hp} {s : Shared} {Q : VK} {k k' : Bool} (I : Inv X pins σ H s) (q : Q (.bl k) H) (e : k = k') : EP X pins σ Q (.bool k') s := by
  subst e
  exact ⟨.bl k, H, I, rfl, q⟩
theorem op_eq : OpR X (compareOp .Eq) rEq := by
  intro pins s σ H x y v u Q I rx ry h
  obtain ⟨hs, q⟩ := h
  cases x with
  | non =>
    cases rx
    cases y with
    | non => cases ry; exact PySem.EqNone.eq_none_none (fin_bl I q (by simp))
    | bl j => cases ry; exact PySem.EqNone.eq_none_bool (fin_bl I q (by simp))
    | int j => obtain ⟨t', rfl⟩ := ry; exact PySem.EqNone.eq_none_int (fin_bl I q (by simp))
    | str j => obtain ⟨t', rfl⟩ := ry; exact PySem.EqNone.eq_none_str (fin_bl I q (by simp))
    | _ => exact absurd (show false = true from hs) Bool.false_ne_true
  | bl i =>
    cases rx
    cases y with
    | non => cases ry; exact PySem.EqNone.eq_bool_none (fin_bl I q (by simp))
    | bl j => cases ry; exact eq_bool (fin_bl I q dec_bl)
    | str j => obtain ⟨t', rfl⟩ := ry; exact PySem.EqMixed.eq_bool_str (fin_bl I q (by simp))
    | _ => exact absurd (show false = true from hs) Bool.false_ne_true
  | int i =>
    obtain ⟨t, rfl⟩ := rx
    cases y with
    | non => cases ry; exact PySem.EqNone.eq_int_none (fin_bl I q (by simp))
    | int j => obtain ⟨t', rfl⟩ := ry; exact eq_int (fin_bl I q dec_int)
    | str j => obtain ⟨t', rfl⟩ := ry; exact PySem.EqMixed.eq_int_str (fin_bl I q (by simp))
    | _ => exact absurd (show false = true from hs) Bool.false_ne_true
  | str i =>
    obtain ⟨t, rfl⟩ := rx
    cases y with
    | non => cases ry; exact PySem.EqNone.eq_str_none (fin_bl I q (by simp))
    | bl j => cases ry; exact PySem.EqMixed.eq_str_bool (fin_bl I q (by simp))
    | int j => obtain ⟨t', rfl⟩ := ry; exact PySem.EqMixed.eq_str_int (fin_bl I q (by simp))
    | str j => obtain ⟨t', rfl⟩ := ry; exact eq_str (fin_bl I q dec_str)
    | _ => exact absurd (show false = true from hs) Bool.false_ne_true
  | byt i =>
    obtain ⟨t, rfl⟩ := rx
    cases y with
    | byt j => obtain ⟨t', rfl⟩ := ry; exact PySem.W.eq_bytes (fin_bl I q dec_byt)
    | _ => exact absurd (show false = true from hs) Bool.false_ne_true
  | _ => cases y <;> exact absurd (show false = true from hs) Bool.false_ne_true
theorem op_ne : OpR X (compareOp .NotEq) rNe := by
  intro pins s σ H x y v u Q I rx ry h
  obtain ⟨hs, q⟩ := h
  cases x with
  | non =>
    cases rx
    cases y with
    | non => cases ry; exact PySem.EqNone.ne_none_none (fin_bl I q (by simp))
    | bl j => cases ry; exact PySem.EqNone.ne_none_bool (fin_bl I q (by simp))
    | int j => obtain ⟨t', rfl⟩ := ry; exact PySem.EqNone.ne_none_int (fin_bl I q (by simp))
    | str j => obtain ⟨t', rfl⟩ := ry; exact PySem.EqNone.ne_none_str (fin_bl I q (by simp))
    | _ => exact absurd (show false = true from hs) Bool.false_ne_true
  | bl i =>
    cases rx
    cases y with
    | non => cases ry; exact PySem.EqNone.ne_bool_none (fin_bl I q (by simp))
    | bl j => cases ry; exact ne_bool (fin_bl I q (congrArg not dec_bl))
    | str j => obtain ⟨t', rfl⟩ := ry; exact PySem.EqMixed.ne_bool_str (fin_bl I q (by simp))
    | _ => exact absurd (show false = true from hs) Bool.false_ne_true
  | int i =>
    obtain ⟨t, rfl⟩ := rx
    cases y with
    | non => cases ry; exact PySem.EqNone.ne_int_none (fin_bl I q (by simp))
    | int j => obtain ⟨t', rfl⟩ := ry; exact ne_int (fin_bl I q (congrArg not dec_int))
    | str j => obtain ⟨t', rfl⟩ := ry; exact PySem.EqMixed.ne_int_str (fin_bl I q (by simp))
    | _ => exact absurd (show false = true from hs) Bool.false_ne_true
  | str i =>
    obtain ⟨t, rfl⟩ := rx
    cases y with
    | non => cases ry; exact PySem.EqNone.ne_str_none (fin_bl I q (by simp))
    | bl j => cases ry; exact PySem.EqMixed.ne_str_bool (fin_bl I q (by simp))
    | int j => obtain ⟨t', rfl⟩ := ry; exact PySem.EqMixed.ne_str_int (fin_bl I q (by simp))
    | str j => obtain ⟨t', rfl⟩ := ry; exact ne_str (fin_bl I q (congrArg not dec_str))
    | _ => exact absurd (show false = true from hs) Bool.false_ne_true
  | byt i =>
    obtain ⟨t, rfl⟩ := rx
    cases y with
    | byt j => obtain ⟨t', rfl⟩ := ry; exact PySem.W.ne_bytes (fin_bl I q (congrArg not dec_byt))
    | _ => exact absurd (show false = true from hs) Bool.false_ne_true
  | _ => cases y <;> exact absurd (show false = true from hs) Bool.false_ne_true

theorem op_lt : OpR X (compareOp .Lt) (rI0 fun i j => .bl (decide (i < j))) := opB0 fun _ _ _ _ _ _ _ q => lt_int q
theorem op_le : OpR X (compareOp .LtE) (rI0 fun i j => .bl (decide (i ≤ j))) := opB0 fun _ _ _ _ _ _ _ q => le_int q
theorem op_gt : OpR X (compareOp .Gt) (rI0 fun i j => .bl (decide (j < i))) := opB0 fun _ _ _ _ _ _ _ q => gt_int q
theorem op_lt_str : OpR X (compareOp .Lt) (fun x y H Q => ∃ i j, x = .str i ∧ y = .str j ∧ Q (.bl (decide (i.cps.toList < j.cps.toList))) H) := by
  intro pins s σ H x y v u Q I rx ry h
  obtain ⟨i, j, rfl, rfl, q⟩ := h
  obtain ⟨t, rfl⟩ := rx
  obtain ⟨t', rfl⟩ := ry
  exact lt_str (fin_bl I q rfl)
/-- is None, is not None: the right side a value none -/
theorem op_isN : OpR X (compareOp .Is) (fun x y H Q => y = .non ∧ Q (.bl (decide (x = .non))) H) := by
  intro pins s σ H x y v u Q I rx ry h
  obtain ⟨rfl, q⟩ := h
  cases ry
  refine is_none_gen (fin_bl I q ?_)
  cases x <;> first
    | (cases rx; rfl)
    | (obtain ⟨t, rfl⟩ := rx; rfl)
theorem nomark (b : Expr) {op : CmpOp} (h : op ≠ .In := by decide) (h2 : op ≠ .NotIn := by decide) : behindInMarks op b = false := by
  have e1 : (op == CmpOp.In) = false := by cases op <;> first | rfl | exact absurd rfl h
  have e2 : (op == CmpOp.NotIn) = false := by cases op <;> first | rfl | exact absurd rfl h2
  cases b <;> simp [behindInMarks, e1, e2]
/-- a comparison as a value; hm: nomark b, or (for in, not in) by with_unfolding_all rfl -/
theorem pe_cmpR {op : CmpOp} {r : R2} (ho : OpR X (compareOp op) r) (ha : PE X a ta) (hb : PE X b tb) (hm : behindInMarks op b = false) : PE X (.Compare a [op] [b] pos) (tOp r ta tb) := by
  intro pins s σ H Q I h
  exact wpAny_Compare1 (binT ha hb I h fun v u s2 x y H2 I2 rx ry q => ho pins s2 σ H2 x y v u Q I2 rx ry q) hm
/-- a reading of a value as a test -/
def tTest (t : TE) : TT := fun σ H Q => t σ H fun x H' => ∃ k, x = .bl k ∧ Q k H'
theorem pt_cmpR {op : CmpOp} {r : R2} (ho : OpR X (compareOp op) r) (ha : PE X a ta) (hb : PE X b tb) (hm : behindInMarks op b = false) : PT X (.Compare a [op] [b] pos) (tTest (tOp r ta tb)) := by
  intro pins s σ H Q I h
  refine wpAny_isTrue_Compare1 (thn (ha pins s σ H _ I h) fun v s1 ⟨x, H1, I1, r1, q1⟩ => thn (hb pins s1 σ H1 _ I1 q1) fun u s2 ⟨y, H2, I2, r2, q2⟩ =>
    thn (ho pins s2 σ H2 x y v u _ I2 r1 r2 q2) fun c s3 ⟨z, H3, I3, r3, k, e, q3⟩ => ?_) hm
  subst e
  cases r3
  exact wpAny_truthy_bool ⟨H3, I3, q3⟩
/-- a op1 b op2 c -/
def tChain (r r' : R2) (ta tb tc : TE) : TE := fun σ H Q => ta σ H fun x H1 => tb σ H1 fun y H2 => r x y H2 fun z H3 => ∃ k, z = .bl k ∧
  (if k = true then tc σ H3 fun w' H4 => r' y w' H4 Q else Q (.bl false) H3)
theorem pe_chain {op op' : CmpOp} {r r' : R2} (ho : OpR X (compareOp op) r) (ho' : OpR X (compareOp op') r') (ha : PE X a ta) (hb : PE X b tb) (hc : PE X c tc)
    (hm : lastMarks [op, op'] [b, c] = false := by with_unfolding_all rfl) : PE X (.Compare a [op, op'] [b, c] pos) (tChain r r' ta tb tc) := by
  intro pins s σ H Q I h
  refine Compare_chain (thn (ha pins s σ H _ I h) fun v s1 ⟨x, H1, I1, r1, q1⟩ => chain_link (thn (hb pins s1 σ H1 _ I1 q1) fun u s2 ⟨y, H2, I2, r2, q2⟩ =>
    thn (ho pins s2 σ H2 x y v u _ I2 r1 r2 q2) fun d s3 ⟨z, H3, I3, r3, k, e, q3⟩ => ?_)) hm
  subst e
  cases r3
  refine wpAny_truthy_bool ?_
  cases k with
  | false => exact ite_ff ⟨.bl false, H3, I3, rfl, q3⟩
  | true => exact ite_tt (chain_last (thn (hc pins s3 σ H3 _ I3 q3) fun w' s4 ⟨z', H4, I4, r4, q4⟩ => ho' pins s4 σ H4 y z' u w' Q I4 r2 r4 q4))
theorem pt_chain {op op' : CmpOp} {r r' : R2} (ho : OpR X (compareOp op) r) (ho' : OpR X (compareOp op') r') (ha : PE X a ta) (hb : PE X b tb) (hc : PE X c tc)
    (hm : lastMarks [op, op'] [b, c] = false := by with_unfolding_all rfl) : PT X (.Compare a [op, op'] [b, c] pos) (tTest (tChain r r' ta tb tc)) := by
  intro pins s σ H Q I h
  refine isTrue_chain (thn (ha pins s σ H _ I h) fun v s1 ⟨x, H1, I1, r1, q1⟩ => test_link (thn (hb pins s1 σ H1 _ I1 q1) fun u s2 ⟨y, H2, I2, r2, q2⟩ =>
    thn (ho pins s2 σ H2 x y v u _ I2 r1 r2 q2) fun d s3 ⟨z, H3, I3, r3, k, e, q3⟩ => ?_)) hm
  subst e
  cases r3
  refine wpAny_truthy_bool ?_
  cases k with
  | false =>
    obtain ⟨k', e', q'⟩ := q3
    cases e'
    exact ite_ff ⟨H3, I3, q'⟩
  | true =>
    refine ite_tt (test_last (thn (hc pins s3 σ H3 _ I3 q3) fun w' s4 ⟨z', H4, I4, r4, q4⟩ => thn (ho' pins s4 σ H4 y z' u w' _ I4 r2 r4 q4) fun d' s5 ⟨z2, H5, I5, r5, k2, e2, q5⟩ => ?_))
    subst e2
    cases r5
    exact wpAny_truthy_bool ⟨H5, I5, q5⟩

/-! ### truth -/
theorem line63 : (sizeLine : Nat) < 2 ^ 63 := by rw [sizeLine_eq]; decide
/-! ### strs and bytes -/
theorem op_add_str : OpR X (binaryOp .Add) (fun x y H Q => ∃ i j, x = .str i ∧ y = .str j ∧ i.length + j.length ≤ sizeLine ∧ Q (.str (i ++ j)) H) := by
  intro pins s σ H x y v u Q I rx ry h
  obtain ⟨i, j, rfl, rfl, hz, q⟩ := h
  obtain ⟨t, rfl⟩ := rx
  obtain ⟨t', rfl⟩ := ry
  exact add_str (fun t' tk => ⟨.str (i ++ j), H, I.tok _, ⟨_, rfl⟩, q⟩) hz
/-! ### scalar builtins, by CallR -/
theorem vals1 {x : V} {us : List Value} (r : Vals [x] us) : ∃ u, us = [u] ∧ RelV x u := by
  cases r with
  | cons r1 r2 => cases r2; exact ⟨_, rfl, r1⟩
theorem vals2 {x y : V} {us : List Value} (r : Vals [x, y] us) : ∃ u w', us = [u, w'] ∧ RelV x u ∧ RelV y w' := by
  cases r with
  | cons r1 r2 =>
    cases r2 with
    | cons r3 r4 => cases r4; exact ⟨_, _, rfl, r1, r3⟩
end
end L2

namespace L2
open PySem PySem.Spec PyProof.Rows

/-! ### an instance, its attributes a map -/
structure ObjM (h : Heap) (x dx C : Addr) (mA : Str → Option Value) : Prop where
  obj : h.get? x = some (PySem.W.instObj C dx)
  ns : h.Ns1 dx mA
  ne : dx ≠ x

section
variable {prog : Program} {w : World} {A : Around} {E : Value → Shared → Prop} {s : Shared} {K : PySem.W.Frag} {x dx C f : Addr} {mA : Str → Option Value} {name : Str} {v : Value}

end

/-! ### the attributes as a list of pairs -/
section
variable {P : Program} {w : World} {H H' : Hp} {h h' : Heap} {a C dx : Addr} {fs fs' : List (Str × V)}
end

/-! ### what of the text a class must have -/
structure Cls (K : PySem.W.Frag) (C : Addr) : Prop where
  pg : PySem.W.plainGet K C Str.empty = true
  hd : PySem.W.hasDictIn K C = true
  po : PySem.W.plainOver K C = true
  sa : PySem.W.findIn K (.ref C) "__setattr__" = some (some (.builtin "object.__setattr__"))
theorem Cls.get {K : PySem.W.Frag} {C : Addr} (c : Cls K C) (f : Str) : PySem.W.plainGet K C f = true := c.pg
/-- a constant of the class -/
structure Con (K : PySem.W.Frag) (C : Addr) (f : Str) (v : V) (u : Value) : Prop where
  at_ : PySem.W.findIn K (.ref C) f = some (some u)
  rel : RelV v u
  get : PySem.W.specialIn K u "__get__" = some none
  cp : PySem.W.copiedNames.contains f = false
/-- a method: a plain def of the class or of one above it -/
structure Meth (K : PySem.W.Frag) (C : Addr) (m : Str) (f : Addr) : Prop where
  at_ : PySem.W.findIn K (.ref C) m = some (some (.ref f))
  fn : PySem.W.isFn K (.ref f) = true
  kp : PySem.W.keepIn K (.ref f) = true

section
variable {X : Cx} {pins : List (Addr × Obj)} {σ : St} {H : Hp} {s : Shared} {a C dx : Addr} {fs : List (Str × V)} {f : Str} {v : V} {A : Around} {E : Value → Shared → Prop}

end

/-! ### readings and rules -/
section
variable {X : Cx} {o e value : Expr} {f : Str} {pos pos' tpos : Pos} {ta tv : TE}
end

/-! ### isinstance -/
section
variable {X : Cx} {pins : List (Addr × Obj)} {σ : St} {H : Hp} {s : Shared} {A : Around} {E : Value → Shared → Prop} {Q : Value → Shared → Prop} {c : Value} {b : Bool}
/-- the type of a value, as the fragment's deciders take it; for an instance its class -/
inductive TyOf (K : PySem.W.Frag) (H : Hp) : V → Value → Prop where
  | non : TyOf K H .non (.type "NoneType")
  | bl (x : Bool) : TyOf K H (.bl x) (.type "bool")
  | int (i : Int) : TyOf K H (.int i) (.type "int")
  | str (x : Str) : TyOf K H (.str x) (.type "str")
  | flt (x : UInt64) : TyOf K H (.flt x) (.type "float")
  | lst {a : Addr} {xs : List V} (e : H a = some (.lst xs)) : TyOf K H (.ref a) (.type "list")
  | frz {a : Addr} {o : Obj} {xs : List V} (e : H a = some (.frz o (.lst xs))) : TyOf K H (.ref a) (.type "list")
  | tup {a : Addr} {xs : List V} (e : H a = some (.tup xs)) : TyOf K H (.ref a) (.type "tuple")
  | dK {a : Addr} {kvs : List (Key × V)} (e : H a = some (.dK kvs)) : TyOf K H (.ref a) (.type "dict")
  | dT {a : Addr} {kvs : List (List Key × V)} (e : H a = some (.dT kvs)) : TyOf K H (.ref a) (.type "dict")
  | ins {a C dx : Addr} {fs : List (Str × V)} (e : H a = some (.ins C dx fs)) (cl : Cls K C) (ha : PySem.W.findIn K (.ref C) "__class__" = some (some (.builtin "object.__class__")))
      (hn : PySem.W.specialIn K (.builtin "object.__class__") "__get__" = some (some (.builtin "getset_descriptor.__get__"))) (htk : PySem.W.takesIn K (.builtin "object.__class__") = some true)
      (hm : PySem.W.mroIn K C (.type "object") = some true) : TyOf K H (.ref a) (.ref C)
end
end L2

namespace L2
open PySem PySem.Spec PyProof.Rows

/-! ### room -/
structure Room (k : Nat) (A : Around) : Prop where
  hd : A.handled = none
  dp : A.depth + 3 * k + 5 < recursionLimit
  un : A.units + 16 * k + 200 < cLine
theorem Room.mono {j k : Nat} {A : Around} (r : Room k A) (h : j ≤ k) : Room j A := ⟨r.hd, by have := r.dp; omega, by have := r.un; omega⟩
theorem Room.deeper {k : Nat} {A : Around} (r : Room (k + 1) A) (env : Env) : Room k (A.deeper env) :=
  ⟨r.hd, by have := r.dp; show A.depth + 1 + 3 * k + 5 < _; omega, by have := r.un; show A.units + 3 + 16 * k + 200 < _; omega⟩
theorem Room.in1 {k : Nat} {A : Around} (r : Room (k + 1) A) : Room k A.in1 :=
  ⟨r.hd, by have := r.dp; show A.depth + 3 * k + 5 < _; omega, by have := r.un; show A.units + 1 + 16 * k + 200 < _; omega⟩
theorem Room.depth {k : Nat} {A : Around} (r : Room k A) : A.depth < recursionLimit := by have := r.dp; omega
theorem Room.units {k : Nat} {A : Around} (r : Room k A) : A.units + 64 < cLine := by have := r.un; omega
/-! ### argument lists and displays -/
def tNil : TA := fun _ H Q => Q [] H
def tCons (ta : TE) (tr : TA) : TA := fun σ H Q => ta σ H fun x H1 => tr σ H1 fun xs H2 => Q (x :: xs) H2
section
variable {X : Cx} {e : Expr} {es : List Expr} {te : TE} {t : TA} {pos : Pos}
theorem pa_nil : PA X [] tNil := fun _ _ _ _ H Q I h => Calls.spliced_nil ⟨[], H, I, .nil, h⟩
theorem pa_cons (ha : PE X e te) (hr : PA X es t) (hs : starEach (e :: es) X.env = (false, eval e X.env) :: starEach es X.env := by rfl) : PA X (e :: es) (tCons te t) := by
  intro pos pins s σ H Q I h
  rw [hs]
  show wpAny _ _ (spliced ((false, eval e X.env) :: backTo pos (starEach es X.env))) _ _ s
  refine Calls.spliced_cons (thn (ha pins s σ H _ I h) fun u s1 ⟨x, H1, I1, r1, q1⟩ => ?_)
  exact thn (hr pos pins s1 σ H1 _ I1 q1) fun us s2 ⟨xs, H2, I2, r2, q2⟩ => ⟨x :: xs, H2, I2, .cons r1 r2, q2⟩

/-- a tuple, a list of written items -/
def tTup (t : TA) : TE := fun σ H Q => t σ H fun xs H1 => xs.length ≤ sizeLine ∧ ∀ p, H1 p = none → Q (.ref p) (upd H1 p (.tup xs))
def tLst (t : TA) : TE := fun σ H Q => t σ H fun xs H1 => xs.length ≤ sizeLine ∧ ∀ p, H1 p = none → Q (.ref p) (upd H1 p (.lst xs))
theorem pe_tup {x1} (h : PA X es t) : PE X (.Tuple es x1 pos) (tTup t) := by
  intro pins s σ H Q I hq
  refine wpAny_Tuple_spliced (thn (h pos pins s σ H _ I hq) fun us s1 ⟨xs, H1, I1, r, z, q⟩ => ⟨by rw [← r.length]; exact z, ?_⟩)
  have hf : H1 s1.heap.objs.size = none := I1.hok.fresh (Nat.le_refl _)
  refine ⟨.ref s1.heap.objs.size, upd H1 s1.heap.objs.size (.tup xs), I1.laid (t' := s1.toks) (fun b u e => Heap.get?_push_of_some _ e) (Nat.le_refl _) ?_, rfl, q _ hf⟩
  exact ⟨z, us, r, ⟨_, Heap.get?_push_size _ rfl, rfl, _, rfl⟩⟩
theorem pe_lst (h : PA X es t) : PE X (.List es pos) (tLst t) := by
  intro pins s σ H Q I hq
  refine wpAny_List_spliced (thn (h pos pins s σ H _ I hq) fun us s1 ⟨xs, H1, I1, r, z, q⟩ => ⟨by rw [← r.length]; exact z, ?_⟩)
  have hf : H1 s1.heap.objs.size = none := I1.hok.fresh (Nat.le_refl _)
  refine ⟨.ref s1.heap.objs.size, upd H1 s1.heap.objs.size (.lst xs), I1.laid (t' := s1.toks) (fun b u e => Heap.get?_push_of_some _ e) (Nat.le_refl _) ?_, rfl, q _ hf⟩
  exact ⟨z, us, 0, r, Heap.get?_push_size _ rfl⟩
end

/-! ### what a def promises -/
/-- a def's promise: the bound arguments in the parameters' order, the heap, the wanted end, the wanted exception -/
abbrev Sp := List V → Hp → VK → XK → Prop
/-- how an exception lies behind a call (file 08 gives it): the callers' frames, abstract heap and state ahead of the call, the wish, the exception, the state -/
abbrev CXT := List Env → Hp → Shared → XK → Value → Shared → Prop

/-- the state at a call -/
structure Env0 (P : Program) (w : World) (K : PySem.W.Frag) (mg : Str → Option Value) (base : Heap) (A : Around) (outer : List Env) (s : Shared) (H : Hp) : Prop where
  frames : A.frames = some outer
  mod : Mod K mg base
  bs : ∀ b o, base.get? b = some o → s.heap.get? b = some o ∧ H b = none
  bsz : base.objs.size ≤ s.heap.objs.size
  funs : s.heap.FunFrames base outer
  frf : ∀ b ∈ frs outer, H b = none
  hok : HOk P w H s.heap
  bare : AllBare s.gens
/-- a call's end -/
def CE (outer : List Env) (P : Program) (w : World) (H : Hp) (s : Shared) (Q : VK) (u : Value) (s' : Shared) : Prop :=
  ∃ v H', s'.os = s.os ∧ AllBare s'.gens ∧ Un (frs outer) [] H H' s.heap s'.heap ∧ HOk P w H' s'.heap ∧ RelV v u ∧ Q v H'
def CR (CX : CXT) (outer : List Env) (P : Program) (w : World) (H : Hp) (s : Shared) (Q : VK) (E : XK) (r : Result) (s' : Shared) : Prop :=
  match r with
  | .ok (.ret u) => CE outer P w H s Q u s'
  | .ok _ => False
  | .error e => CX outer H s E e s'
structure FnOk (P : Program) (w : World) (K : PySem.W.Frag) (mg : Str → Option Value) (base : Heap) (CX : CXT) (k : Nat) (f : Addr) (fd : FuncData) (ps : List Str) (sp : Sp) : Prop where
  len : ∀ vs H Q E, sp vs H Q E → vs.length = ps.length
  run : ∀ (A : Around) (outer : List Env) (s : Shared) (H : Hp) (args : Args) (us : List Value) (vs : List V) (Q : VK) (E : XK), Room k A → Env0 P w K mg base A outer s H → BindsTo s fd args (ps.zip us) → Vals vs us → sp vs H Q E →
    codeAny (model P w) A (.call (.ref f) args) (CR CX outer P w H s Q E) s
theorem FnOk.mono {P : Program} {w : World} {K : PySem.W.Frag} {mg : Str → Option Value} {base : Heap} {CX : CXT} {j k : Nat} {f : Addr} {fd : FuncData} {ps : List Str} {sp : Sp} (F : FnOk P w K mg base CX j f fd ps sp) (h : j ≤ k) :
    FnOk P w K mg base CX k f fd ps sp := ⟨F.len, fun A outer s H args us vs Q E hr => F.run A outer s H args us vs Q E (hr.mono h)⟩
theorem Env0.in1 {P : Program} {w : World} {K : PySem.W.Frag} {mg : Str → Option Value} {base : Heap} {A : Around} {outer : List Env} {s : Shared} {H : Hp} (e : Env0 P w K mg base A outer s H) :
    Env0 P w K mg base A.in1 outer s H := ⟨e.frames, e.mod, e.bs, e.bsz, e.funs, e.frf, e.hok, e.bare⟩

section
variable {X : Cx} {pins : List (Addr × Obj)} {σ : St} {H : Hp} {s s' : Shared}
/-- from a body: what a callee wants -/
theorem Inv.env0 (I : Inv X pins σ H s) : Env0 X.prog X.w X.K X.mg X.base X.A X.stack s H :=
  ⟨I.ok.frames, I.ok.mod, I.bs, Nat.le_trans I.ok.bsz I.sz, I.stack, I.stkFree, I.hok, I.bare⟩
/-- behind a call -/
theorem Inv.after {Q : VK} {u : Value} (I : Inv X pins σ H s) (h : CE X.stack X.prog X.w H s Q u s') : EP X pins σ Q u s' := by
  obtain ⟨v, H', os, bare, un, hok, r, q⟩ := h
  obtain ⟨hh, g, d, t, os'⟩ := s'
  obtain rfl : os' = s.os := os
  exact ⟨v, H', I.call (h' := hh) (g' := g) (d' := d) (t' := t) (ch := []) un hok bare (fun b z => absurd z (by simp)), r, q⟩
end

/-! ### calls -/
/-- f(..): the written arguments, then the defaults dvs; E: what is wanted of an exception -/
def tCall (sp : Sp) (dvs : List V) (E : XK) (t : TA) : TE := fun σ H Q => t σ H fun vs H1 => sp (vs ++ dvs) H1 Q E
/-- how the parameters are bound: us the positional arguments, kw the keywords' values by name, ds the defaults that fill up -/
def Binds (K : PySem.W.Frag) (fd : FuncData) (ps : List Str) (ds : List Value) : Prop :=
  ∀ (s : Shared) (us : List Value), K.In s.heap → (us ++ ds).length = ps.length → BindsTo s fd ⟨us, []⟩ (ps.zip (us ++ ds))
/-- every parameter is given -/
theorem Binds.all {K : PySem.W.Frag} {fd : FuncData} {ps : List Str} (h : ∀ us : List Value, us.length = ps.length → bindArgs fd ⟨us, []⟩ = pure (ps.zip us)) : Binds K fd ps [] := fun s us _ hl => by
  rw [List.append_nil] at hl ⊢
  exact .of_eq (h us hl)

/-- an exception of a callee reaches what this body wants of exceptions -/
def Passes (CX : CXT) (X : Cx) (E : XK) : Prop := ∀ (pins : List (Addr × Obj)) (σ : St) (H : Hp) (s : Shared) (e : Value) (s' : Shared), Inv X pins σ H s → CX X.stack H s E e s' → X.xe e s'

section
variable {X : Cx} {CX : CXT} {k : Nat} {f C : Addr} {fd : FuncData} {ps : List Str} {sp : Sp} {dvs : List V} {ds : List Value} {E : XK} {x m : Str} {p pos apos : Pos} {e o : Expr} {es : List Expr} {ta : TE} {t : TA}

/-- the callee runs -/
theorem run_fn {pins : List (Addr × Obj)} {σ : St} {H : Hp} {s : Shared} {Q : VK} {us : List Value} {vs : List V} (F : FnOk X.prog X.w X.K X.mg X.base CX k f fd ps sp) (hr : Room k X.A) (hb : Binds X.K fd ps ds) (hd : Vals dvs ds) (hx : Passes CX X E)
    (I : Inv X pins σ H s) (r : Vals vs us) (h : sp (vs ++ dvs) H Q E) : wpAny (model X.prog X.w) X.A (call (.ref f) us) (EP X pins σ Q) X.xe s := by
  have r2 : Vals (vs ++ dvs) (us ++ ds) := r.append hd
  have hl : (us ++ ds).length = ps.length := by rw [← r2.length]; exact F.len _ _ _ _ h
  refine wpAny_call (codeAny_mono (F.run X.A X.stack s H ⟨us, []⟩ (us ++ ds) (vs ++ dvs) Q E hr I.env0 (hb s us I.kIn hl) r2 h) fun r s' hq => ?_)
  cases r with
  | error e => exact hx pins σ H s e s' I hq
  | ok fl =>
    cases fl with
    | ret u => exact I.after hq
    | next => exact False.elim hq
    | brk => exact False.elim hq
    | cont => exact False.elim hq

theorem pe_call (F : FnOk X.prog X.w X.K X.mg X.base CX k f fd ps sp) (hr : Room k X.A) (hg : Gl X x) (hm : X.mg x = some (.ref f)) (hk : PySem.W.keepIn X.K (.ref f) = true) (hb : Binds X.K fd ps ds) (hd : Vals dvs ds) (hx : Passes CX X E)
    (ha : PA X (e :: es) t) (hdb : (x == ("__debug__" : Str)) = false := by decide) (he : starEach (e :: es) X.env = (false, eval e X.env) :: starEach es X.env := by rfl) (hpl : (backTo pos (starEach es X.env)).any (·.1) = false := by rfl) :
    PE X (.Call (.Name x p) (e :: es) [] pos) (tCall sp dvs E t) := by
  intro pins s σ H Q I h
  refine wpAny_Call_Name_kw (ld_glob I hg hm ?_ hdb)
  refine PySem.W.callWith_K (h₀ := X.base) I.ok.mod.kin hk (thn (ha pos pins s σ H _ I h) fun us s1 ⟨vs, H1, I1, r, q⟩ => ⟨I1.kIn, ?_⟩) he hpl
  exact run_fn F hr hb hd hx I1 r q
/-- what a class must have to be made -/
structure Mk (K : PySem.W.Frag) (C f : Addr) : Prop where
  makes : PySem.W.makesIn K C = true
  init : PySem.W.findIn K (.ref C) "__init__" = some (some (.ref f))
  fn : PySem.W.isFn K (.ref f) = true
  kp : PySem.W.keepIn K (.ref C) = true

end

/-! ### keywords -/
section
variable {X : Cx} {CX : CXT} {k : Nat} {f C : Addr} {fd : FuncData} {ps ks : List Str} {sp : Sp} {E : XK} {x m : Str} {p pos apos kpos : Pos} {e o : Expr} {es : List Expr} {kws : List Keyword} {te ta : TE} {t tk : TA} {nm : Option Str}
/-- how a call with keywords binds: g puts the positional values us and the keywords' values ws (names ks) in the parameters' order, defaults among them -/
structure KBinds (K : PySem.W.Frag) (fd : FuncData) (ps ks : List Str) (g : List Value → List Value → List Value) (gV : List V → List V → List V) : Prop where
  to : ∀ (s : Shared) (us ws : List Value), K.In s.heap → (g us ws).length = ps.length → BindsTo s fd ⟨us, ks.zip ws⟩ (ps.zip (g us ws))
  rel : ∀ {vs : List V} {us : List Value} {zs : List V} {ws : List Value}, Vals vs us → Vals zs ws → Vals (gV vs zs) (g us ws)
variable {g : List Value → List Value → List Value} {gV : List V → List V → List V}
end

/-! ### a def's body keeps its promise -/
/-- names: the parameters first -/
structure FnScope (N P : List Str) (sc : Scope) : Prop where
  kind : sc.kind = .function
  co : sc.isCoroutine = false
  gen : sc.isGenerator = false
  nd : N.Nodup
  pre : N.take P.length = P
  par : ∀ x ∈ P, sc.names.lookup x = some .local ∨ sc.names.lookup x = some .cell
  nofree : ∀ y ∈ sc.names, y.2 ≠ .free

theorem bindL_out {kindOf : Str → Option NameKind} {x : Str} : ∀ {binds : List (Str × Value)} {m : Str → Option Value}, (∀ v, (x, v) ∉ binds) → bindL kindOf binds m x = m x
  | [], _, _ => rfl
  | (n, v) :: r, m, h => by
    unfold bindL
    rw [bindL_out fun w hw => h w (List.mem_cons_of_mem _ hw)]
    split
    · have : x ≠ n := by rintro rfl; exact h v List.mem_cons_self
      simp [this]
    · rfl
theorem bindC_out {kindOf : Str → Option NameKind} {x : Str} : ∀ {binds : List (Str × Value)} {m : Str → Option Value}, (∀ v, (x, v) ∉ binds) → bindC kindOf binds m x = m x
  | [], _, _ => rfl
  | (n, v) :: r, m, h => by
    unfold bindC
    rw [bindC_out fun w hw => h w (List.mem_cons_of_mem _ hw)]
    split
    · rfl
    · have : x ≠ n := by rintro rfl; exact h v List.mem_cons_self
      simp [this]
theorem bindL_get {kindOf : Str → Option NameKind} {x : Str} {v : Value} : ∀ {P : List Str} {vs : List Value} {i : Nat} {m : Str → Option Value}, P.Nodup → P[i]? = some x → vs[i]? = some v → kindOf x = some .local →
    bindL kindOf (P.zip vs) m x = some v
  | [], _, _, _, _, h, _, _ => by simp at h
  | _ :: _, [], _, _, _, _, h, _ => by simp at h
  | p :: P, w :: vs, 0, m, nd, h1, h2, hk => by
    simp at h1 h2; subst h1; subst h2
    show bindL kindOf ((p, w) :: P.zip vs) m p = _
    unfold bindL
    rw [bindL_out fun v hv => (List.nodup_cons.mp nd).1 (List.of_mem_zip hv).1, if_pos hk]
    simp
  | p :: P, w :: vs, i + 1, m, nd, h1, h2, hk => by
    show bindL kindOf ((p, w) :: P.zip vs) m x = _
    unfold bindL
    exact bindL_get (i := i) (List.nodup_cons.mp nd).2 (by simpa using h1) (by simpa using h2) hk
theorem bindC_get {kindOf : Str → Option NameKind} {x : Str} {v : Value} : ∀ {P : List Str} {vs : List Value} {i : Nat} {m : Str → Option Value}, P.Nodup → P[i]? = some x → vs[i]? = some v → kindOf x ≠ some .local →
    bindC kindOf (P.zip vs) m x = some v
  | [], _, _, _, _, h, _, _ => by simp at h
  | _ :: _, [], _, _, _, _, h, _ => by simp at h
  | p :: P, w :: vs, 0, m, nd, h1, h2, hk => by
    simp at h1 h2; subst h1; subst h2
    show bindC kindOf ((p, w) :: P.zip vs) m p = _
    unfold bindC
    rw [bindC_out fun v hv => (List.nodup_cons.mp nd).1 (List.of_mem_zip hv).1, if_neg hk]
    simp
  | p :: P, w :: vs, i + 1, m, nd, h1, h2, hk => by
    show bindC kindOf ((p, w) :: P.zip vs) m x = _
    unfold bindC
    exact bindC_get (i := i) (List.nodup_cons.mp nd).2 (by simpa using h1) (by simpa using h2) hk

/-- the names' values at the entry -/
def start (N : List Str) (vs : List V) : St := vs.map some ++ List.replicate (N.length - vs.length) none

/-- the context of a def's body, at its entry; an exception leaves the frame, then lies as CX says -/
def cxOf (CX : CXT) (P : Program) (w : World) (K : PySem.W.Frag) (mg : Str → Option Value) (base : Heap) (N : List Str) (qual : Str) (scope : Scope) (f : Addr) (cd : Value) (A : Around) (outer : List Env) (s : Shared) (H : Hp) (E : XK) : Cx where
  prog := P
  w := w
  K := K
  mg := mg
  base := base
  A := A.deeper (envOfC qual scope s.heap.objs.size f cd)
  N := N
  s₀ := s
  H₀ := H
  env := envOfC qual scope s.heap.objs.size f cd
  outer := outer
  stack := envOfC qual scope s.heap.objs.size f cd :: outer
  ex := []
  calm := true
  fn := fun _ => true
  pn := []
  xe := fun e s' => wpAny (model P w) (A.deeper (envOfC qual scope s.heap.objs.size f cd)) (leaving (envOfC qual scope s.heap.objs.size f cd) e) (fun _ s'' => CX outer H s E e s'') (fun e' s'' => CX outer H s E e' s'') s'

theorem cell_has {sc : Scope} {n : Nat} {x : Str} (h : sc.names.lookup x = some .cell) : ∃ c, (cellsFrom n sc.names []).lookup x = some c := by
  have q := PySem.W.cellsFrom_some sc.names n [] (.inl h)
  exact Option.isSome_iff_exists.mp q

theorem inv_start {CX : CXT} {P : Program} {w : World} {K : PySem.W.Frag} {mg : Str → Option Value} {base : Heap} {N ps : List Str} {qual : Str} {scope : Scope} {f : Addr} {cd : Value} {A : Around} {outer : List Env} {s s1 : Shared} {H : Hp} {E : XK} {us : List Value} {vs : List V}
    (S : FnScope N ps scope) (hd : A.handled = none) (e0 : Env0 P w K mg base A outer s H) (hl : vs.length = ps.length) (r : Vals vs us)
    (x : InCallC s s.heap.objs.size (bindL (envOfC qual scope s.heap.objs.size f cd).kindOf (ps.zip us) fun _ => none) (cellsFrom (s.heap.objs.size + 1) scope.names []) (bindC (envOfC qual scope s.heap.objs.size f cd).kindOf (ps.zip us) fun _ => none) s1) :
    Inv (cxOf CX P w K mg base N qual scope f cd A outer s H E) [] (start N vs) H s1 := by
  have hpl : ps.length ≤ N.length := by have := congrArg List.length S.pre; rw [List.length_take] at this; omega
  obtain ⟨h1, tk, rfl, hk⟩ := x.done
  have noA : ∀ b : Addr, b ∉ (cxOf CX P w K mg base N qual scope f cd A outer s H E).ex := fun b z => absurd (show b ∈ ([] : List Addr) from z) (by simp)
  refine ⟨⟨e0.mod, S.kind, rfl, rfl, Nat.le_refl _, fun y z c h1 h2 => ?_, fun y hy => ?_, fun y c _ h => ?_, fun _ => hd, Around.frames_deeper e0.frames, .inr ⟨rfl, rfl⟩, fun b z => absurd z (noA b), e0.bs, e0.bsz, fun b _ _ => noA b, fun b z => absurd z (noA b), e0.funs, e0.frf⟩,
    rfl, e0.bare, Un.kept hk, ⟨_, x.toInCall.ns, fun i y v h1 h2 h3 => ?_⟩, fun y c h => ⟨_, x.cell y c h⟩, e0.hok.fresh (Nat.le_refl _), fun y c h => ?_, fun p hp => absurd (show p ∈ ([] : List (Addr × Obj)) from hp) (by simp), e0.hok.kept hk, ?_⟩
  · exact name_of_addr x.apart (PySem.mem_of_lookup h1) (PySem.mem_of_lookup h2)
  · have hy : scope.names.lookup y = some .cell ∨ scope.names.lookup y = some .free := hy
    rcases hy with hy | hy
    · exact cell_has hy
    · exact absurd rfl (S.nofree _ (PySem.mem_of_lookup hy))
  · exact Nat.le_of_lt (x.above y c (PySem.mem_of_lookup h))
  · have hi : i < vs.length := by
      unfold start at h2
      by_cases hi : i < vs.length
      · exact hi
      · rw [List.getElem?_append_right (by simpa using hi)] at h2
        rw [List.getElem?_replicate] at h2
        split at h2 <;> cases h2
    have ha : vs[i]? = some v := by
      unfold start at h2
      rw [List.getElem?_append_left (by simpa using hi), List.getElem?_map] at h2
      cases e : vs[i]? with
      | none => rw [e] at h2; cases h2
      | some a => rw [e] at h2; cases h2; rfl
    obtain ⟨u, hu, rv⟩ := r.get ha
    have hp : ps[i]? = some y := by
      rw [← S.pre, List.getElem?_take_of_lt (by omega)]; exact h1
    have ndP : ps.Nodup := by rw [← S.pre]; exact S.nd.sublist (List.take_sublist _ _)
    refine ⟨u, rv, ?_⟩
    rcases S.par y (List.mem_of_getElem? hp) with k | k
    · exact .inl ⟨k, bindL_get ndP hp hu k⟩
    · obtain ⟨c, e⟩ := cell_has (n := s.heap.objs.size + 1) k
      refine .inr ⟨.inl k, c, e, ?_⟩
      have q := x.cell y c e
      rw [bindC_get ndP hp hu (by show scope.names.lookup y ≠ _; rw [k]; decide)] at q
      exact q
  · exact e0.hok.fresh (Nat.le_of_lt (x.above y c (PySem.mem_of_lookup h)))
  · unfold start
    show _ = N.length
    rw [List.length_append, List.length_map, List.length_replicate]
    omega

/-- THE RULE: a def (or a method) of the text, by its body. The body's reading t is chosen for each entry; it is run at the parameters' values -/
theorem fn_of {CX : CXT} {P : Program} {w : World} {K : PySem.W.Frag} {mg : Str → Option Value} {base : Heap} {k : Nat} {f : Addr} {name qual : Str} {params : Arguments} {body : List Stmt} {scope : Scope} {dV kV doc pm cdv ct oc : Value} {an od : Option Addr}
    {osl : Array (Option Value)} {N ps : List Str} {sp : Sp} (lk : K.lookup f = some ⟨oc, od, .func (PySem.W.fnOf name qual params body scope dV kV doc pm an cdv ct), osl⟩) (hcd : PySem.W.codeIn K cdv qual = true) (S : FnScope N ps scope)
    (len : ∀ vs H Q E, sp vs H Q E → vs.length = ps.length)
    (hbody : ∀ (A : Around) (outer : List Env) (s : Shared) (H : Hp) (vs : List V) (Q : VK) (E : XK), Room k (A.deeper (envOfC qual scope s.heap.objs.size f cdv)) → sp vs H Q E →
      ∃ t, PSs (cxOf CX P w K mg base N qual scope f cdv A outer s H E) body t ∧ t { nx := fun _ H' => Q .non H', rt := Q } (start N vs) H) :
    FnOk P w K mg base CX (k + 1) f (PySem.W.fnOf name qual params body scope dV kV doc pm an cdv ct) ps sp := by
  refine ⟨len, fun A outer s H args us vs Q E hr e0 hb r hsp => ?_⟩
  have hl := len _ _ _ _ hsp
  have KX : K.In s.heap := e0.mod.kin.keeps fun b o e => (e0.bs b o e).1
  have lim : s.heap.NoLimit := e0.mod.nolimit.keeps fun b o e => (e0.bs b o e).1
  have hkind : ∀ y ∈ ps.zip us, scope.names.lookup y.1 = some .local ∨ (scope.names.lookup y.1 = some .cell ∧ ((cellsFrom (s.heap.objs.size + 1) scope.names []).lookup y.1).isSome = true) := fun ⟨n, v⟩ hy => by
    rcases S.par n (List.of_mem_zip hy).1 with q | q
    · exact .inl q
    · exact .inr ⟨q, PySem.W.cellsFrom_some _ _ _ (.inl q)⟩
  refine codeAny_call_function hr.depth (KX _ _ lk) rfl S.co S.gen rfl (PySem.W.codeRec_of KX hcd) (hb _ _ _ _ ?_)
  refine wpAny_newFunctionEnv_cells S.kind hkind fun env he s1 x => ?_
  subst he
  refine ⟨lim.keeps x.toInCall.keep, codeAny_func ?_⟩
  obtain ⟨t, ht, hq⟩ := hbody A outer s H vs Q E (hr.deeper _) hsp
  have I : Inv (cxOf CX P w K mg base N qual scope f cdv A outer s H E) [] (start N vs) H s1 := inv_start S hr.hd e0 hl r x
  refine wpAny_mono (ht [] s1 (start N vs) H _ I hq) (fun fl s' hs => ?_) fun e s' hs => hs
  have fin : ∀ {σ' : St} {H' : Hp} {v : V} {u : Value}, Inv (cxOf CX P w K mg base N qual scope f cdv A outer s H E) [] σ' H' s' → RelV v u → Q v H' → CE outer P w H s Q u s' :=
    fun {σ' H' v u} J rv q => ⟨v, H', J.os, J.bare, J.base, J.hok, rv, q⟩
  cases fl with
  | ret u =>
    obtain ⟨v, σ', H', J, rv, q⟩ := hs
    exact fin J rv q
  | next =>
    obtain ⟨σ', H', J, q⟩ := hs
    exact fin (v := V.non) (u := Value.none) J rfl q
  | brk =>
    obtain ⟨_, _, _, q⟩ := hs
    exact False.elim q
  | cont =>
    obtain ⟨_, _, _, q⟩ := hs
    exact False.elim q
end L2

namespace L2
open PySem PySem.Spec PyProof.Rows
section
variable {X : Cx} {x : Str} {p pos : Pos} {e : Expr} {es : List Expr} {t : TA} {id T : String} {r : List V → Hp → VK → Prop}

def tCB (r : List V → Hp → VK → Prop) (t : TA) : TE := fun σ H Q => t σ H fun vs H1 => r vs H1 Q
/-- f(e, ..), f a built-in function -/
theorem pe_callB (hc : CallR X (.builtin id) r) (hg : Gl X x) (hm : X.mg x = none) (hv : bootBuiltins x = some (.builtin id)) (ha : PA X (e :: es) t) (hn : x ≠ "__name__" := by decide) (hdb : (x == ("__debug__" : Str)) = false := by decide)
    (he : starEach (e :: es) X.env = (false, eval e X.env) :: starEach es X.env := by rfl) (hpl : (backTo pos (starEach es X.env)).any (·.1) = false := by rfl) : PE X (.Call (.Name x p) (e :: es) [] pos) (tCB r t) := by
  intro pins s σ H Q I h
  refine wpAny_Call_Name_kw (ld_blt I hg hm hv ?_ hn hdb)
  exact PyProof.Rows.callWith_builtin1 (thn (ha pos pins s σ H _ I h) fun us s1 ⟨vs, H1, I1, r1, q1⟩ => hc pins s1 σ H1 vs us Q I1 r1 q1) he hpl
end
end L2

namespace HT
open PySem PyProof.Rows

section
open PySem.SeqAt
open PySem.AutoSeq1 (wpAny_loadPart')
open PySem.MeetsSeq PySem.MeetsSeq2 PySem.MeetsSeq3

end

section
variable {prog : Program} {w : World} {A : Around} {E : Value → Shared → Prop} {s : Shared}

/-! ### t[a:b], not the whole -/
/-- a slice's bound as a place among n (d where it is left out) -/
def sIx (n d : Nat) : Option Int → Nat
  | none => d
  | some v => if v < 0 then (v + (n : Int)).toNat else min v.toNat n
theorem sIx_none (n d : Nat) : sIx n d none = d := rfl
theorem sIx_nat (n d k : Nat) : sIx n d (some (k : Int)) = min k n := by
  show (if (k : Int) < 0 then ((k : Int) + (n : Int)).toNat else min (k : Int).toNat n) = min k n
  rw [if_neg (by omega), Int.toNat_natCast]
end
end HT

namespace L2
open PySem PySem.Spec PyProof.Rows

/-! ### the parts of a slice -/
abbrev TO := St → Hp → (Option Int → Hp → Prop) → Prop
/-- a slice's part (left out, or an int) -/
def PO (X : Cx) (e : Option Expr) (t : TO) : Prop :=
  ∀ (pins : List (Addr × Obj)) (s : Shared) (σ : St) (H : Hp) (Q : Option Int → Hp → Prop), Inv X pins σ H s → t σ H Q →
    wpAny (model X.prog X.w) X.A (evalPart e X.env) (fun u s' => ∃ o H', Inv X pins σ H' s' ∧ IsPart u o ∧ Q o H') X.xe s
def tNoPart : TO := fun _ H Q => Q none H
def tPart (t : TE) : TO := fun σ H Q => t σ H fun x H1 => ∃ i, x = .int i ∧ Q (some i) H1

theorem intsAre_of {ns : List Int} : ∀ {us : List Value}, Vals (ns.map V.int) us → IntsAre us ns := by
  induction ns with
  | nil => intro us r; rw [List.map_nil] at r; cases r; exact .nil
  | cons n ns ih =>
    intro us r
    rw [List.map_cons] at r
    cases r with
    | cons r1 r2 =>
      obtain ⟨t, e⟩ := r1
      subst e
      exact .cons n t (ih r2)

section
variable {X : Cx} {e : Expr} {te : TE} {lo hi : Option Expr} {tl th : TO} {pos p2 : Pos}

theorem po_none : PO X none tNoPart := by
  intro pins s σ H Q I h
  rw [evalPart_none]
  exact wpAny_pure ⟨none, H, I, .none, h⟩
theorem po_some (h : PE X e te) : PO X (some e) (tPart te) := by
  intro pins s σ H Q I hw
  rw [evalPart_some]
  refine thn (h pins s σ H _ I hw) fun u s1 ⟨x, H1, I1, r1, q1⟩ => ?_
  obtain ⟨i, rfl, q⟩ := q1
  obtain ⟨t, rfl⟩ := r1
  exact ⟨some i, H1, I1, .int i t, q⟩

/-- what a slice of a value is, by values: the slice object stands at sl -/
def SlR (X : Cx) (r : V → Option Int → Option Int → Hp → VK → Prop) : Prop :=
  ∀ (pins : List (Addr × Obj)) (s : Shared) (σ : St) (H : Hp) (x : V) (v vl vu : Value) (lo hi : Option Int) (sl : Addr) (Q : VK), Inv X pins σ H s → RelV x v → s.heap.IsSliceOf sl vl vu .none → IsPart vl lo → IsPart vu hi → r x lo hi H Q →
    ∃ T id, typeLookup (.type T) "__getitem__" = pure (some (.builtin id)) ∧ s.TypeIs v T ∧ wpAny (model X.prog X.w) X.A (getItem v (.ref sl)) (EP X pins σ Q) X.xe s
def tSl (r : V → Option Int → Option Int → Hp → VK → Prop) (te : TE) (tl th : TO) : TE := fun σ H Q => te σ H fun x H1 => tl σ H1 fun l H2 => th σ H2 fun u H3 => r x l u H3 Q
/-- a[lo:hi], any a -/
theorem pe_slice {r : V → Option Int → Option Int → Hp → VK → Prop} (hr : SlR X r) (he : PE X e te) (hl : PO X lo tl) (hu : PO X hi th) : PE X (.Subscript e (.Slice lo hi none p2) pos) (tSl r te tl th) := by
  intro pins s σ H Q I h
  refine Subscript_ (thn (he pins s σ H _ I h) fun v s1 ⟨x, H1, I1, r1, q1⟩ => ?_)
  refine wpAny_Slice (thn (hl pins s1 σ H1 _ I1 q1) fun vl s2 ⟨l, H2, I2, pl, q2⟩ => thn (hu pins s2 σ H2 _ I2 q2) fun vu s3 ⟨u, H3, I3, pu, q3⟩ => ?_)
  rw [evalPart_none]
  refine wpAny_pure ?_
  have I4 : Inv X pins σ H3 { s3 with heap := s3.heap.push { cls := .type "slice", data := .fields #[vl, vu, .none] } } := I3.kept (t' := s3.toks) fun b ob q => Heap.get?_push_of_some _ q
  obtain ⟨T, id, hT, ht, hg⟩ := hr pins { s3 with heap := s3.heap.push { cls := .type "slice", data := .fields #[vl, vu, .none] } } σ H3 x v vl vu l u s3.heap.objs.size Q I4 r1 (Heap.IsSliceOf.new ..) pl pu q3
  show wpAny (model X.prog X.w) X.A (subscriptTail e (.Slice lo hi none p2) v (.ref s3.heap.objs.size)) (EP X pins σ Q) X.xe { s3 with heap := s3.heap.push { cls := .type "slice", data := .fields #[vl, vu, .none] } }
  exact tail_any (ops := [.ref s3.heap.objs.size, v]) ht hT hg (by with_unfolding_all rfl)

/-- the items of xs[lo:hi] -/
def cutV (xs : List V) (lo hi : Option Int) : List V := (xs.drop (HT.sIx xs.length 0 lo)).take (HT.sIx xs.length xs.length hi - HT.sIx xs.length 0 lo)
theorem cutV_length (xs : List V) (lo hi : Option Int) : (cutV xs lo hi).length ≤ xs.length := by
  unfold cutV
  rw [List.length_take, List.length_drop]
  omega
/-- t[lo:hi], not the whole of it (the whole would be t itself) -/
def rSlT (K : PySem.W.Frag) : V → Option Int → Option Int → Hp → VK → Prop := fun x lo hi H Q => ∃ a xs, x = .ref a ∧ SqT K H a xs ∧
  ¬ (HT.sIx xs.length 0 lo = 0 ∧ HT.sIx xs.length xs.length hi = xs.length) ∧ ∀ p, H p = none → Q (.ref p) (upd H p (.tup (cutV xs lo hi)))
/-! ### t < u, t + u -/
end
end L2

namespace L2
open PySem PySem.Spec PyProof.Rows

/-! ### places -/
/-- the place that an index of any sign means -/
def ixN (n : Nat) (i : Int) : Option Nat := if 0 ≤ i then (if i < n then some i.toNat else none) else if -(n : Int) ≤ i then some (i + n).toNat else none
def atI {α : Type} (xs : List α) (i : Int) : Option α := (ixN xs.length i).bind fun j => xs[j]?
theorem ixN_seq {n : Nat} {i : Int} {j : Nat} (h : ixN n i = some j) : seqIndex? i n = some j ∧ j < n ∧ -(n : Int) ≤ i ∧ i < n := by
  unfold ixN at h
  by_cases h0 : 0 ≤ i
  · rw [if_pos h0] at h
    by_cases h1 : i < n
    · rw [if_pos h1] at h
      have e : i.toNat = j := Option.some.inj h
      exact ⟨by rw [seqIndex_of h0 h1, e], by omega, by omega, h1⟩
    · rw [if_neg h1] at h; cases h
  · rw [if_neg h0] at h
    by_cases h1 : -(n : Int) ≤ i
    · rw [if_pos h1] at h
      have e : (i + n).toNat = j := Option.some.inj h
      exact ⟨by rw [seqIndex_neg (by omega) h1, e], by omega, h1, by omega⟩
    · rw [if_neg h1] at h; cases h
theorem atI_get {α : Type} {xs : List α} {i : Int} {v : α} (h : atI xs i = some v) : ∃ j, seqIndex? i xs.length = some j ∧ xs[j]? = some v ∧ j < xs.length ∧ -(xs.length : Int) ≤ i ∧ i < xs.length := by
  unfold atI at h
  cases e : ixN xs.length i with
  | none => rw [e] at h; cases h
  | some j =>
    rw [e] at h
    obtain ⟨h1, h2, h3, h4⟩ := ixN_seq e
    exact ⟨j, h1, h, h2, h3, h4⟩
theorem atI_nat {α : Type} {xs : List α} {j : Nat} {v : α} (h : xs[j]? = some v) : atI xs (j : Int) = some v := by
  have hj : j < xs.length := (List.getElem?_eq_some_iff.mp h).1
  have e : ixN xs.length (j : Int) = some j := by
    unfold ixN
    rw [if_pos (by omega), if_pos (by omega)]; simp
  unfold atI; rw [e]; exact h
/-! ### what may be subscripted -/
/-- what stands as an index of a plain subscript -/
def PlainIx (b : Expr) : Prop := ∀ o i, subscripted b false o i = operate [o, i] (getItem o i)
/-- a subscript by values -/
def IxR (X : Cx) (r : R2) : Prop :=
  ∀ (value slice : Expr) (pins : List (Addr × Obj)) (s : Shared) (σ : St) (H : Hp) (x y : V) (v u : Value) (Q : VK), Inv X pins σ H s → RelV x v → RelV y u → r x y H Q →
    subscripted slice false v u = operate [v, u] (getItem v u) → wpAny (model X.prog X.w) X.A (subscriptTail value slice v u) (EP X pins σ Q) X.xe s
/-- a call of a builtin's method by values: the receiver, the arguments -/
def MtR (X : Cx) (id : String) (r : V → List V → Hp → VK → Prop) : Prop :=
  ∀ (pins : List (Addr × Obj)) (s : Shared) (σ : St) (H : Hp) (x : V) (xs : List V) (v : Value) (us : List Value) (Q : VK), Inv X pins σ H s → RelV x v → Vals xs us → r x xs H Q →
    wpAny (model X.prog X.w) X.A (call (.builtin id) (v :: us)) (EP X pins σ Q) X.xe s
section
variable {X : Cx} {a b : Expr} {ta tb : TE} {pos : Pos}
/-- a[b] -/
theorem pe_ix {r : R2} (hr : IxR X r) (ha : PE X a ta) (hb : PE X b tb) (hs : PlainIx b) : PE X (.Subscript a b pos) (tOp r ta tb) := by
  intro pins s σ H Q I h
  exact Subscript_ (binT ha hb I h fun v u s2 x y H2 I2 rx ry q => hr a b pins s2 σ H2 x y v u Q I2 rx ry q (hs _ _))

def rIxL (K : PySem.W.Frag) : R2 := fun x y H Q => ∃ p xs i v, x = .ref p ∧ y = .int i ∧ SqL K H p xs ∧ atI xs i = some v ∧ Q v H
def rIxT (K : PySem.W.Frag) : R2 := fun x y H Q => ∃ p xs i v, x = .ref p ∧ y = .int i ∧ SqT K H p xs ∧ atI xs i = some v ∧ Q v H
def rIxS : R2 := fun x y H Q => ∃ z i c, x = .str z ∧ y = .int i ∧ z.length ≤ sizeLine ∧ atI z.cps.toList i = some c ∧ Q (.str ⟨#[c]⟩) H
theorem ix_list : IxR X (rIxL X.K) := by
  intro value slice pins s σ H x y v u Q I rx ry h hs
  obtain ⟨p, xs, i, z, rfl, rfl, hq, he, q⟩ := h
  cases rx
  obtain ⟨t, rfl⟩ := ry
  obtain ⟨its, r, pl, hz⟩ := I.list hq
  obtain ⟨j, h1, h2, h3, h4, h5⟩ := atI_get he
  obtain ⟨w, ew, rw'⟩ := r.get h2
  have hl := r.length
  have hn := line63
  have fin : EP X pins σ Q w s := ⟨z, H, I, rw', q⟩
  by_cases h0 : 0 ≤ i
  · have hj : i.toNat = j := by
      rw [seqIndex_of h0 h5] at h1
      exact Option.some.inj h1
    exact item_listR pl.isList h0 (by omega) (by rw [hj]; simpa using ew) fin hs
  · have hj : (i + (its.toArray.size : Int)).toNat = j := by
      rw [seqIndex_neg (by omega) h4] at h1
      rw [List.size_toArray, ← hl]
      exact Option.some.inj h1
    exact subscriptTail_builtinR (x := w) pl.isList.typeIs slot_list_getitem.lookup
      (wpAny_getItem_list_neg (Q := fun r s' => r = w ∧ EP X pins σ Q r s') pl.isList (by omega) (by rw [List.size_toArray] <;> omega) (by omega) (by rw [hj]; simpa using ew) ⟨rfl, fin⟩) hs
theorem ix_tup : IxR X (rIxT X.K) := by
  intro value slice pins s σ H x y v u Q I rx ry h hs
  obtain ⟨p, xs, i, z, rfl, rfl, hq, he, q⟩ := h
  cases rx
  obtain ⟨t, rfl⟩ := ry
  obtain ⟨its, r, pl, hz⟩ := I.tuple hq
  obtain ⟨j, h1, h2, h3, h4, h5⟩ := atI_get he
  obtain ⟨w, ew, rw'⟩ := r.get h2
  have hl := r.length
  have hn := line63
  have fin : EP X pins σ Q w s := ⟨z, H, I, rw', q⟩
  exact subscriptTail_builtinR (x := w) pl.typeIs slot_tuple_getitem.lookup
    (getItem_tuple (j := j) (Q := fun r s' => r = w ∧ EP X pins σ Q r s') pl (by omega) (by omega) (by rw [List.size_toArray, ← hl]; exact h1) (by simpa using ew) ⟨rfl, fin⟩) hs
/-! ### xs[i] = v, any sign -/
theorem Inv.lst {pins : List (Addr × Obj)} {σ : St} {H : Hp} {s : Shared} {p : Addr} {xs : List V} (I : Inv X pins σ H s) (h : H p = some (.lst xs)) :
    ∃ (its : List Value) (n : Nat), Vals xs its ∧ s.heap.get? p = some { cls := .type "list", data := .seq its.toArray n } ∧ xs.length ≤ sizeLine := by
  obtain ⟨z, its, n, r, e⟩ := I.hok p _ h
  exact ⟨its, n, r, e, z⟩
def rSetL : V → V → V → Hp → (Hp → Prop) → Prop := fun o i v H Q => ∃ p xs k j, o = .ref p ∧ i = .int k ∧ H p = some (.lst xs) ∧ ixN xs.length k = some j ∧ Q (upd H p (.lst (xs.set j v)))
/-! ### slices -/
theorem slice_bounds (lo hi : Option Int) (n : Nat) : (sliceBounds lo hi none n).1 = ((HT.sIx n 0 lo : Nat) : Int) ∧ (sliceBounds lo hi none n).2.1 = ((HT.sIx n n hi : Nat) : Int) ∧ (sliceBounds lo hi none n).2.2 = 1 := by
  refine ⟨?_, ?_, rfl⟩
  · cases lo with
    | none => simp [sliceBounds, HT.sIx]
    | some i =>
      simp only [sliceBounds, HT.sIx, Option.getD_none, show (1 : Int) > 0 by decide, if_true]
      by_cases h : i < 0
      · simp only [h, if_true] <;> omega
      · simp only [h, if_false] <;> omega
  · cases hi with
    | none => simp [sliceBounds, HT.sIx]
    | some i =>
      simp only [sliceBounds, HT.sIx, Option.getD_none, show (1 : Int) > 0 by decide, if_true]
      by_cases h : i < 0
      · simp only [h, if_true] <;> omega
      · simp only [h, if_false] <;> omega
theorem slicePick_cut (its : List Value) (lo hi : Option Int) : slicePick its.toArray lo hi none = ((its.drop (HT.sIx its.length 0 lo)).take (HT.sIx its.length its.length hi - HT.sIx its.length 0 lo)).toArray := by
  obtain ⟨h1, h2, h3⟩ := slice_bounds lo hi its.toArray.size
  unfold slicePick
  rw [h1, h2, h3]
  simp only [sliceRange_one, pick_run, List.size_toArray] <;> rfl
/-- xs[lo:hi] of a list: a new list -/
def rSlL (K : PySem.W.Frag) : V → Option Int → Option Int → Hp → VK → Prop := fun x lo hi H Q => ∃ a xs, x = .ref a ∧ SqL K H a xs ∧ ∀ p, H p = none → Q (.ref p) (upd H p (.lst (cutV xs lo hi)))
theorem sl_list : SlR X (rSlL X.K) := by
  intro pins s σ H x v vl vu lo hi sl Q I rx hs pl pu h
  obtain ⟨a, xs, rfl, hx, q⟩ := h
  cases rx
  obtain ⟨its, r, ht, hz⟩ := I.list hx
  have hlen := r.length
  refine ⟨"list", _, slot_list_getitem.lookup, ht.isList.typeIs, ?_⟩
  refine wpAny_getItem_list_slice ht.isList hs pl pu .none (by simp) ?_ (by rw [List.size_toArray] <;> omega)
  rw [slicePick_cut, ← hlen]
  refine ⟨.ref s.heap.objs.size, _, I.laid (t' := s.toks) (o := .lst (cutV xs lo hi)) (fun b ob q => Heap.get?_push_of_some _ q) (Nat.le_refl _) ?_, rfl, q _ (I.hok.fresh (Nat.le_refl _))⟩
  exact ⟨Nat.le_trans (cutV_length xs lo hi) hz, _, 0, (r.drop (HT.sIx xs.length 0 lo)).take (HT.sIx xs.length xs.length hi - HT.sIx xs.length 0 lo), Heap.get?_push_size _ rfl⟩

/-! ### in, not in: flat items -/
def flatV : V → Bool
  | .non => true
  | .bl _ => true
  | .int _ => true
  | .str _ => true
  | _ => false
/-- == of flat values -/
def eqV : V → V → Bool
  | .non, .non => true
  | .bl a, .bl b => a == b
  | .bl a, .int b => (if a then 1 else 0) == b
  | .int a, .bl b => a == (if b then 1 else 0)
  | .int a, .int b => a == b
  | .str a, .str b => a == b
  | _, _ => false
theorem eqAt_V {A : Around} {s : Shared} {y x : V} {u v : Value} (ry : RelV y u) (rx : RelV x v) (fy : flatV y = true) (fx : flatV x = true) : SeqAt.EqAt A s u v (eqV y x) := by
  cases y with
  | non =>
    cases ry
    cases x with
    | non => cases rx; exact SeqAt.EqAt.same _
    | bl b => cases rx; exact SeqAt.EqAt.none_bool b
    | int b => obtain ⟨t, rfl⟩ := rx; exact SeqAt.EqAt.none_int b t
    | str b => obtain ⟨t, rfl⟩ := rx; exact SeqAt.EqAt.none_str b t
    | _ => exact absurd (show false = true from fx) Bool.false_ne_true
  | bl a =>
    cases ry
    cases x with
    | non => cases rx; exact SeqAt.EqAt.bool_none a
    | bl b => cases rx; exact SeqAt.EqAt.bool_bool a b
    | int b => obtain ⟨t, rfl⟩ := rx; exact SeqAt.EqAt.bool_int a b t
    | str b => obtain ⟨t, rfl⟩ := rx; exact SeqAt.EqAt.bool_str a b t
    | _ => exact absurd (show false = true from fx) Bool.false_ne_true
  | int a =>
    obtain ⟨t', rfl⟩ := ry
    cases x with
    | non => cases rx; exact SeqAt.EqAt.int_none a t'
    | bl b => cases rx; exact SeqAt.EqAt.int_bool a t' b
    | int b => obtain ⟨t, rfl⟩ := rx; exact SeqAt.EqAt.int_int a t' b t
    | str b => obtain ⟨t, rfl⟩ := rx; exact SeqAt.EqAt.int_str a t' b t
    | _ => exact absurd (show false = true from fx) Bool.false_ne_true
  | str a =>
    obtain ⟨t', rfl⟩ := ry
    cases x with
    | non => cases rx; exact SeqAt.EqAt.str_none a t'
    | bl b => cases rx; exact SeqAt.EqAt.str_bool a t' b
    | int b => obtain ⟨t, rfl⟩ := rx; exact SeqAt.EqAt.str_int a t' b t
    | str b => obtain ⟨t, rfl⟩ := rx; exact SeqAt.EqAt.str_str a t' b t
    | _ => exact absurd (show false = true from fx) Bool.false_ne_true
  | _ => exact absurd (show false = true from fy) Bool.false_ne_true
/-- the items' answers, read off the values (a value's own answer does not lean on its token) -/
def eqU (x : V) (u : Value) : Bool := match u with
  | .none => eqV .non x
  | .bool b => eqV (.bl b) x
  | .int i _ => eqV (.int i) x
  | .str z _ => eqV (.str z) x
  | _ => false
theorem eqU_of {x y : V} {u : Value} (r : RelV y u) (f : flatV y = true) : eqU x u = eqV y x := by
  cases y with
  | non => cases r; rfl
  | bl b => cases r; rfl
  | int i => obtain ⟨t, rfl⟩ := r; rfl
  | str z => obtain ⟨t, rfl⟩ := r; rfl
  | _ => exact absurd (show false = true from f) Bool.false_ne_true
theorem any_eqU {x : V} : ∀ {xs : List V} {us : List Value}, Vals xs us → xs.all flatV = true → us.any (eqU x) = xs.any fun y => eqV y x
  | _, _, .nil, _ => rfl
  | y :: xs, u :: us, .cons r t, f => by
    rw [List.all_cons, Bool.and_eq_true] at f
    rw [List.any_cons, List.any_cons, eqU_of r f.1, any_eqU t f.2]
theorem mem_eqAt {A : Around} {s : Shared} {x : V} {v : Value} (rx : RelV x v) (fx : flatV x = true) : ∀ {xs : List V} {us : List Value}, Vals xs us → xs.all flatV = true → ∀ u ∈ us, SeqAt.EqAt A s u v (eqU x u)
  | _, _, .nil, _ => fun u hu => by cases hu
  | y :: xs, u :: us, .cons r t, f => fun u' hu => by
    rw [List.all_cons, Bool.and_eq_true] at f
    rcases List.mem_cons.mp hu with rfl | hu
    · rw [eqU_of r f.1]; exact eqAt_V r rx f.1 fx
    · exact mem_eqAt rx fx t f.2 u' hu
def inV (x : V) (xs : List V) : Bool := xs.any fun y => eqV y x
/-- x in a list or tuple of flat items -/
def rIn (K : PySem.W.Frag) (neg : Bool) : R2 := fun x y H Q => ∃ p xs, y = .ref p ∧ (SqL K H p xs ∨ SqT K H p xs) ∧ flatV x = true ∧ xs.all flatV = true ∧ Q (.bl (if neg then !inV x xs else inV x xs)) H
theorem op_notIn_seq : OpR X (compareOp .NotIn) (rIn X.K true) := by
  intro pins s σ H x y v u Q I rx ry h
  obtain ⟨p, xs, rfl, hq, fx, fs, q⟩ := h
  cases ry
  rcases hq with hq | hq
  · obtain ⟨its, r, pl, hz⟩ := I.list hq
    refine SeqAt.notIn_listAt (eqU x) pl.isList (fun w hw => mem_eqAt rx fx r fs w (by simpa using hw)) ⟨.bl _, H, I, rfl, ?_⟩
    rw [show its.toArray.any (eqU x) = its.any (eqU x) by simp, any_eqU r fs]
    exact q
  · obtain ⟨its, r, pl, hz⟩ := I.tuple hq
    refine SeqAt.notIn_tupleAt (eqU x) pl (fun w hw => mem_eqAt rx fx r fs w (by simpa using hw)) ⟨.bl _, H, I, rfl, ?_⟩
    rw [show its.toArray.any (eqU x) = its.any (eqU x) by simp, any_eqU r fs]
    exact q
/-! ### len, list(x), tuple(x) of any list or tuple that is read -/
theorem call_len_seq : CallR X (.builtin "len") (fun xs H Q => ∃ p ys, xs = [.ref p] ∧ (SqL X.K H p ys ∨ SqT X.K H p ys) ∧ Q (.int ys.length) H) := by
  intro pins s σ H xs us Q I r h
  obtain ⟨p, ys, rfl, hq, q⟩ := h
  obtain ⟨u, rfl, rx⟩ := vals1 r
  cases rx
  have hn := line63
  rcases hq with hq | hq
  · obtain ⟨its, r', pl, hz⟩ := I.list hq
    have hlen := r'.length
    exact Calls.call_len_list pl.isList (by simp only [List.size_toArray] <;> omega) ⟨.int ys.length, H, I.tok _, ⟨s.toks + 1, by rw [List.size_toArray, hlen]⟩, q⟩
  · obtain ⟨its, r', pl, hz⟩ := I.tuple hq
    have hlen := r'.length
    exact len_tuple pl (by simp only [List.size_toArray] <;> omega) ⟨.int ys.length, H, I.tok _, ⟨s.toks + 1, by rw [List.size_toArray, hlen]⟩, q⟩
theorem call_len_str : CallR X (.builtin "len") (fun xs H Q => ∃ z, xs = [.str z] ∧ z.length ≤ sizeLine ∧ Q (.int z.length) H) := by
  intro pins s σ H xs us Q I r h
  obtain ⟨z, rfl, hz, q⟩ := h
  obtain ⟨u, rfl, t, rfl⟩ := vals1 r
  have hn := line63
  exact len_str (by omega) ⟨.int z.length, H, I.tok _, ⟨_, rfl⟩, q⟩
/-! ### the call of a builtin's method: o.m(..) -/
/-- the value is of that builtin type -/
def tyV (K : PySem.W.Frag) (T : String) (x : V) (H : Hp) : Prop := match x with
  | .str _ => T = "str"
  | .int _ => T = "int"
  | .ref p => (T = "list" ∧ ∃ xs, SqL K H p xs) ∨ (T = "tuple" ∧ ∃ o, K.lookup p = some o ∧ o.cls = .type "tuple" ∧ o.dict = none) ∨
      (T = "dict" ∧ ((∃ kvs, H p = some (.dK kvs)) ∨ ∃ kvs, H p = some (.dT kvs))) ∨ (T = "set" ∧ ∃ S n, H p = some (.set S n))
  | _ => False
theorem tyV_is {pins : List (Addr × Obj)} {σ : St} {H : Hp} {s : Shared} {T : String} {x : V} {v : Value} (I : Inv X pins σ H s) (r : RelV x v) (ty : tyV X.K T x H) :
    s.TypeIs v T ∧ ∀ a, v = .ref a → ∃ ob, s.heap.get? a = some ob ∧ ob.dict = none := by
  cases x with
  | str z =>
    obtain ⟨t, rfl⟩ := r
    cases (show T = "str" from ty)
    exact ⟨typeIs_str s z t, fun _ e => nomatch e⟩
  | int i =>
    obtain ⟨t, rfl⟩ := r
    cases (show T = "int" from ty)
    exact ⟨typeIs_int s i t, fun _ e => nomatch e⟩
  | ref p =>
    cases r
    rcases ty with ⟨rfl, xs, hq⟩ | ⟨rfl, o, hk, hc, hd⟩ | ⟨rfl, hk⟩ | ⟨rfl, S, n, hk⟩
    · obtain ⟨its, _, pl, _⟩ := I.list hq
      refine ⟨pl.isList.typeIs, fun a e => ?_⟩
      cases e
      obtain ⟨o, n, e, c, hd, _⟩ := pl
      exact ⟨o, e, hd⟩
    · refine ⟨⟨o, I.kIn p o hk, hc⟩, fun a e => ?_⟩
      cases e
      exact ⟨o, I.kIn _ o hk, hd⟩
    · have z : ∃ o, s.heap.get? p = some o ∧ o.ExactDict := by
        rcases hk with ⟨kvs, hk⟩ | ⟨kvs, hk⟩
        · obtain ⟨_, _, _, _, o, _, _, e, ex, _⟩ := I.hok p _ hk
          exact ⟨o, e, ex⟩
        · obtain ⟨_, _, _, _, o, _, _, e, ex, _⟩ := I.hok p _ hk
          exact ⟨o, e, ex⟩
      obtain ⟨o, e, ex⟩ := z
      refine ⟨⟨o, e, ex.1⟩, fun a e2 => ?_⟩
      cases e2
      exact ⟨o, e, ex.2.1⟩
    · obtain ⟨o, _, _, _, e, ex, _⟩ := I.hok p _ hk
      refine ⟨⟨o, e, ex.1⟩, fun a e2 => ?_⟩
      cases e2
      exact ⟨o, e, ex.2.1⟩
  | _ => exact False.elim ty
def tBM0 (K : PySem.W.Frag) (T : String) (r : V → List V → Hp → VK → Prop) (to : TE) : TE := fun σ H Q => to σ H fun x H1 => tyV K T x H1 ∧ r x [] H1 Q
def tBM (K : PySem.W.Frag) (T : String) (r : V → List V → Hp → VK → Prop) (to : TE) (t : TA) : TE := fun σ H Q => to σ H fun x H1 => tyV K T x H1 ∧ t σ H1 fun xs H2 => r x xs H2 Q
variable {o e : Expr} {es : List Expr} {to : TE} {t : TA} {name : Str} {apos cpos : Pos} {T id : String} {r : V → List V → Hp → VK → Prop}
theorem pe_bm (pa : PlainAttrs T) (slot : Slot T name id) (hty : typeOf (.builtin id) = pure (.type "method_descriptor")) (hm : MtR X id r) (ho : PE X o to) (ha : PA X (e :: es) t)
    (hbase : attributeBase o name X.env (eval o X.env) = eval o X.env := by rfl)
    (hfew : ((backTo cpos (starEach (e :: es) X.env)).all (fun x => !x.1) && (backToKw cpos (keywordEach [] X.env)).all (fun x => x.1.isSome)
      && decide ((e :: es).length + ([] : List Keyword).length + (if ([] : List Keyword).isEmpty then 0 else 1) < 30)) = true := by rfl)
    (hline : (apos.endLine == cpos.line) = true := by rfl) (hs : starEach (e :: es) X.env = (false, eval e X.env) :: starEach es X.env := by rfl) (hplain : (backTo cpos (starEach es X.env)).any (·.1) = false := by rfl) :
    PE X (.Call (.Attribute o name apos) (e :: es) [] cpos) (tBM X.K T r to t) := by
  intro pins s σ H Q I h
  refine wpAny_Call_method_late hbase hfew hline rfl (thn (ho pins s σ H _ I h) fun v s1 ⟨x, H1, I1, r1, ty, q1⟩ => ?_)
  obtain ⟨h1, h2⟩ := tyV_is I1 r1 ty
  refine ⟨T, id, pa, slot, hty, h1, h2, ?_⟩
  have hA := ha cpos pins s1 σ H1 _ I1 q1
  rw [hs] at hA ⊢
  refine Calls.callWith_builtin (by show (false || (backTo cpos (starEach es X.env)).any (·.1)) = false; rw [hplain] <;> rfl) (Calls.evalArgs_plain ?_)
  exact thn hA fun us s2 ⟨vs, H2, I2, r2, q2⟩ => hm pins s2 σ H2 x vs v us Q I2 r1 r2 q2
/- xs.append(e), list.index on a module's tuple .. are MtR facts of 06m -/
end
end L2

namespace L2
open PySem PySem.Spec PyProof.Rows

def MtM (X : Cx) (id : String) (r : V → List V → Hp → VK → Prop) : Prop :=
  ∀ (pins : List (Addr × Obj)) (s : Shared) (σ : St) (H : Hp) (x : V) (xs : List V) (v : Value) (us : List Value) (Q : VK), Inv X pins σ H s → RelV x v → Vals xs us → r x xs H Q →
    wpAny (model X.prog X.w) X.A (call (.builtin id) (v :: us)) (EP X pins σ Q) X.xe s

/-! ### lists of values -/
theorem Vals.one : ∀ {x : V} {us : List Value}, Vals [x] us → ∃ u, us = [u] ∧ RelV x u
  | _, _, .cons r .nil => ⟨_, rfl, r⟩
section
variable {X : Cx} {pins : List (Addr × Obj)} {σ : St} {H : Hp} {s : Shared} {l b : Addr} {xs ys zs : List V}

/-! ### the two steps: a tracked list is rewritten, a new list is laid -/
theorem Inv.lset {its its' : List Value} {n : Nat} {f : Array Value → Array Value} {t' : Nat} (I : Inv X pins σ H s) (hH : H l = some (.lst xs))
    (e : s.heap.get? l = some { cls := .type "list", data := .seq its.toArray n }) (hf : f its.toArray = its'.toArray) (hv : Vals ys its') (hz : ys.length ≤ sizeLine) :
    Inv X pins σ (upd H l (.lst ys)) { s with heap := s.heap.update l (Obj.mapSeq f), toks := t' } := by
  have q := PySem.IsL.update e f
  rw [hf] at q
  refine I.write (x := l) (e := l) (by rw [hH]; exact trivial) (.inl rfl) (fun b' u hb hu => (Heap.get?_update_other s.heap (Obj.mapSeq f) (Ne.symm hb)).trans hu) ⟨_, q⟩ ?_
  exact ⟨hz, its', _, hv, q⟩
theorem Inv.lnew {its : List Value} {t' : Nat} (I : Inv X pins σ H s) (hv : Vals ys its) (hz : ys.length ≤ sizeLine) :
    Inv X pins σ (upd H s.heap.objs.size (.lst ys)) { s with heap := s.heap.push { cls := .type "list", data := .seq its.toArray }, toks := t' } :=
  I.laid (fun _ _ q => Heap.get?_push_of_some _ q) (Nat.le_refl _) ⟨hz, its, 0, hv, Heap.get?_push_size _ rfl⟩
theorem Inv.fresh (I : Inv X pins σ H s) : H s.heap.objs.size = none := I.hok.fresh (Nat.le_refl _)
theorem Inv.lstM (I : Inv X pins σ H s) (hH : H l = some (.lst xs)) : xs.length ≤ sizeLine ∧ ∃ (its : List Value) (n : Nat), Vals xs its ∧ xs.length = its.length ∧ s.heap.get? l = some { cls := .type "list", data := .seq its.toArray n } := by
  obtain ⟨z, its, n, r, e⟩ := I.hok l _ hH
  exact ⟨z, its, n, r, r.length, e⟩

end

section
variable {X : Cx}

/-! ### methods -/
def rAppend : V → List V → Hp → VK → Prop := fun x vs H Q => ∃ l xs y, x = .ref l ∧ vs = [y] ∧ H l = some (.lst xs) ∧ xs.length < sizeLine ∧ Q .non (upd H l (.lst (xs ++ [y])))
theorem mt_append : MtM X "list.append" rAppend := by
  intro pins s σ H x vs v us Q I rx rv h
  obtain ⟨l, xs, y, rfl, rfl, hH, hz, q⟩ := h
  cases rx
  obtain ⟨u, rfl, ru⟩ := rv.one
  obtain ⟨z, its, n, r, hl, e⟩ := I.lstM hH
  refine call_meets F.slot_list_append ⟨_, e, rfl⟩ F.entry_list_append (F.args_list_append_2 _ _) (PySem.list_append l its.toArray n u (by rw [List.size_toArray]; omega)) ⟨e, ?_⟩
  refine ⟨.non, _, I.lset (its' := its ++ [u]) hH e (by simp) (r.append (.cons ru .nil)) ?_, rfl, q⟩
  rw [List.length_append, List.length_singleton]
  omega

def rExtend : V → List V → Hp → VK → Prop := fun x vs H Q => ∃ l b xs zs, x = .ref l ∧ vs = [.ref b] ∧ H l = some (.lst xs) ∧ H b = some (.lst zs) ∧ xs.length + zs.length ≤ sizeLine ∧ Q .non (upd H l (.lst (xs ++ zs)))
/-! ### list + list, list += list, list * int -/
def rCat : R2 := fun x y H Q => ∃ l b xs zs, x = .ref l ∧ y = .ref b ∧ H l = some (.lst xs) ∧ H b = some (.lst zs) ∧ xs.length + zs.length ≤ sizeLine ∧ ∀ p, H p = none → Q (.ref p) (upd H p (.lst (xs ++ zs)))
theorem op_cat : OpR X (binaryOp .Add) rCat := by
  intro pins s σ H x y v u Q I rx ry h
  obtain ⟨l, b, xs, zs, rfl, rfl, hH, hB, hz, q⟩ := h
  cases rx
  cases ry
  obtain ⟨z, its, n, r, hl, e⟩ := I.lstM hH
  obtain ⟨z2, its2, n2, r2, hl2, e2⟩ := I.lstM hB
  refine PySem.P.add_list e e2 ?_ (by rw [List.size_toArray, List.size_toArray]; omega)
  have ea : its.toArray ++ its2.toArray = (its ++ its2).toArray := by simp
  rw [ea]
  exact ⟨.ref _, _, I.lnew (t' := s.toks) (r.append r2) (by rw [List.length_append]; omega), rfl, q _ I.fresh⟩
/-! ### del xs[i] -/
end

/-! ### xs[a:b] = ys -/
section
variable {prog : Program} {w : World} {A : Around} {E : Value → Shared → Prop} {s : Shared}
end

section
variable {X : Cx}
end
end L2

namespace Att
open PySem PySem.W PySem.Calls PyProof.Rows

/-! ### the script -/
theorem ints_of_wellAll {P : Params} {h : Heap} : ∀ (ns : List Int) (vs : List Value), WellAll P h vs (ns.map WData.int) → IntsAre vs ns := by
  intro ns
  induction ns with
  | nil =>
    intro vs w
    rw [List.map_nil] at w
    cases w
    exact .nil
  | cons n ns ih =>
    intro vs w
    rw [List.map_cons] at w
    cases w with
    | cons a b =>
      cases a
      exact .cons _ _ (ih _ b)

theorem script_of {l : OpenLaw} {n : Nat} (hn : l.most = some n) {P : Params} {h : Heap} {args : List WData} {vals : List Value}
    (hpre : l.row.toRowW.claim.pre args = true) (hwl : WellAll P h vals args) :
    ∃ a vs ns, vals = [Value.ref a] ∧ args = [WData.list (ns.map WData.int)] ∧ h.get? a = some { cls := .type "list", data := .seq vs.toArray } ∧ IntsAre vs ns ∧ ns.length ≤ n := by
  have hsh : WShape.hasAll [] args [.list .int] = true := (pre_splitW hpre).1
  have hc : l.pre.holds [] { args := args } = true := (pre_splitW hpre).2
  obtain ⟨d, r, rfl, h1, h2⟩ := hasAllW_cons hsh
  obtain rfl := hasAllW_nil h2
  obtain ⟨xs, rfl, h3⟩ := hasW_list h1
  obtain ⟨ns, rfl⟩ := items_int h3
  have hlen : ns.length ≤ n := by
    unfold OpenLaw.pre at hc
    have h4 : (WTm.not (.lt (.lit (.int (n : Int))) (.len (.arg 0)))).holds [] { args := [.list (ns.map .int)] } = true := by
      have h4 := (holds_andW hc).1
      rw [hn] at h4
      exact h4
    have h5 := condW_of h4 (w_not (w_lt w_lit (w_len_list (w_arg rfl))))
    rw [List.length_map] at h5
    refine Nat.le_of_not_lt fun q => ?_
    have q' : (n : Int) < ((ns.length : Nat) : Int) := by omega
    first
      | (rw [decide_eq_true q'] at h5; exact absurd h5 (by decide))
      | (simp at h5; omega)
  cases hwl with
  | cons w1 w2 =>
    cases w2
    cases w1 with
    | list ho hall => exact ⟨_, _, ns, rfl, rfl, ho, ints_of_wellAll ns _ hall, hlen⟩

theorem post_true (l : OpenLaw) (args : List WData) : l.row.toRowW.claim.post args (.bool true) args = true :=
  postW_of (r := l.row.toRowW) (X := (true == true))
    (show WShape.has [] (.bool true) .bool = true by first | rfl | decide | simp [WShape.has, WShape.arms, WShape.armsAll])
    (show (WTm.eq .res (.lit (.bool true))).value [] { args := args, res := some (.bool true), after := args } = some (.bool (true == true)) from w_eq_bool (w_res rfl) w_lit) rfl

/-! ### the attachment: holds_open's last premise (the goal 'hc' behind k_head) from a wpAny of the law's body -/
/-- the same from a codeAny of the CALL (for a layer whose function contracts speak of calls) -/
theorem attach_call {l : OpenLaw} {n : Nat} {q : Program} {loose : List Str} {XP : (Str → Option Value) → Heap → Prop} {YP : World → Heap → Prop} {d : DefRec}
    (hn : l.most = some n) (hdf : d.params.defaults = [])
    (call : ∀ (w : World) (s₀ s₁ : Shared) (mg mb : Str → Option Value) (fa : Addr) (o : Obj) (pm cd doc : Value) (a : Addr) (vs : List Value) (ns : List Int),
      Ground q loose [] XP w s₀ mg mb s₁.heap → YP w s₁.heap →
      s₁.heap.get? fa = some o → o.data = .func (docDef d.name d.params d.body d.scope pm cd doc) → s₁.heap.CodeRec cd d.name → mg d.name = some (.ref fa) →
      s₁.heap.get? a = some { cls := .type "list", data := .seq vs.toArray } → IntsAre vs ns → ns.length ≤ n → s₁.gens = #[] →
      codeAny (model l.prog w) callerA (.call (.ref fa) ⟨[.ref a], []⟩) (fun r s' => r = .ok (.ret (.bool true)) ∧ OldK s₁.heap s'.heap ∧ s'.os = s₁.os ∧ AllBare s'.gens) s₁) :
    WalkO q loose XP YP l.row.toRowW d [] (fun f vs => PySem.call f vs) := by
  intro w s₀ s₁ mg mb G Y fa o pm cd doc dV kV ho hd hcd hD hmg hg args vals as hpre hlay hrd hwl hlo
  obtain rfl : dV = .none := Dflts.none hD hdf
  obtain rfl : kV = .none := Dflts.noKw hD
  obtain ⟨a, vs, ns, rfl, rfl, hobj, hints, hlen⟩ := script_of hn hpre hwl
  refine enter_call (codeAny_mono (call w s₀ s₁ mg mb fa o pm cd doc a vs ns G Y ho (fd_plain hd) hcd hmg hobj hints hlen hg) fun r s' hq => ?_)
  obtain ⟨rfl, h2, h3, h4⟩ := hq
  exact ⟨.inl ⟨.bool true, .bool true, [], rfl, fun _ => rfl, .bool true, post_true l _, fun _ => ⟨List.Pairwise.nil, fun _ hm => (nomatch hm)⟩⟩, h2, h3, h4⟩

/-! ### rules over ANY heap (no ledger) from facts about the written part K: the library's own take a ledger (News) for what they write -/
section
variable {prog : Program} {w : World} {A : Around} {E : Value → Shared → Prop} {s : Shared} {K : Frag}

/-! the whole heap as the ledger: makes every rule that writes through a ledger a rule over any heap -/
end
end Att

namespace L2
open PySem PySem.Spec PyProof.Rows

theorem vals_ints : ∀ {vs : List Value} {ns : List Int}, IntsAre vs ns → Vals (ns.map V.int) vs
  | _, _, .nil => .nil
  | _, _, .cons n t h => .cons ⟨t, rfl⟩ (vals_ints h)

/-- nothing is tracked but the script, known to the object (or it is an object of the module) -/
def Only (H : Hp) : Prop := ∀ b, H b = none ∨ ∃ o xs, H b = some (.frz o (.lst xs))

/-- THE HEAD: the law's promise, at the heap behind the top. F, the promise of the law's def, may use that base is part of the heap (so K.In base, base.Ns mainGlobals mg stand in Mod) -/
theorem law_call {P : Program} {w : World} {K : PySem.W.Frag} {mg mb : Str → Option Value} {CX : CXT} {k : Nat} {fa a : Addr} {fd : FuncData} {x : Str} {sp : Sp} {s₁ : Shared} {vs : List Value} {ns : List Int}
    (KX : K.In s₁.heap) (hns : s₁.heap.Ns mainGlobals mg) (hb : s₁.heap.Ns builtinsNs mb) (hbb : ∀ x : Str, x ≠ "__name__" → mb x = bootBuiltins x) (hlim : s₁.heap.NoLimit) (hg : s₁.gens = #[])
    (ha : s₁.heap.get? a = some { cls := .type "list", data := .seq vs.toArray }) (hi : IntsAre vs ns) (hl : ns.length ≤ sizeLine) (hr : Room k callerA)
    (F : ∀ base : Heap, K.In base → base.Ns mainGlobals mg → FnOk P w K mg base CX k fa fd [x] sp) (hbind : ∀ (s : Shared) (u : Value), BindsTo s fd ⟨[u], []⟩ [(x, u)])
    (hsp : ∀ H : Hp, Only H → SqL K H a (ns.map V.int) → sp [.ref a] H (fun v _ => v = .bl true) fun _ _ _ => False)
    (hCX : ∀ H e s', CX [] H s₁ (fun _ _ _ => False) e s' → False) :
    codeAny (model P w) callerA (.call (.ref fa) ⟨[.ref a], []⟩) (fun r s' => r = .ok (.ret (.bool true)) ∧ OldK s₁.heap s'.heap ∧ s'.os = s₁.os ∧ AllBare s'.gens) s₁ := by
  have rv := vals_ints hi
  have lenV := hi.length
  -- from an abstract heap in which nothing but the script may be tracked
  have core : ∀ H : Hp, Only H → SqL K H a (ns.map V.int) → HOk P w H s₁.heap → (∀ b, H b ≠ none → b = a) → (H a ≠ none → K.lookup a = none) →
      codeAny (model P w) callerA (.call (.ref fa) ⟨[.ref a], []⟩) (fun r s' => r = .ok (.ret (.bool true)) ∧ OldK s₁.heap s'.heap ∧ s'.os = s₁.os ∧ AllBare s'.gens) s₁ := by
    intro H hO hS hok hA hK
    have base_of : ∀ {b : Addr} {o : Obj}, s₁.heap.get? b = some o → H b = none → (hidT s₁.heap H).get? b = some o := fun e n => hidT_get e n
    have noA : ∀ {b : Addr} {o : Obj} {es : Array DictEntry} {ep : Nat}, s₁.heap.get? b = some o → o.data = .dict es ep → H b = none := fun {b o es ep} e d => by
      cases q : H b with
      | none => rfl
      | some u =>
        have e' : b = a := hA b (by rw [q]; simp)
        subst e'
        rw [ha] at e; cases e
        have d' : Data.seq vs.toArray _ = Data.dict es ep := d
        cases d'
    have nsK : ∀ {b : Addr} {m : Str → Option Value}, s₁.heap.Ns b m → (hidT s₁.heap H).Ns b m := fun {b m} ⟨o, es, ep, e, d, r⟩ => ⟨o, es, ep, base_of e (noA e d), d, r⟩
    have hKb : K.In (hidT s₁.heap H) := fun b o e => base_of (KX b o e) (by
      cases q : H b with
      | none => rfl
      | some u =>
        have e' : b = a := hA b (by rw [q]; simp)
        subst e'
        rw [hK (by rw [q]; simp)] at e; cases e)
    have hM : Mod K mg (hidT s₁.heap H) := ⟨hKb, nsK hns, ⟨mb, nsK hb, hbb⟩, let ⟨mc, h1, h2⟩ := hlim; ⟨mc, nsK h1, h2⟩⟩
    have e0 : Env0 P w K mg (hidT s₁.heap H) callerA [] s₁ H := ⟨rfl, hM, fun b o e => of_hidT e, Nat.le_of_eq (hidT_size _ _), trivial, fun b hb => absurd (show b ∈ ([] : List Addr) from hb) (by simp), hok, .of_eq hg⟩
    refine codeAny_mono ((F _ hKb (nsK hns)).run callerA [] s₁ H ⟨[.ref a], []⟩ [.ref a] [.ref a] _ _ hr e0 (hbind s₁ (.ref a)) (.cons rfl .nil) (hsp H hO hS)) fun r s' h => ?_
    cases r with
    | error e => exact (hCX H e s' h).elim
    | ok fl =>
      cases fl with
      | next => exact False.elim h
      | brk => exact False.elim h
      | cont => exact False.elim h
      | ret u =>
        obtain ⟨v, H', os, bare, un, hok', r', q⟩ := h
        have q' : v = .bl true := q
        subst q'
        obtain rfl : u = Value.bool true := r'
        refine ⟨rfl, OldK.of_keep fun b o e => ?_, os, bare⟩
        cases q : H b with
        | none => exact un.keep b o e q (by intro z; exact absurd (show b ∈ ([] : List Addr) from z) (by simp)) (by simp)
        | some u =>
          rcases hO b with z | ⟨ob, xs, z⟩
          · rw [q] at z; cases z
          · have z2 := un.frzs b ob _ z
            obtain ⟨e1, _⟩ := hok b _ z
            obtain ⟨e2, _⟩ := hok' b _ z2
            rw [e] at e1; cases e1
            exact e2
  cases hk : K.lookup a with
  | some o =>
    -- the script is one of the module's own objects
    have e := KX a o hk
    rw [ha] at e
    cases e
    refine core (fun _ => none) (fun _ => .inl rfl) (.inr ⟨_, vs.toArray, _, hk, rfl, rfl, rfl, by rw [List.size_toArray, lenV]; exact hl, by simpa using rv⟩) (fun b u z => by have z' : (none : Option HO) = some u := z; cases z') (fun b z => absurd rfl z) fun z => absurd rfl z
  | none =>
    refine core (fun b => if b = a then some (.frz { cls := .type "list", data := .seq vs.toArray } (.lst (ns.map V.int))) else none) (fun b => ?_) (.inl (.inr ⟨{ cls := .type "list", data := .seq vs.toArray }, if_pos rfl⟩)) (fun b u z => ?_) (fun b z => ?_) fun _ => hk
    · by_cases hb : b = a
      · exact .inr ⟨_, _, if_pos hb⟩
      · exact .inl (if_neg hb)
    · by_cases hb : b = a
      · have z' := (if_pos hb).symm.trans z
        cases z'
        subst hb
        exact ⟨ha, by rw [List.length_map]; exact hl, vs, _, rv, ha⟩
      · have z' := (if_neg hb).symm.trans z
        cases z'
    · by_cases hb : b = a
      · exact hb
      · exact absurd (if_neg hb) z
end L2

namespace L2
open PySem PySem.Spec PyProof.Rows

/-- the goal that k_head leaves (case hc), from the law's promise. F gives the function object fd (K's own) once, then the promise over every base -/
theorem walk_of {l : PySem.W.OpenLaw} {n k : Nat} {q : Program} {loose : List Str} {XP : (Str → Option Value) → Heap → Prop} {YP : World → Heap → Prop} {d : DefRec} {K : Params → PySem.W.Frag} {CX : World → CXT} {sp : World → Sp} {x : Str}
    (hn : l.most = some n) (hn2 : n ≤ sizeLine) (hdf : d.params.defaults = []) (hr : Room k callerA)
    (hY : ∀ (w : World) (h : Heap), YP w h → (K w.params).In h)
    (F : ∀ (w : World) (mg : Str → Option Value) (fa : Addr) (h : Heap), (K w.params).In h → h.Ns mainGlobals mg → mg d.name = some (.ref fa) →
      ∃ fd : FuncData, (∀ (s : Shared) (u : Value), BindsTo s fd ⟨[u], []⟩ [(x, u)]) ∧
        ∀ base : Heap, (K w.params).In base → base.Ns mainGlobals mg → FnOk l.prog w (K w.params) mg base (CX w) k fa fd [x] (sp w))
    (hsp : ∀ (w : World) (H : Hp) (a : Addr) (ns : List Int), ns.length ≤ n → Only H → SqL (K w.params) H a (ns.map V.int) → sp w [.ref a] H (fun v _ => v = .bl true) fun _ _ _ => False)
    (hCX : ∀ (w : World) (H : Hp) (s : Shared) (e : Value) (s' : Shared), CX w [] H s (fun _ _ _ => False) e s' → False) :
    PySem.W.WalkO q loose XP YP l.row.toRowW d [] (fun f vs => PySem.call f vs) := by
  refine Att.attach_call hn hdf fun w s₀ s₁ mg mb fa o pm cd doc a vs ns G Y ho hd hcd hmg hobj hints hlen hg => ?_
  have KX := hY w _ Y
  obtain ⟨fd, hb, hF⟩ := F w mg fa _ KX G.T.g hmg
  exact law_call KX G.T.g G.T.b G.T.builtins G.T.nolimit hg hobj hints (Nat.le_trans hlen hn2) hr hF hb (fun H hO hS => hsp w H a ns hlen hO hS) fun H e s' => hCX w H s₁ e s'
end L2

/- THE LAST THEOREM (shape; LID, My.* are yours):
   My.Adr: a structure of the addresses that your layer names (classes, functions); My.Txt K t: a structure (Prop) of the equations over K;
   My.txt_mk : {K} {implicit addresses ..} (e1 : nsIn K mainGlobals "law" = some (some (.ref f))) (e2 : K.lookup f = some ⟨oc, od, .func (fnOf "law" "law" params body scope dV kV doc pm an cdv ct), sl⟩) (e3 : codeIn K cdv "law" = true) .. : ∃ t, My.Txt K t

set_option maxRecDepth 100000 in
set_option maxHeartbeats 0 in
theorem PySem.Challenge.cw_LID_holds : PySem.Challenge.rw_LID.Holds := by
  w_on; o_law; k_head; (case hw => w_witness2)
  k_fill
  refine L2.walk_of (l := PySem.Challenge.rw_LID) (n := 63) (k := 40) (x := "script") (CX := fun w => ..) (sp := fun _ => My.sp_law) rfl (by decide) rfl ⟨rfl, by decide, by decide⟩ (fun w h Y => PySem.W.kIn_of Y) ?F ?S ?C
  case F =>
    intro w mg fa h KX G hmg
    have T : ∃ t, My.Txt (L2.KOf KX) t := by
      dsimp only [L2.KOf]                          -- K must stand as «<heap const> w.params» for k_is
      refine' My.txt_mk ?e1 ?e2 ?e3 ..
      (case e1 => PySem.W.k_is)                    -- in the order: a name -> its address -> its object -> its parts
      (case e2 => PySem.W.k_is)
      ..
    obtain ⟨t, T⟩ := T
    have e0 := hmg.symm.trans (PySem.W.mg_of KX G T.law)
    cases e0                                       -- fa is the law's own address
    exact ⟨_, fun s u => .of_eq rfl, fun base kb nb => My.law_fn T kb nb⟩     -- if «.of_eq rfl» comes too early: refine' ⟨_, ?b, fun base kb nb => My.law_fn T kb nb⟩; exact fun s u => .of_eq rfl
  case S => exact fun w H a ns hl hO hS => ..
  case C => exact ..
(the tactic k_is has no namespace: write k_is) -/

/-! SHORT WORDS over the layer: a def of the text, its body, what a loop and a test want. -/
namespace L2
open PySem PySem.Spec PyProof.Rows

/-! ### the text by places -/
def defArgs (s : Stmt) : Arguments := match s with
  | .FunctionDef _ a _ _ _ _ _ _ _ _ => a
  | _ => { posonlyargs := [], args := [], vararg := none, kwonlyargs := [], kw_defaults := [], kwarg := none, defaults := [] }
def defBody (s : Stmt) : List Stmt := match s with
  | .FunctionDef _ _ b _ _ _ _ _ _ _ => b
  | _ => []
def defScope (s : Stmt) : Scope := match s with
  | .FunctionDef _ _ _ _ _ _ sc _ _ _ => sc
  | _ => { kind := .function, names := [], isGenerator := false, isCoroutine := false }

/-! ### no exception leaves a def -/
abbrev CX0 : CXT := fun _ _ _ _ _ _ => False
abbrev E0 : XK := fun _ _ _ => False
theorem pass0 {X : Cx} : Passes CX0 X E0 := fun _ _ _ _ _ _ _ h => h.elim

/-! ### a def (or method) of the text as it stands behind the top -/
structure Fun (K : PySem.W.Frag) (x qual : Str) (st : Stmt) (f : Addr) (fd : FuncData) : Prop where
  ex : ∃ (oc : Value) (od : Option Addr) (kV doc pm : Value) (an : Option Addr) (cdv ct : Value) (osl : Array (Option Value)),
    fd = PySem.W.fnOf x qual (defArgs st) (defBody st) (defScope st) .none kV doc pm an cdv ct ∧ K.lookup f = some ⟨oc, od, .func fd, osl⟩ ∧ PySem.W.codeIn K cdv qual = true
  kp : PySem.W.keepIn K (.ref f) = true
section
variable {P : Program} {w : World} {K : PySem.W.Frag} {mg : Str → Option Value} {base : Heap}
/-- THE RULE for a def: its body as a term of rules, and the reading of that term -/
theorem Fun.ok {x qual : Str} {st : Stmt} {f : Addr} {fd : FuncData} {N ps : List Str} {k : Nat} {sp : Sp} (F : Fun K x qual st f fd) (S : FnScope N ps (defScope st)) (len : ∀ vs H Q E, sp vs H Q E → vs.length = ps.length)
    (hbody : ∀ (cdv : Value) (A : Around) (outer : List Env) (s : Shared) (H : Hp) (vs : List V) (Q : VK) (E : XK), Room k (A.deeper (envOfC qual (defScope st) s.heap.objs.size f cdv)) → sp vs H Q E →
      ∃ t, PSs (cxOf CX0 P w K mg base N qual (defScope st) f cdv A outer s H E).nox (defBody st) t ∧ t { nx := fun _ H' => Q .non H', rt := Q } (start N vs) H) : FnOk P w K mg base CX0 (k + 1) f fd ps sp := by
  obtain ⟨oc, od, kV, doc, pm, an, cdv, ct, osl, rfl, lk, hcd⟩ := F.ex
  refine fn_of lk hcd S len fun A outer s H vs Q E hr hsp => ?_
  obtain ⟨t, h, q⟩ := hbody cdv A outer s H vs Q E hr hsp
  exact ⟨t, h.nox, q⟩
/-- how its arguments bind (no defaults): h is «fun _ _ _ _ _ _ us hl => match us, hl with | [_, _], _ => rfl», one _ a parameter -/
theorem Fun.binds {x qual : Str} {st : Stmt} {f : Addr} {fd : FuncData} {ps : List Str} (F : Fun K x qual st f fd)
    (h : ∀ (kV doc pm : Value) (an : Option Addr) (cdv ct : Value) (us : List Value), us.length = ps.length → bindArgs (PySem.W.fnOf x qual (defArgs st) (defBody st) (defScope st) .none kV doc pm an cdv ct) ⟨us, []⟩ = pure (ps.zip us)) : Binds K fd ps [] := by
  obtain ⟨oc, od, kV, doc, pm, an, cdv, ct, osl, rfl, lk, hcd⟩ := F.ex
  exact .all (h kV doc pm an cdv ct)
theorem fun_mk {x qual : Str} {st : Stmt} {f : Addr} {oc : Value} {od an : Option Addr} {osl : Array (Option Value)} {kV doc pm cdv ct : Value} (l : K.lookup f = some ⟨oc, od, .func (PySem.W.fnOf x qual (defArgs st) (defBody st) (defScope st) .none kV doc pm an cdv ct), osl⟩)
    (c : PySem.W.codeIn K cdv qual = true) (k : PySem.W.keepIn K (.ref f) = true) : Fun K x qual st f (PySem.W.fnOf x qual (defArgs st) (defBody st) (defScope st) .none kV doc pm an cdv ct) := ⟨⟨oc, od, kV, doc, pm, an, cdv, ct, osl, rfl, l, c⟩, k⟩
end
theorem small1000 {n : Nat} (h : n ≤ 1000) : n < sizeLine := Nat.lt_of_le_of_lt h (by decide)

/-! ### expressions in short: the name that stands in the i-th slot -/
section
variable {X : Cx}
theorem pv (i : Nat) {x : Str} {pos : Pos} (hN : X.N[i]? = some x := by rfl) (hv : Vis X.env.scope x := by first | exact Or.inl rfl | exact Or.inr (Or.inl rfl) | exact Or.inr (Or.inr rfl)) (hd : (x == ("__debug__" : Str)) = false := by decide)
    (hcd : (x == ("__classdict__" : Str)) = false := by decide) : PE X (.Name x pos) (tVar i) := pe_var hN hv hd hcd
end

/-! ### tests -/
theorem ite2 {c A B : Prop} [Decidable c] (h1 : c → A) (h2 : ¬ c → B) : if c then A else B := by
  by_cases h : c
  · rw [if_pos h]
    exact h1 h
  · rw [if_neg h]
    exact h2 h
/-! ### heaps -/
/-- all that was tracked is as it was -/
def Same (H H' : Hp) : Prop := ∀ b o, H b = some o → H' b = some o
theorem Same.refl (H : Hp) : Same H H := fun _ _ h => h
theorem Same.trans {H H1 H2 : Hp} (a : Same H H1) (b : Same H1 H2) : Same H H2 := fun c o h => b c o (a c o h)
theorem Same.free {H H' : Hp} (e : Same H H') {l : Addr} (h : H' l = Option.none) : H l = Option.none := by
  cases q : H l with
  | none => rfl
  | some o =>
    rw [e l o q] at h
    cases h
theorem Same.seq {K : PySem.W.Frag} {H H' : Hp} {a : Addr} {xs : List V} (e : Same H H') (h : SqL K H a xs) : SqL K H' a xs := by
  rcases h with (h | ⟨o, h⟩) | h
  · exact .inl (.inl (e _ _ h))
  · exact .inl (.inr ⟨o, e _ _ h⟩)
  · exact .inr h

end L2

set_option Elab.async false
set_option linter.all false
set_option maxRecDepth 100000
namespace L2
open PySem PySem.Spec PyProof.Rows

/-! ### a comprehension's closure -/
theorem closure_run {env : Env} (f : Str × NameKind → List (Str × Addr) → Sem (ForInStep (List (Str × Addr))))
    (hf : ∀ n k c, f (n, k) c = if (k == NameKind.free) = true then (cellOf env n >>= fun a => pure (.yield ((n, a) :: c))) else pure (.yield c)) :
    ∀ (names : List (Str × NameKind)) (acc : List (Str × Addr)), (∀ y ∈ names, y.2 = .free → ∃ c, env.cells.lookup y.1 = some c) → (∀ p ∈ acc, env.cells.lookup p.1 = some p.2) →
      ∃ cl, forIn names acc f = pure cl ∧ (∀ p ∈ cl, env.cells.lookup p.1 = some p.2) ∧ (∀ p ∈ acc, p ∈ cl) ∧ ∀ y ∈ names, y.2 = .free → ∃ c, (y.1, c) ∈ cl
  | [], acc, _, ha => ⟨acc, rfl, ha, fun _ h => h, fun _ h => nomatch h⟩
  | (n, k) :: r, acc, hn, ha => by
    have hr : ∀ y ∈ r, y.2 = .free → ∃ c, env.cells.lookup y.1 = some c := fun y hy => hn y (List.mem_cons_of_mem _ hy)
    by_cases hk : k = .free
    · subst hk
      obtain ⟨c, hc⟩ := hn (n, .free) List.mem_cons_self rfl
      have hc' : env.cells.lookup n = some c := hc
      obtain ⟨cl, e, h1, h2, h3⟩ := closure_run f hf r ((n, c) :: acc) hr fun p hp => by
        rcases List.mem_cons.mp hp with rfl | hp
        · exact hc
        · exact ha p hp
      refine ⟨cl, ?_, h1, fun p hp => h2 p (List.mem_cons_of_mem _ hp), fun y hy hf' => ?_⟩
      · rw [List.forIn_cons, hf, if_pos (show (NameKind.free == NameKind.free) = true from rfl)]
        have ec : cellOf env n = pure c := by unfold cellOf; rw [hc']
        rw [ec, pure_bind, pure_bind]
        exact e
      · rcases List.mem_cons.mp hy with rfl | hy
        · exact ⟨c, h2 _ List.mem_cons_self⟩
        · exact h3 y hy hf'
    · have hb : (k == NameKind.free) = false := by simpa using hk
      obtain ⟨cl, e, h1, h2, h3⟩ := closure_run f hf r acc hr ha
      refine ⟨cl, ?_, h1, h2, fun y hy hf' => ?_⟩
      · rw [List.forIn_cons, hf, hb, if_neg Bool.false_ne_true, pure_bind]
        exact e
      · rcases List.mem_cons.mp hy with rfl | hy
        · exact absurd hf' hk
        · exact h3 y hy hf'
theorem lookup_mem {β : Type} : ∀ {l : List (Str × β)} {x : Str} {b : β}, l.lookup x = some b → (x, b) ∈ l
  | [], _, _, h => by simp at h
  | (n, c) :: r, x, b, h => by
    cases hx : x == n with
    | true =>
      simp only [List.lookup_cons, hx] at h
      have e : x = n := by simpa using hx
      cases h; subst e; exact List.mem_cons_self
    | false =>
      simp only [List.lookup_cons, hx] at h
      exact List.mem_cons_of_mem _ (lookup_mem h)
theorem mem_lookup {β : Type} : ∀ {l : List (Str × β)} {x : Str} {b : β}, (x, b) ∈ l → ∃ c, l.lookup x = some c
  | [], _, _, h => nomatch h
  | (n, c) :: r, x, b, h => by
    cases hx : x == n with
    | true => exact ⟨c, by simp only [List.lookup_cons, hx]⟩
    | false =>
      rcases List.mem_cons.mp h with e | h
      · have e1 : x = n := congrArg Prod.fst e
        subst e1; simp at hx
      · obtain ⟨d, q⟩ := mem_lookup h
        exact ⟨d, by simp only [List.lookup_cons, hx]; exact q⟩
theorem closure_ok {scope : Scope} {env : Env} (h : ∀ y ∈ scope.names, y.2 = .free → ∃ c, env.cells.lookup y.1 = some c) :
    ∃ cl, closureFor scope env = pure cl ∧ (∀ x c, cl.lookup x = some c → env.cells.lookup x = some c) ∧ ∀ y ∈ scope.names, y.2 = .free → ∃ c, cl.lookup y.1 = some c := by
  have key : ∃ cl, closureFor scope env = pure cl ∧ (∀ p ∈ cl, env.cells.lookup p.1 = some p.2) ∧ ∀ y ∈ scope.names, y.2 = .free → ∃ c, (y.1, c) ∈ cl := by
    have hF : closureFor scope env = forIn scope.names ([] : List (Str × Addr)) (fun (x : Str × NameKind) (cs : List (Str × Addr)) => if (x.2 == NameKind.free) = true then (cellOf env x.1 >>= fun a => pure (ForInStep.yield ((x.1, a) :: cs))) else pure (ForInStep.yield cs)) := by
      simp only [closureFor, bind_pure]
    obtain ⟨cl, e, h1, _, h3⟩ := closure_run (env := env) (fun (x : Str × NameKind) (cs : List (Str × Addr)) => if (x.2 == NameKind.free) = true then (cellOf env x.1 >>= fun a => pure (ForInStep.yield ((x.1, a) :: cs))) else pure (ForInStep.yield cs)) (fun n k c => rfl) scope.names [] h (fun _ hp => nomatch hp)
    exact ⟨cl, hF.trans e, h1, h3⟩
  obtain ⟨cl, e, h1, h3⟩ := key
  refine ⟨cl, e, fun x c q => h1 (x, c) (lookup_mem q), fun y hy hf => ?_⟩
  obtain ⟨c, q⟩ := h3 y hy hf
  exact mem_lookup q

/-! ### the context of a comprehension's block -/
def compCx (X : Cx) (scope : Scope) (N : List Str) (cl : List (Str × Addr)) (C : Addr) (s₀ : Shared) (H₀ : Hp) (fp : List Addr) (pn : List (Addr × Obj)) : Cx where
  prog := X.prog
  w := X.w
  K := X.K
  mg := X.mg
  base := X.base
  A := X.A
  N := N
  s₀ := s₀
  H₀ := H₀
  env := compEnvC scope cl C X.env
  outer := X.stack
  stack := X.stack
  ex := fp
  fn := fun _ => false
  calm := X.calm
  pn := pn
  xe := fun _ _ => False

/-- what is asked of the names: sc the def's scope, XN its names, scope the comprehension's, N its names (targets, then the def's own that it reads), src: where in XN those stand -/
def compOkB (sc scope : Scope) (XN N : List Str) (src : List (Option Nat)) : Bool :=
  decide (sc.kind = .function) && decide (scope.kind = .function) && scope.names.all (fun y => decide (y.2 ≠ .cell)) && scope.names.all (fun y => decide (y.2 = .local → scope.names.lookup y.1 = some .local)) &&
  scope.names.all (fun y => decide (y.2 = .free → sc.names.lookup y.1 = some .cell)) && decide (src.length = N.length) &&
  (N.zip src).all (fun p => match p.2 with | none => true | some j => decide (XN[j]? = some p.1) && decide (scope.names.lookup p.1 = some .free))
structure CompOk (sc scope : Scope) (XN N : List Str) (src : List (Option Nat)) : Prop where
  fk : sc.kind = .function
  kind : scope.kind = .function
  nocell : ∀ y ∈ scope.names, y.2 ≠ .cell
  locs : ∀ y ∈ scope.names, y.2 = .local → scope.names.lookup y.1 = some .local
  frees : ∀ y ∈ scope.names, y.2 = .free → sc.names.lookup y.1 = some .cell
  len : src.length = N.length
  src : ∀ (i j : Nat) (x : Str), N[i]? = some x → src[i]? = some (some j) → XN[j]? = some x ∧ scope.names.lookup x = some .free
theorem compOk_of {sc scope : Scope} {XN N : List Str} {src : List (Option Nat)} (h : compOkB sc scope XN N src = true) : CompOk sc scope XN N src := by
  unfold compOkB at h
  simp only [Bool.and_eq_true, decide_eq_true_eq, List.all_eq_true] at h
  obtain ⟨⟨⟨⟨⟨⟨h0, h1⟩, h2⟩, h3⟩, h4⟩, h5⟩, h6⟩ := h
  refine ⟨h0, h1, h2, h3, h4, h5, fun i j x e1 e2 => ?_⟩
  have hm : (x, some j) ∈ N.zip src := by
    refine List.mem_iff_getElem?.mpr ⟨i, ?_⟩
    rw [List.getElem?_zip_eq_some]
    exact ⟨e1, e2⟩
  have q := h6 _ hm
  simpa using q
theorem lookup_relabel_free {env : Env} (hk : env.scope.kind = .function) : ∀ {names : List (Str × NameKind)} {x : Str}, names.lookup x = some .free → env.kindOf x = some .cell →
    (names.map fun (n, k) => if (k == NameKind.free && env.scope.kind == .function && env.kindOf n == some .cell) then (n, NameKind.cell) else (n, k)).lookup x = some .cell
  | [], _, h, _ => by simp at h
  | (n, k) :: r, x, h, hc => by
    have ih := @lookup_relabel_free env hk r x
    show List.lookup x ((if (k == NameKind.free && env.scope.kind == .function && env.kindOf n == some .cell) = true then (n, NameKind.cell) else (n, k)) :: _) = _
    cases hx : x == n with
    | true =>
      simp only [List.lookup_cons, hx] at h
      have e : x = n := by simpa using hx
      subst e
      cases h
      rw [if_pos (by rw [hk, hc]; rfl)]
      simp [List.lookup_cons]
    | false =>
      simp only [List.lookup_cons, hx] at h
      by_cases hc' : (k == NameKind.free && env.scope.kind == .function && env.kindOf n == some .cell) = true
      · rw [if_pos hc']; simp only [List.lookup_cons, hx]; exact ih h hc
      · rw [if_neg hc']; simp only [List.lookup_cons, hx]; exact ih h hc
/-- a name that the relabelled scope calls cell or free is a free one -/
theorem relabel_back {env : Env} : ∀ {names : List (Str × NameKind)} {x : Str}, (∀ y ∈ names, y.2 ≠ .cell) →
    ((names.map fun (n, k) => if (k == NameKind.free && env.scope.kind == .function && env.kindOf n == some .cell) then (n, NameKind.cell) else (n, k)).lookup x = some .cell ∨
      (names.map fun (n, k) => if (k == NameKind.free && env.scope.kind == .function && env.kindOf n == some .cell) then (n, NameKind.cell) else (n, k)).lookup x = some .free) → (x, NameKind.free) ∈ names
  | [], _, _, h => by simp at h
  | (n, k) :: r, x, hn, h => by
    have ih := @relabel_back env r x (fun y hy => hn y (List.mem_cons_of_mem _ hy))
    have hk : k ≠ .cell := hn (n, k) List.mem_cons_self
    rw [List.map_cons] at h
    cases hx : x == n with
    | true =>
      have e : x = n := by simpa using hx
      subst e
      by_cases hc' : (k == NameKind.free && env.scope.kind == .function && env.kindOf x == some .cell) = true
      · have hf : k = .free := by
          simp only [Bool.and_eq_true, beq_iff_eq] at hc'
          exact hc'.1.1
        subst hf
        exact List.mem_cons_self
      · simp only [if_neg hc', List.lookup_cons, hx] at h
        rcases h with h | h
        · exact absurd (Option.some.inj h) hk
        · have hf : k = .free := Option.some.inj h
          subst hf
          exact List.mem_cons_self
    | false =>
      refine List.mem_cons_of_mem _ (ih ?_)
      by_cases hc' : (k == NameKind.free && env.scope.kind == .function && env.kindOf n == some .cell) = true
      · simp only [if_pos hc', List.lookup_cons, hx] at h; exact h
      · simp only [if_neg hc', List.lookup_cons, hx] at h; exact h

/-- the values at the block's start -/
def srcσ (src : List (Option Nat)) (σ : St) : St := src.map fun o => o.bind fun j => (σ[j]?).join

section
variable {X : Cx} {scope : Scope} {N : List Str} {src : List (Option Nat)} {cl : List (Str × Addr)} {pins : List (Addr × Obj)} {σ : St} {H3 : Hp} {s₃ : Shared} {fp : List Addr} {h₁ : Heap} {m : Str → Option Value}
/-- the block's context stands -/
theorem compCx_ok (I : Inv X pins σ H3 s₃) (ok : CompOk X.env.scope scope X.N N src) (hcl : ∀ x c, cl.lookup x = some c → X.env.cells.lookup x = some c) (hall : ∀ y ∈ scope.names, y.2 = .free → ∃ c, cl.lookup y.1 = some c)
    (hf : ∀ b ∈ fp, FpOk X pins H3 b) (hlt : ∀ b ∈ fp, b < s₃.heap.objs.size) : (compCx X scope N cl s₃.heap.objs.size s₃ H3 fp (X.pn ++ pins)).Ok where
  mod := I.ok.mod
  kind := ok.kind
  glob := I.ok.glob
  blt := I.ok.blt
  above := Nat.le_refl _
  inj := fun x y c h1 h2 => I.ok.inj x y c (hcl x c h1) (hcl y c h2)
  has := fun x hx => hall (x, .free) (relabel_back ok.nocell hx) rfl
  cab := fun x c h _ => nomatch h
  hd := I.ok.hd
  frames := I.ok.frames
  stk := .inl rfl
  exf := fun b hb => ⟨Nat.ne_of_lt (hlt b hb), fun x c e => (hf b hb).2.2.2.2.1 x c (hcl x c e)⟩
  bs := I.bs
  bsz := Nat.le_trans I.ok.bsz I.sz
  noex := fun b o e hb => by
    rcases (hf b hb).2.2.2.1 with z | z
    · exact I.ok.noex b o e z
    · exact absurd (Nat.lt_of_lt_of_le (Heap.lt_size (I.ok.bs b o e).1) z) (Nat.lt_irrefl _)
  exfs := fun b hb hs => by
    rcases List.mem_cons.mp (I.stkSub b hs) with z | z
    · exact (hf b hb).2.1 z
    · exact (hf b hb).2.2.1 z
  funs := I.stack
  frf := I.stkFree
theorem compCx_inv (I : Inv X pins σ H3 s₃) (ok : CompOk X.env.scope scope X.N N src) (hcl : ∀ x c, cl.lookup x = some c → X.env.cells.lookup x = some c) (hall : ∀ y ∈ scope.names, y.2 = .free → ∃ c, cl.lookup y.1 = some c)
    (hf : ∀ b ∈ fp, FpOk X pins H3 b) (hlt : ∀ b ∈ fp, b < s₃.heap.objs.size) (hn : h₁.Ns s₃.heap.objs.size m) (hk : ∀ b o, s₃.heap.get? b = some o → h₁.get? b = some o) (t : Nat) :
    Inv (compCx X scope N cl s₃.heap.objs.size s₃ H3 fp (X.pn ++ pins)) [] (srcσ src σ) H3 { s₃ with heap := h₁, toks := t } where
  ok := compCx_ok I ok hcl hall hf hlt
  os := rfl
  bare := I.bare
  base := Un.kept hk
  loc := by
    refine ⟨m, hn, fun i x v e1 e2 _ => ?_⟩
    unfold srcσ at e2
    rw [List.getElem?_map] at e2
    cases hs : src[i]? with
    | none => rw [hs] at e2; cases e2
    | some o =>
      cases o with
      | none => rw [hs] at e2; simp at e2
      | some j =>
        rw [hs] at e2
        have e3 : (σ[j]?).join = some v := Option.some.inj e2
        have e4 : σ[j]? = some (some v) := by
          cases q : σ[j]? with
          | none => rw [q] at e3; cases e3
          | some o => rw [q] at e3; rw [show o = some v from e3]
        obtain ⟨hN, hfree⟩ := ok.src i j x e1 hs
        have hc : X.env.kindOf x = some .cell := ok.frees (x, .free) (lookup_mem hfree) rfl
        obtain ⟨m0, _, hl⟩ := I.loc
        obtain ⟨u, r, lk⟩ := hl j x v hN e4 (.inr (.inl hc))
        refine ⟨u, r, .inr ⟨.inl (lookup_relabel_free ok.fk hfree hc), ?_⟩⟩
        obtain ⟨c, hcc⟩ := hall (x, .free) (lookup_mem hfree) rfl
        refine ⟨c, hcc, ?_⟩
        rcases lk with ⟨k, _⟩ | ⟨_, c', e, z⟩
        · rw [hc] at k; cases k
        · have : c' = c := Option.some.inj (e.symm.trans (hcl x c hcc))
          subst this
          exact z.keeps hk
  cell := fun x c e => let ⟨v, z⟩ := I.cell x c (hcl x c e); ⟨v, z.keeps hk⟩
  free := I.hok.fresh (Nat.le_refl _)
  freeC := fun x c e => I.freeC x c (hcl x c e)
  pin := fun p hp => by
    have hp' : p ∈ X.pn ++ pins := by simpa [compCx] using hp
    obtain ⟨e, n, ne, nf, d⟩ := I.pin p hp'
    refine ⟨hk _ _ e, n, Nat.ne_of_lt (Heap.lt_size e), fun hs => ?_, d⟩
    rcases List.mem_cons.mp (I.stkSub _ hs) with z | z
    · exact ne z
    · exact nf z
  hok := I.hok.kept hk
  len := by
    show (srcσ src σ).length = N.length
    unfold srcσ
    rw [List.length_map, ok.len]
/-- behind the block -/
theorem compCx_back {H' : Hp} {s' : Shared} {σ' : St} {pins' : List (Addr × Obj)} (I : Inv X pins σ H3 s₃) (J : Inv (compCx X scope N cl s₃.heap.objs.size s₃ H3 fp (X.pn ++ pins)) pins' σ' H' s') (hf : ∀ b ∈ fp, FpOk X pins H3 b) : Inv X pins σ H' s' :=
  I.call' (ch := fp) J.os J.base J.hok J.bare fun b hb => ⟨(hf b hb).2.2.2.1, (hf b hb).2.1, (hf b hb).2.2.2.2.1, (hf b hb).2.2.2.2.2⟩
end

/-! ### the loop of a comprehension of one clause -/
theorem compLoop_of {prog : Program} {w : World} {A : Around} {R : Result → Shared → Prop} {s : Shared} {elt target iter : Expr} {ifs : List Expr} {scope : Scope} {pos : Pos} {it acc : Value} {env : Env} (I : Nat → Shared → Prop)
    (turn : ∀ n s, I n s → wpAny (model prog w) A (pyNext it) (fun r s₁ => match r with
      | none => R (.ok .next) s₁
      | some v => wpAny (model prog w) A (letOwnedTupleGo target it v) (fun _ s₁' => wpAny (model prog w) A (assign target env v) (fun _ s₂ =>
          wpAny (model prog w) A (forIn ifs true fun c r => if r = true then do let ok ← isTrue c env (eval c env); pure (ForInStep.yield ok) else pure (ForInStep.yield r)) (fun ok s₃ =>
            if ok = true then wpAny (model prog w) A (eval elt env) (fun x s₄ =>
              wpAny (model prog w) A (call (.builtin "list.append") [acc, x]) (fun _ s₅ => ∃ m, m < n ∧ I m s₅) (fun _ _ => False) s₄) (fun _ _ => False) s₃
            else ∃ m, m < n ∧ I m s₃) (fun _ _ => False) s₂) (fun _ _ => False) s₁') (fun _ _ => False) s₁) (fun _ _ => False) s)
    (n : Nat) (h : I n s) : codeAny (model prog w) A (.compLoop (.ListComp elt [⟨target, iter, ifs, 0⟩] scope pos) 0 it acc env) R s := by
  refine codeAny_loop rfl I (fun n s hI => ?_) n h
  show wpAny _ A ((compTurn (.ListComp elt [⟨target, iter, ifs, 0⟩] scope pos) 0 it acc env).onRaise (fun x => do noteFrame x env; theTreesLotGoes x)) _ _ s
  refine wpAny_noted ?_
  rw [compTurn_list]
  refine wpAny_bind (wpAny_standAt (wpAny_bind (wpAny_mono (turn n s hI) (fun r s₁ h₁ => ?_) fun _ _ h' => h'.elim)))
  cases r with
  | none => exact wpAny_pure h₁
  | some v =>
    refine wpAny_bind (wpAny_mono h₁ (fun _ s₁' h₁' => ?_) fun _ _ h' => h'.elim)
    refine wpAny_bind (wpAny_mono h₁' (fun _ s₂ h₂ => wpAny_bind (wpAny_mono h₂ (fun ok s₃ h₃ => ?_) fun _ _ h' => h'.elim)) fun _ _ h' => h'.elim)
    cases ok with
    | false => exact wpAny_pure ⟨rfl, h₃⟩
    | true =>
      exact wpAny_bind (wpAny_bind (wpAny_mono h₃ (fun x s₄ h₄ => wpAny_bind (wpAny_mono h₄ (fun _ s₅ h₅ => wpAny_pure (wpAny_pure ⟨rfl, h₅⟩)) fun _ _ h' => h'.elim)) fun _ _ h' => h'.elim))

/-! ### tests of a clause -/
def PTs (X : Cx) (ifs : List Expr) (t : TT) : Prop :=
  ∀ (pins : List (Addr × Obj)) (s : Shared) (σ : St) (H : Hp) (Q : Bool → Hp → Prop), Inv X pins σ H s → t σ H Q →
    wpAny (model X.prog X.w) X.A (forIn ifs true fun c r => if r = true then do let ok ← isTrue c X.env (eval c X.env); pure (ForInStep.yield ok) else pure (ForInStep.yield r)) (TP X pins σ Q) X.xe s
def tAll : TT := fun _ H Q => Q true H
theorem pts_nil {X : Cx} : PTs X [] tAll := fun pins s σ H Q I h => wpAny_tests_nil ⟨H, I, h⟩
/-! ### [elt for tg in iter if ..] -/
/-- W: by the turn and a measure, the block's values, the list so far, the heap (the new list stands at l) -/
def tCompW (J : It) (g : TG) (tc : TT) (te : TE) (σ0 : St) (H1 : Hp) (Q : VK) : Prop :=
  ∀ l, H1 l = none → ∃ W : Nat → Nat → St → List V → Hp → Prop, (∃ m, W 0 m σ0 [] (upd H1 l (.lst []))) ∧
    ∀ i m σ' acc H', W i m σ' acc H' → (J.stop i H' ∧ Q (.ref l) H') ∨ (J.go i H' ∧ ∃ N : St → List V → Hp → Prop, (∀ σ2 acc2 H2, N σ2 acc2 H2 → ∃ m', m' < m ∧ W (i + 1) m' σ2 acc2 H2) ∧
      ∀ x H2, J.yld i H' x H2 → g x σ' H2 fun σ2 H3 => tc σ2 H3 fun b H4 => if b = true then
        te σ2 H4 fun v H5 => H5 l = some (.lst acc) ∧ acc.length < sizeLine ∧ N σ2 (acc ++ [v]) (upd H5 l (.lst (acc ++ [v]))) else N σ2 acc H4)
def tComp (wi : TI) (g : TG) (tc : TT) (te : TE) (src : List (Option Nat)) : TE := fun σ H Q => wi σ H fun J H1 => tCompW J g tc te (srcσ src σ) H1 Q

section
variable {X : Cx} {scope : Scope} {N : List Str} {src : List (Option Nat)} {tg iter elt : Expr} {ifs : List Expr} {pos : Pos} {g : TG} {tc : TT} {te : TE}
theorem comp_block {pins : List (Addr × Obj)} {σ : St} {H2 : Hp} {s₂ : Shared} {J : It} {fp : List Addr} {it : Addr} {tn : Nat → Heap → Prop} {Q : VK} {RR : Value → Addr → Result → Shared → Prop} {cl : List (Str × Addr)} {E : Value → Shared → Prop}
    (hcalm : X.calm = true) (ok : CompOk X.env.scope scope X.N N src) (hcl : ∀ x c, cl.lookup x = some c → X.env.cells.lookup x = some c) (hall : ∀ y ∈ scope.names, y.2 = .free → ∃ c, cl.lookup y.1 = some c)
    (hg : ∀ cl C s₀ H₀ fp pn, PG (compCx X scope N cl C s₀ H₀ fp pn) tg g) (ht : ∀ cl C s₀ H₀ fp pn, PTs (compCx X scope N cl C s₀ H₀ fp pn) ifs tc) (he : ∀ cl C s₀ H₀ fp pn, PE (compCx X scope N cl C s₀ H₀ fp pn) elt te)
    (I2 : Inv X pins σ H2 s₂) (T : Turn X.prog X.w X.K tg J fp it tn) (st2 : tn 0 s₂.heap) (f2 : ∀ b ∈ fp, FpOk X pins H2 b) (h : tCompW J g tc te (srcσ src σ) H2 Q)
    (hRR : ∀ l C s' m H', Inv X pins σ H' s' → FpOk X pins H' C → s'.heap.Ns C m → Q (.ref l) H' → RR (.ref l) C (.ok .next) s') :
    wpAny (model X.prog X.w) X.A (newList []) (fun acc s₃ => wpAny (model X.prog X.w) X.A (newFunctionEnv scope X.env.globals cl [] X.env.qual none .none (some X.env)) (fun cenv s₄ =>
      codeAny (model X.prog X.w) X.A (.compStart (.ListComp elt [⟨tg, iter, ifs, 0⟩] scope pos) 0 (.ref it) acc { cenv with scope := relabel scope X.env }) (RR acc cenv.locals) s₄) E s₃) E s₂ := by
  refine wpAny_newObj_type ?_
  have I3 := I2.lnew (ys := []) (its := []) (t' := s₂.toks) .nil (Nat.zero_le _)
  have hl0 : H2 s₂.heap.objs.size = none := I2.fresh
  obtain ⟨W, ⟨m0, w0⟩, turn⟩ := h s₂.heap.objs.size hl0
  generalize hs3 : ({ s₂ with heap := s₂.heap.push { cls := .type "list", data := .seq ([] : List Value).toArray }, toks := s₂.toks } : Shared) = s₃ at I3
  have hkeep : ∀ b o, s₂.heap.get? b = some o → s₃.heap.get? b = some o := fun b o e => by rw [← hs3]; exact Heap.get?_push_of_some _ e
  have hsz3 : s₃.heap.objs.size = s₂.heap.objs.size + 1 := by rw [← hs3]; exact Heap.size_push ..
  have hfl : ∀ b ∈ fp, b < s₂.heap.objs.size := fun b hb => let ⟨o, e, _⟩ := T.obj _ _ st2 b hb; Heap.lt_size e
  have f3 : ∀ b ∈ fp, FpOk X pins (upd H2 s₂.heap.objs.size (.lst [])) b := fun b hb => ⟨by rw [upd_ne (Nat.ne_of_lt (hfl b hb))]; exact (f2 b hb).1, (f2 b hb).2⟩
  have hlt3 : ∀ b ∈ fp, b < s₃.heap.objs.size := fun b hb => by rw [hsz3]; exact Nat.lt_succ_of_lt (hfl b hb)
  refine wpAny_newFunctionEnv ok.nocell (fun y hy => nomatch hy) (fun h₁ hns hsb => ?_) ok.kind
  have old : ∀ b o, s₃.heap.get? b = some o → h₁.get? b = some o := fun b o e => hsb.extBut b o (Nat.ne_of_lt (Heap.lt_size e)) (Heap.get?_push_of_some _ e)
  have IY := compCx_inv (N := N) (cl := cl) (fp := fp) I3 ok hcl hall f3 hlt3 hns old (s₃.toks + ([] : List (Str × Value)).length)
  have stY : tn 0 h₁ := T.keep 0 s₂.heap h₁ st2 fun b hb o e => old b o (hkeep b o e)
  generalize hC : s₃.heap.objs.size = C at *
  generalize hs4 : ({ s₃ with heap := h₁, toks := s₃.toks + ([] : List (Str × Value)).length } : Shared) = s₄ at IY
  have hh4 : s₄.heap = h₁ := by rw [← hs4]
  have stY' : tn 0 s₄.heap := by rw [hh4]; exact stY
  have stat : ∀ {H' : Hp}, (∀ b ∈ fp, H' b = none) → ∀ b ∈ fp, FpOk (compCx X scope N cl C s₃ (upd H2 s₂.heap.objs.size (.lst [])) fp (X.pn ++ pins)) [] H' b := fun hn b hb => by
    refine ⟨hn b hb, Nat.ne_of_lt (hlt3 b hb), fun hs => ?_, .inl hb, fun x c e => (f2 b hb).2.2.2.2.1 x c (hcl x c e), fun p hp => ?_⟩
    · rcases List.mem_cons.mp (I3.stkSub b hs) with z | z
      · exact (f2 b hb).2.1 z
      · exact (f2 b hb).2.2.1 z
    · have hp' : p ∈ X.pn ++ pins := by simpa [compCx] using hp
      exact (f2 b hb).2.2.2.2.2 p hp'
  have loop : codeAny (model X.prog X.w) X.A (.compLoop (.ListComp elt [⟨tg, iter, ifs, 0⟩] scope pos) 0 (.ref it) (.ref s₂.heap.objs.size) (compEnvC scope cl C X.env)) (RR (.ref s₂.heap.objs.size) C) s₄ := by
    refine compLoop_of (fun n s' => ∃ i σ' acc H', Inv (compCx X scope N cl C s₃ (upd H2 s₂.heap.objs.size (.lst [])) fp (X.pn ++ pins)) [] σ' H' s' ∧ tn i s'.heap ∧ (∀ b ∈ fp, H' b = none) ∧ W i n σ' acc H') ?_ m0
      ⟨0, srcσ src σ, [], _, IY, stY', fun b hb => (f3 b hb).1, w0⟩
    rintro n s5 ⟨i, σ5, acc, H5, I5, st5, fr5, w5⟩
    rcases turn i n σ5 acc H5 w5 with ⟨stop, qn⟩ | ⟨go, Nx, hNx, step⟩
    · refine thn (T.done (compCx X scope N cl C s₃ (upd H2 s₂.heap.objs.size (.lst [])) fp (X.pn ++ pins)) rfl rfl rfl hcalm i [] s5 σ5 H5 (fun _ _ => False) I5 (stat fr5) st5 stop) fun r s6 ⟨hr, I6⟩ => ?_
      subst hr
      obtain ⟨m, hn6, _⟩ := I6.loc
      subst hC
      have IX := compCx_back I3 I6 f3
      exact hRR _ _ s6 m H5 IX (I3.fpOk (Nat.le_refl _) I6.free) hn6 qn
    · refine thn (T.item (compCx X scope N cl C s₃ (upd H2 s₂.heap.objs.size (.lst [])) fp (X.pn ++ pins)) rfl rfl rfl hcalm i [] s5 σ5 H5 (fun _ _ => False) I5 (stat fr5) st5 go) fun r s6 ⟨u, hr, h6⟩ => ?_
      subst hr
      refine thn h6 fun _ s7 ⟨x, H7, I7, r7, y7, st7, fr7⟩ => ?_
      have I7' := I7.pinned (stat fr7) (T.obj _ _ st7)
      have again : ∀ {σ8 : St} {H8 : Hp} {s8 : Shared}, Inv (compCx X scope N cl C s₃ (upd H2 s₂.heap.objs.size (.lst [])) fp (X.pn ++ pins)) ([] ++ pinsAt fp s7.heap) σ8 H8 s8 → ∀ {acc' : List V}, Nx σ8 acc' H8 →
          ∃ m, m < n ∧ ∃ i σ' acc H', Inv (compCx X scope N cl C s₃ (upd H2 s₂.heap.objs.size (.lst [])) fp (X.pn ++ pins)) [] σ' H' s8 ∧ tn i s8.heap ∧ (∀ b ∈ fp, H' b = none) ∧ W i m σ' acc H' := fun {σ8 H8 s8} I8 {acc'} w8 => by
        obtain ⟨m', hm, w8⟩ := hNx _ _ _ w8
        refine ⟨m', hm, i + 1, σ8, acc', H8, I8.unpinned, T.keep _ _ _ st7 fun b hb o e => (I8.pin (b, o) (List.mem_append_right _ (List.mem_append_right _ (mem_pinsAt hb e)))).1, fun b hb => ?_, w8⟩
        obtain ⟨o, e, d⟩ := T.obj _ _ st7 b hb
        exact (I8.pin (b, o) (List.mem_append_right _ (List.mem_append_right _ (mem_pinsAt hb e)))).2.1
      refine thn (hg cl C s₃ (upd H2 s₂.heap.objs.size (.lst [])) fp (X.pn ++ pins) _ s7 σ5 H7 x u _ I7' r7 (step x H7 y7)) fun _ s8 ⟨σ8, H8, I8, q8⟩ => ?_
      refine thn (ht cl C s₃ (upd H2 s₂.heap.objs.size (.lst [])) fp (X.pn ++ pins) _ s8 σ8 H8 _ I8 q8) fun b s9 ⟨H9, I9, q9⟩ => ?_
      cases b with
      | false =>
        rw [if_neg Bool.false_ne_true] at q9 ⊢
        exact again I9 q9
      | true =>
        rw [if_pos rfl] at q9 ⊢
        refine thn (he cl C s₃ (upd H2 s₂.heap.objs.size (.lst [])) fp (X.pn ++ pins) _ s9 σ8 H9 _ I9 q9) fun y s10 ⟨v, H10, I10, r10, hl10, hz10, w10⟩ => ?_
        refine thn (mt_append (X := compCx X scope N cl C s₃ (upd H2 s₂.heap.objs.size (.lst [])) fp (X.pn ++ pins)) _ s10 σ8 H10 (.ref s₂.heap.objs.size) [v] (.ref s₂.heap.objs.size) [y] (fun _ H11 => H11 = upd H10 s₂.heap.objs.size (.lst (acc ++ [v]))) I10 rfl (.cons r10 .nil)
          ⟨_, acc, v, rfl, rfl, hl10, hz10, rfl⟩) fun _ s11 ⟨_, H11, I11, _, e11⟩ => ?_
        subst e11
        exact again I11 w10
  exact codeAny_compStart_list (env := compEnvC scope cl C X.env) loop (T.self X.A 0 s₄ _ _ stY' loop)
/-- [elt for tg in iter if ..] -/
theorem pe_comp (N : List Str) (src : List (Option Nat)) {wi : TI} (hcalm : X.calm = true) (hi : PI X tg iter wi) (hg : ∀ cl C s₀ H₀ fp pn, PG (compCx X scope N cl C s₀ H₀ fp pn) tg g) (ht : ∀ cl C s₀ H₀ fp pn, PTs (compCx X scope N cl C s₀ H₀ fp pn) ifs tc)
    (he : ∀ cl C s₀ H₀ fp pn, PE (compCx X scope N cl C s₀ H₀ fp pn) elt te) (sc : Scope) (XN : List Str) (hsc : X.env.scope = sc) (hXN : X.N = XN) (hok : compOkB sc scope XN N src = true)
    (hs : ∀ x, foldedSetIterable iter X.env x = pure x := by intro _; rfl) : PE X (.ListComp elt [⟨tg, iter, ifs, 0⟩] scope pos) (tComp wi g tc te src) := by
  intro pins s σ H Q I h
  subst hsc hXN
  have ok := compOk_of hok
  obtain ⟨cl, hclos, hcl, hall⟩ := closure_ok (scope := scope) (env := X.env) fun y hy hf => by
    obtain ⟨c, e⟩ := I.ok.has y.1 (.inl (ok.frees y hy hf))
    exact ⟨c, e⟩
  rw [eval_ListComp]
  refine wpAny_comprehension_free (use := none) rfl hs hclos ok.kind ok.locs (thn (hi pins s σ H _ I h) fun xv s₁ h₁ => thn h₁ fun itv s₂ h₂ => ?_)
  obtain ⟨it, fp, tn, J, H2, rfl, I2, T, st2, f2, q⟩ := h₂
  refine comp_block (RR := fun acc C => compPost (model X.prog X.w) X.A X.xe none (EP X pins σ Q) acc C) hcalm ok hcl hall hg ht he I2 T st2 f2 q fun l C s' m H' IX fC hn qn => ?_
  refine ⟨m, hn, fun h' hs' => ⟨.ref l, H', ?_, rfl, qn⟩⟩
  exact IX.turned (t' := s'.toks) (fun b o hb e => hs'.extBut b o hb e) fC.1 fC.2.1 fC.2.2.2.1 fC.2.2.2.2.1 fC.2.2.2.2.2
/-- x = [elt for tg in iter if ..]: the list is stored ahead of the block's end -/
theorem ps_setComp (N : List Str) (src : List (Option Nat)) {wi : TI} {i : Nat} {y : Str} {py spos : Pos} (hcalm : X.calm = true) (hN : X.N.Nodup) (hy : X.N[i]? = some y) (hyl : Loc X.env.scope y) (hi : PI X tg iter wi) (hg : ∀ cl C s₀ H₀ fp pn, PG (compCx X scope N cl C s₀ H₀ fp pn) tg g) (ht : ∀ cl C s₀ H₀ fp pn, PTs (compCx X scope N cl C s₀ H₀ fp pn) ifs tc)
    (he : ∀ cl C s₀ H₀ fp pn, PE (compCx X scope N cl C s₀ H₀ fp pn) elt te) (sc : Scope) (XN : List Str) (hsc : X.env.scope = sc) (hXN : X.N = XN) (hok : compOkB sc scope XN N src = true)
    (hsw : swapsWith (.ListComp elt [⟨tg, iter, ifs, 0⟩] scope pos) (some (.Name y py)) spos.line X.env = pure true) (hfn : X.fn y = true ∨ X.env.scope.names.lookup y = some .local := by first | exact .inl rfl | exact .inr rfl | assumption)
    (hs : ∀ x, foldedSetIterable iter X.env x = pure x := by intro _; rfl) : PS X (.Assign [.Name y py] (.ListComp elt [⟨tg, iter, ifs, 0⟩] scope pos) spos) (tAsg (tComp wi g tc te src) (gName i)) := by
  intro pins s σ H D I h
  subst hsc hXN
  have ok := compOk_of hok
  obtain ⟨cl, hclos, hcl, hall⟩ := closure_ok (scope := scope) (env := X.env) fun y hy hf => by
    obtain ⟨c, e⟩ := I.ok.has y.1 (.inl (ok.frees y hy hf))
    exact ⟨c, e⟩
  rw [exec_Assign_Name_used _ _ _ _ hsw]
  refine wpAny_bind (wpAny_standAt (wpAny_bind ?_))
  show wpAny _ X.A (do let _ ← comprehension (.ListComp elt [⟨tg, iter, ifs, 0⟩] scope pos) scope X.env _ (newList []) false (eval iter X.env) (some (assign (.Name y py) X.env))) _ _ s
  refine wpAny_bind (wpAny_mono (wpAny_comprehension_free (use := some (assign (.Name y py) X.env)) (Q := fun _ s' => SP X pins D .next s') rfl hs hclos ok.kind ok.locs
    (thn (hi pins s σ H _ I h) fun xv s₁ h₁ => thn h₁ fun itv s₂ h₂ => ?_)) (fun _ s' hq => wpAny_pure (wpAny_pure hq)) fun _ _ e => e)
  obtain ⟨it, fp, tn, J, H2, rfl, I2, T, st2, f2, q⟩ := h₂
  refine comp_block (RR := fun acc C => compPost (model X.prog X.w) X.A X.xe (some (assign (.Name y py) X.env)) (fun _ s' => SP X pins D .next s') acc C) hcalm ok hcl hall hg ht he I2 T st2 f2 q fun l C s' m H' IX fC hn qn => ?_
  show wpAny _ X.A (assign (.Name y py) X.env (.ref l)) _ _ _
  refine wpAny_assign_Name (store_ok2 IX hN hy hyl (v := .ref l) (u := .ref l) rfl (fun s'' I'' ⟨a, hsb, ha⟩ => ?_) hfn)
  have hCa : C ≠ a := by
    rcases ha with z | z
    · rw [z]; exact fC.2.1
    · exact fun e => fC.2.2.2.2.1 y a z e.symm
  refine ⟨m, hn.sameBut hsb hCa, fun h' hs' => ?_⟩
  exact ⟨_, H', I''.turned (t' := s''.toks) (fun b o hb e => hs'.extBut b o hb e) fC.1 fC.2.1 fC.2.2.2.1 fC.2.2.2.2.1 fC.2.2.2.2.2, qn⟩
end
end L2

set_option Elab.async false
set_option linter.all false
set_option maxRecDepth 100000
namespace L2
open PySem PySem.Spec PyProof.Rows

/-! ### data in the abstract heap, and == -/
mutual
def DataAt (K : PySem.W.Frag) (H : Hp) : PyData → V → Prop
  | .none, v => v = .non
  | .bool b, v => v = .bl b
  | .int i, v => v = .int i
  | .str x, v => v = .str x
  | .list ds, v => ∃ p xs, v = .ref p ∧ SqL K H p xs ∧ DataAll K H ds xs
  | .tuple ds, v => ∃ p xs, v = .ref p ∧ SqT K H p xs ∧ DataAll K H ds xs
  | .dict _, _ => False
def DataAll (K : PySem.W.Frag) (H : Hp) : List PyData → List V → Prop
  | [], xs => xs = []
  | d :: ds, xs => ∃ y ys, xs = y :: ys ∧ DataAt K H d y ∧ DataAll K H ds ys
end
section
variable {X : Cx} {pins : List (Addr × Obj)} {σ : St} {H : Hp} {s : Shared}
mutual
theorem reads_of (I : Inv X pins σ H s) : ∀ (d : PyData) (v : V) (u : Value), DataAt X.K H d v → RelV v u → ∃ as, Reads s.heap u d as
  | .none, v, u, h, r => by
    rw [DataAt] at h; subst h; cases r; exact ⟨_, .none⟩
  | .bool b, v, u, h, r => by
    rw [DataAt] at h; subst h; cases r; exact ⟨_, .bool b⟩
  | .int i, v, u, h, r => by
    rw [DataAt] at h; subst h; obtain ⟨t, rfl⟩ := r; exact ⟨_, .int i t⟩
  | .str x, v, u, h, r => by
    rw [DataAt] at h; subst h; obtain ⟨t, rfl⟩ := r; exact ⟨_, .str x t⟩
  | .list ds, v, u, h, r => by
    rw [DataAt] at h
    obtain ⟨p, xs, rfl, hq, ha⟩ := h
    cases r
    obtain ⟨its, rv, pl, _⟩ := I.list hq
    obtain ⟨o, ho, hc, n, hd⟩ := pl.isList
    obtain ⟨as, ra⟩ := readsAll_of I ds xs its ha rv
    exact ⟨_, .list ho hc hd (by simpa using ra)⟩
  | .tuple ds, v, u, h, r => by
    rw [DataAt] at h
    obtain ⟨p, xs, rfl, hq, ha⟩ := h
    cases r
    obtain ⟨its, rv, pl, _⟩ := I.tuple hq
    obtain ⟨o, ho, hc, n, hd⟩ := pl
    obtain ⟨as, ra⟩ := readsAll_of I ds xs its ha rv
    exact ⟨_, .tuple ho hc hd (by simpa using ra)⟩
  | .dict _, v, u, h, r => by rw [DataAt] at h; exact h.elim
theorem readsAll_of (I : Inv X pins σ H s) : ∀ (ds : List PyData) (xs : List V) (us : List Value), DataAll X.K H ds xs → Vals xs us → ∃ as, ReadsAll s.heap us ds as
  | [], xs, us, h, r => by
    rw [DataAll] at h; subst h; cases r; exact ⟨_, .nil⟩
  | d :: ds, xs, us, h, r => by
    rw [DataAll] at h
    obtain ⟨y, ys, rfl, h1, h2⟩ := h
    cases r with
    | cons r1 r2 =>
      obtain ⟨as, q1⟩ := reads_of I d y _ h1 r1
      obtain ⟨bs, q2⟩ := readsAll_of I ds ys _ h2 r2
      exact ⟨_, .cons q1 q2⟩
end
end
def rEqD (K : PySem.W.Frag) : R2 := fun x y H Q => ∃ d e, DataAt K H d x ∧ DataAt K H e y ∧ SeqAt.shaped d = true ∧ SeqAt.shaped e = true ∧ Q (.bl (PyData.eqv d e)) H
def rNeD (K : PySem.W.Frag) : R2 := fun x y H Q => ∃ d e, DataAt K H d x ∧ DataAt K H e y ∧ SeqAt.shaped d = true ∧ SeqAt.shaped e = true ∧ Q (.bl (!PyData.eqv d e)) H
section
variable {X : Cx}
theorem op_eqD (hu : X.A.units + 64 < cLine) : OpR X (compareOp .Eq) (rEqD X.K) := by
  intro pins s σ H x y v u Q I rx ry h
  obtain ⟨d, e, hd, he, sd, se, q⟩ := h
  obtain ⟨as, ra⟩ := reads_of I d x v hd rx
  obtain ⟨bs, rb⟩ := reads_of I e y u he ry
  exact eq_dataH ra rb sd se hu ⟨.bl _, H, I, rfl, q⟩
theorem op_neD (hu : X.A.units + 64 < cLine) : OpR X (compareOp .NotEq) (rNeD X.K) := by
  intro pins s σ H x y v u Q I rx ry h
  obtain ⟨d, e, hd, he, sd, se, q⟩ := h
  obtain ⟨as, ra⟩ := reads_of I d x v hd rx
  obtain ⟨bs, rb⟩ := reads_of I e y u he ry
  exact ne_dataH ra rb sd se hu ⟨.bl _, H, I, rfl, q⟩

/-! ### texts -/
theorem op_le_str : OpR X (compareOp .LtE) (fun x y H Q => ∃ i j, x = .str i ∧ y = .str j ∧ Q (.bl (!decide (j.cps.toList < i.cps.toList))) H) := by
  intro pins s σ H x y v u Q I rx ry h
  obtain ⟨i, j, rfl, rfl, q⟩ := h
  obtain ⟨t, rfl⟩ := rx
  obtain ⟨t', rfl⟩ := ry
  exact PySem.P.le_str (fin_bl I q rfl)
/-- a text n times, 2 ≤ n ≤ 1000, not empty -/
def repS (z : Str) (n : Nat) : Str := ⟨(List.replicate n z.cps).foldl (· ++ ·) #[]⟩
theorem op_mul_str : OpR X (binaryOp .Mult) (fun x y H Q => ∃ (z : Str) (n : Nat), x = .str z ∧ y = .int n ∧ 2 ≤ n ∧ n ≤ 1000 ∧ z.length ≠ 0 ∧ z.length ≤ 1000 ∧ (repS z n).length ≤ sizeLine ∧ Q (.str (repS z n)) H) := by
  intro pins s σ H x y v u Q I rx ry h
  obtain ⟨z, n, rfl, rfl, h2, hn, h0, hz, hl, q⟩ := h
  obtain ⟨t, rfl⟩ := rx
  obtain ⟨t', rfl⟩ := ry
  refine PySem.P.mul_str (by simp only [Bool.or_eq_false_iff, decide_eq_false_iff_not]; omega) (fun _ _ => ?_) (fun _ _ => ?_) ?_
  · have h3 : (z.length : Int) * (n : Int) ≤ 1000 * 1000 := Int.mul_le_mul (by omega) (by omega) (by omega) (by omega)
    have h4 : (z.length : Int) ≤ (2 ^ 63 - 1) / (n : Int) := Int.le_ediv_of_mul_le (by omega) (by omega)
    omega
  · have h4 : z.length * ((n : Int)).toNat ≤ 1000 * 1000 := by
      rw [Int.toNat_natCast]
      exact Nat.mul_le_mul hz hn
    unfold Builtin.Str.tooLong
    simp only [decide_eq_false_iff_not, gt_iff_lt, Nat.not_lt]
    exact Nat.le_trans h4 (by decide)
  · rw [if_neg (by omega), if_neg (by simp only [Bool.or_eq_true, beq_iff_eq]; omega)]
    refine ⟨?_, .str (repS z n), H, I.tok _, ⟨s.toks, ?_⟩, q⟩
    · rw [Int.toNat_natCast]; exact hl
    · rw [Int.toNat_natCast]; rfl
/-- t[lo:hi] of a text -/
theorem sl_str : SlR X (fun x lo hi H Q => ∃ z, x = .str z ∧ z.length ≤ sizeLine ∧ Q (.str (Txt.slice z lo hi)) H) := by
  intro pins s σ H x v vl vu lo hi sl Q I rx hs pl pu h
  obtain ⟨z, rfl, hz, q⟩ := h
  obtain ⟨t, rfl⟩ := rx
  have fin : ∀ (l u : Option (Int × Tok)), l.map (·.1) = lo → u.map (·.1) = hi → s.heap.IsSlice sl l u none → wpAny (model X.prog X.w) X.A (getItem (.str z t) (.ref sl)) (EP X pins σ Q) X.xe s := fun l u el eu hsl => by
    refine wpAny_getItem_str_slice (l := l) (u := u) (st := none) hsl rfl ?_
    refine post_val_or_str ⟨Nat.le_trans (Txt.slice_le z _ _) hz, fun t' k => ⟨.str (Txt.slice z lo hi), H, I.tok _, ⟨t', ?_⟩, q⟩⟩
    rw [← el, ← eu]
    rfl
  refine ⟨"str", _, F.slot_str_getitem.lookup, typeIs_str _ _ _, ?_⟩
  cases pl with
  | none =>
    cases pu with
    | none => exact fin none none rfl rfl hs
    | int j uj => exact fin none (some (j, uj)) rfl rfl hs
  | int i ui =>
    cases pu with
    | none => exact fin (some (i, ui)) none rfl rfl hs
    | int j uj => exact fin (some (i, ui)) (some (j, uj)) rfl rfl hs

/-! ### all, sum, min of a list -/
theorem iter_plain {prog : Program} {w : World} {A : Around} {E : Value → Shared → Prop} {s : Shared} {l : Addr} {items : Array Value} {Q : Value → Shared → Prop} (hl : s.heap.IsList l items)
    (h : ∀ s₂ : Shared, s₂ = { s with heap := s.heap.push { cls := .type "list_iterator", data := .fields #[.ref l, .int 0 0] } } →
      (s₂.heap.IsListIter s.heap.objs.size l 0 ∧ s₂.heap.IsList l items) → (∀ b ∈ [s.heap.objs.size, l], b < s₂.heap.objs.size) → l ≠ s.heap.objs.size → Q (.ref s.heap.objs.size) s₂) :
    wpAny (model prog w) A (pyIter (.ref l)) Q E s := by
  have hlt : l < s.heap.objs.size := by obtain ⟨_, e, _⟩ := hl; exact Heap.lt_size e
  refine wpAny_pyIter_list hl (h _ rfl ⟨⟨_, Heap.get?_push_size _ rfl, rfl, rfl⟩, hl.push _⟩ (fun b hb => ?_) (Nat.ne_of_lt hlt))
  show b < (s.heap.push _).objs.size
  rw [Heap.size_push]
  rcases List.mem_cons.mp hb with rfl | hb
  · exact Nat.lt_succ_self _
  · rcases List.mem_cons.mp hb with rfl | hb
    · exact Nat.lt_succ_of_lt hlt
    · cases hb
theorem all_range (bs : List Bool) : (List.range bs.length).all (fun i => bs.getD i true) = bs.all id := by
  induction bs with
  | nil => rfl
  | cons b r ih =>
    rw [List.length_cons, List.range_succ_eq_map, List.all_cons, List.all_map, List.all_cons]
    rw [← ih]
    rfl
theorem call_all_l (hc : X.calm = true) : CallR X (.builtin "all") (fun xs H Q => ∃ (p : Addr) (bs : List Bool), xs = [.ref p] ∧ SqL X.K H p (bs.map V.bl) ∧ Q (.bl (bs.all id)) H) := by
  intro pins s σ H xs us Q I r h
  obtain ⟨p, bs, rfl, hq, q⟩ := h
  obtain ⟨u, rfl, rx⟩ := vals1 r
  cases rx
  obtain ⟨its, rv, pl, _⟩ := I.list hq
  have hl := rv.length
  rw [List.length_map] at hl
  refine call_all_walk (iter_plain pl.isList fun s₂ e st hfp hlI => ?_)
  subst e
  refine ⟨_, _, _, _, _, _, fun i => bs.getD i true, rfl, Walks.list (A := X.A.in1) (I.ok.hd hc) _ p hlI its.toArray, st, ?_, fun h' tk hk => ?_⟩
  · intro i v s' Q' E' hv hQ'
    have hv' : its[i]? = some v := by simpa using hv
    have hi : i < bs.length := by
      have := (List.getElem?_eq_some_iff.mp hv').1
      omega
    obtain ⟨u', hu', ru⟩ := rv.get (i := i) (x := .bl bs[i]) (by rw [List.getElem?_map, List.getElem?_eq_getElem hi]; rfl)
    rw [hv'] at hu'
    cases hu'
    cases ru
    have e1 : bs.getD i true = bs[i] := by rw [List.getD_eq_getElem?_getD, List.getElem?_eq_getElem hi]; rfl
    have hQ'' : Q' bs[i] s' := by rw [← e1]; exact hQ'
    exact wpAny_truthy_bool hQ''
  · have hk' := old_kept (s := s) (l := p) (h' := h') hk
    refine ⟨.bl (bs.all id), H, I.kept (t' := tk) hk', ?_, q⟩
    have e2 : its.toArray.size = bs.length := by rw [List.size_toArray]; omega
    rw [e2, all_range]
    rfl
theorem items_of {ns : List Int} {its : List Value} (rv : Vals (ns.map V.int) its) : ∃ xs : Array (Int × Tok), its.toArray = intItems xs ∧ ns = xs.toList.map (·.1) := by
  have hi : IntsAre its ns := intsAre_of rv
  obtain ⟨xs, e⟩ := (show IntsAre its.toArray.toList ns from hi).allInts.items
  refine ⟨xs, e, ?_⟩
  have := hi.numsOf
  rw [← this, ← nums_intItems, ← e]
theorem call_sum_l (hc : X.calm = true) : CallR X (.builtin "sum") (fun xs H Q => ∃ (p : Addr) (ns : List Int), xs = [.ref p] ∧ SqL X.K H p (ns.map V.int) ∧ Q (.int ns.sum) H) := by
  intro pins s σ H xs us Q I r h
  obtain ⟨p, ns, rfl, hq, q⟩ := h
  obtain ⟨u, rfl, rx⟩ := vals1 r
  cases rx
  obtain ⟨its, rv, pl, _⟩ := I.list hq
  obtain ⟨xs, e, hns⟩ := items_of rv
  have hl := pl.isList
  rw [e] at hl
  refine sum_intListG (I.ok.hd hc) hl fun h' tk t' hk => ⟨.int ns.sum, H, I.kept hk, ⟨t', ?_⟩, q⟩
  rw [preSum_eq, List.take_of_length_le (by simp), hns]
theorem call_min_l (hc : X.calm = true) : CallR X (.builtin "min") (fun xs H Q => ∃ (p : Addr) (ns : List Int), xs = [.ref p] ∧ SqL X.K H p (ns.map V.int) ∧ 0 < ns.length ∧ ∀ M, M ∈ ns → (∀ a, a ∈ ns → M ≤ a) → Q (.int M) H) := by
  intro pins s σ H xs us Q I r h
  obtain ⟨p, ns, rfl, hq, hne, q⟩ := h
  obtain ⟨u, rfl, rx⟩ := vals1 r
  cases rx
  obtain ⟨its, rv, pl, _⟩ := I.list hq
  obtain ⟨xs, e, hns⟩ := items_of rv
  have hl := pl.isList
  rw [e] at hl
  have hsz : 0 < xs.size := by
    have h3 := hne; rw [hns, List.length_map, Array.length_toList] at h3; exact h3
  refine min_intList (I.ok.hd hc) hl hsz fun v h' tk hv hk => ?_
  obtain ⟨t, rfl⟩ := intItems_at hv
  obtain ⟨h1, h2⟩ := argBest_lt (numAt xs) (xs.size - 1)
  refine ⟨.int _, H, I.kept hk, ⟨t, rfl⟩, q _ ?_ fun a ha => ?_⟩
  · rw [hns, numAt_eq]; exact getD_mem (by rw [List.length_map, Array.length_toList]; omega)
  · rw [hns] at ha
    obtain ⟨j, hj, rfl⟩ := mem_getD ha
    rw [List.length_map, Array.length_toList] at hj
    rw [← numAt_eq]; exact h2 j (by omega)

/-! ### xs.index(x), xs.count(x) of flat items -/
theorem eqU_at {x : V} {A : Around} {s : Shared} {v : Value} (rx : RelV x v) (fx : flatV x = true) {xs : List V} {us : List Value} (rv : Vals xs us) (f : xs.all flatV = true) : ∀ y, y ∈ us.toArray → SeqAt.EqAt A s y v (eqU x y) := fun y hy =>
  mem_eqAt rx fx rv f y (by simpa using hy)
def rIndex (K : PySem.W.Frag) : V → List V → Hp → VK → Prop := fun x vs H Q => ∃ p xs y j, x = .ref p ∧ vs = [y] ∧ SqL K H p xs ∧ flatV y = true ∧ xs.all flatV = true ∧
  j < xs.length ∧ (∃ z, xs[j]? = some z ∧ eqV z y = true) ∧ (∀ m z, m < j → xs[m]? = some z → eqV z y = false) ∧ Q (.int (j : Nat)) H
theorem mt_index : MtR X "list.index" (rIndex X.K) := by
  intro pins s σ H x xs v us Q I rx rvs h
  obtain ⟨p, ys, y, j, rfl, rfl, hq, fy, fs, hj, ⟨z, hz, ez⟩, hno, q⟩ := h
  cases rx
  obtain ⟨u, rfl, ru⟩ := vals1 rvs
  obtain ⟨its, rv, pl, hsz⟩ := I.list hq
  have hlen := rv.length
  obtain ⟨⟨cls, dd, data, sl⟩, ho, hc, n, hd⟩ := id pl.isList
  simp only at hc hd
  subst hc hd
  have hj' : j < its.toArray.size := by rw [List.size_toArray]; omega
  have at_ : ∀ (m : Nat) (hm : m < its.toArray.size) (z : V), ys[m]? = some z → eqU y its.toArray[m] = eqV z y := fun m hm z hz => by
    obtain ⟨u', hu', ru'⟩ := rv.get hz
    have e1 : its.toArray[m] = u' := by
      have : its[m]? = some its.toArray[m] := by simp
      rw [this] at hu'; exact Option.some.inj hu'
    rw [e1]
    have fz : flatV z = true := by
      have := List.all_eq_true.mp fs z (List.mem_of_getElem? hz)
      exact this
    exact eqU_of ru' fz
  refine call_meets F.slot_list_index ⟨_, ho, rfl⟩ F.entry_list_index (F.args_list_index_2 _ _) (SeqAt.list_indexAt p its.toArray n dd sl u (eqU y) j hj' (by have := line63; omega) (by rw [at_ j hj' z hz]; exact ez) (fun m hm hmj => ?_))
    ⟨ho, eqU_at ru fy rv fs, .int (j : Nat), H, I.tok _, ⟨s.toks, rfl⟩, q⟩
  have hm' : m < ys.length := by rw [List.size_toArray] at hm; omega
  rw [at_ m hm ys[m] (List.getElem?_eq_getElem hm')]
  exact hno m _ hmj (List.getElem?_eq_getElem hm')

/-! ### isinstance -/
/-! ### for c in text -/
def Its (z : Str) : It := ⟨fun i _ => i < z.cps.size, fun i H x H' => H' = H ∧ ∃ c, z.cps[i]? = some c ∧ x = .str ⟨#[c]⟩, fun i _ => z.cps.size ≤ i⟩
theorem turn_str {P : Program} {w : World} {K : PySem.W.Frag} {tg : Expr} (it : Addr) (z : Str) (t : Tok) (ty : String) (hty : ty = "str_ascii_iterator" ∨ ty = "str_iterator") : Turn P w K tg (Its z) [it] it (fun i h => h.IsStrIter it ty z t i ∧ i ≤ z.cps.size) where
  mem := by simp
  obj := fun i h st b hb => by
    have e : b = it := by simpa using hb
    subst e
    obtain ⟨⟨o, e, c, d⟩, _⟩ := st
    exact ⟨o, e, fun v q => by rw [d] at q; cases q⟩
  keep := fun i h h' st k => by
    obtain ⟨⟨o, e, c, d⟩, hi⟩ := st
    exact ⟨⟨o, k it (by simp) o e, c, d⟩, hi⟩
  item := by
    intro X hP hw hK hc i pins s σ H E I hf st hg
    subst hP hw hK
    obtain ⟨f0, f1, f2, f3, f4, f5⟩ := hf it (by simp)
    have W : Walks X.prog X.w X.A it [it] [it] z.cps.size (SignAt z) (fun i h => h.IsStrIter it ty z t i) := by
      rcases hty with rfl | rfl
      · exact Walks.strAscii (I.ok.hd hc) it z t
      · exact Walks.strWide (I.ok.hd hc) it z t
    refine W.item i s _ _ hg st.1 fun v h' tk hv st' kk => ?_
    obtain ⟨c, u, hc', rfl⟩ := hv
    have I1 : Inv X pins σ H { s with heap := h', toks := tk } := I.turned (fun b o hb e => kk b o (by simpa using hb) e) f0 f1 f3 f4 f5
    obtain ⟨o, e, cc, d⟩ := id st'
    have hn : ["enumerate", "zip", "dict_itemiterator", "dict_reverseitemiterator", "odict_iterator", "itertools.zip_longest", "itertools.pairwise"].contains ty = false := by rcases hty with rfl | rfl <;> decide
    exact ⟨_, rfl, go_of (s := { s with heap := h', toks := tk }) (n := ty) e cc d hn ⟨.str ⟨#[c]⟩, H, I1, ⟨u, rfl⟩, ⟨rfl, c, hc', rfl⟩, ⟨st', hg⟩, fun b hb => (hf b hb).1⟩⟩
  done := by
    intro X hP hw hK hc i pins s σ H E I hf st hg
    subst hP hw hK
    obtain ⟨f0, f1, f2, f3, f4, f5⟩ := hf it (by simp)
    have hi : i = z.cps.size := Nat.le_antisymm st.2 hg
    subst hi
    have W : Walks X.prog X.w X.A it [it] [it] z.cps.size (SignAt z) (fun i h => h.IsStrIter it ty z t i) := by
      rcases hty with rfl | rfl
      · exact Walks.strAscii (I.ok.hd hc) it z t
      · exact Walks.strWide (I.ok.hd hc) it z t
    exact W.done s _ _ st.1 fun h' tk kk => ⟨rfl, I.turned (fun b o hb e => kk b o (by simpa using hb) e) f0 f1 f3 f4 f5⟩
  self := fun _ _ _ _ _ st h => by
    rcases hty with rfl | rfl
    · exact wpAny_pyIter_striter_ascii st.1 h
    · exact wpAny_pyIter_striter_wide st.1 h
def iStr (tl : TE) : TI := fun σ H R => tl σ H fun x H1 => ∃ z, x = .str z ∧ R (Its z) H1
theorem pi_str {tg l : Expr} {tl : TE} (hl : PE X l tl) : PI X tg l (iStr tl) := by
  intro pins s σ H R I h
  refine thn (hl pins s σ H _ I h) fun v s1 ⟨x, H1, I1, r1, q1⟩ => ?_
  obtain ⟨z, rfl, q⟩ := q1
  obtain ⟨t, rfl⟩ := r1
  have key : ∀ ty, (ty = "str_ascii_iterator" ∨ ty = "str_iterator") → PIE X pins σ tg R (.ref s1.heap.objs.size) { s1 with heap := s1.heap.push { cls := .type ty, data := .fields #[.str z t, .int 0 0] } } := fun ty hty => by
    have I2 : Inv X pins σ H1 { s1 with heap := s1.heap.push { cls := .type ty, data := .fields #[.str z t, .int 0 0] } } := I1.kept (t' := s1.toks) fun b o e => Heap.get?_push_of_some _ e
    refine ⟨s1.heap.objs.size, [s1.heap.objs.size], _, Its z, H1, rfl, I2, turn_str s1.heap.objs.size z t ty hty, ⟨⟨_, Heap.get?_push_size _ rfl, rfl, rfl⟩, Nat.zero_le _⟩, fun b hb => ?_, q⟩
    have e : b = s1.heap.objs.size := by simpa using hb
    subst e
    exact I1.fpOk (Nat.le_refl _) (I1.hok.fresh (Nat.le_refl _))
  cases ha : z.cps.all (· < 128)
  · exact wpAny_pyIter_wide ha (key _ (.inr rfl))
  · exact wpAny_pyIter_ascii ha (key _ (.inl rfl))

/-! ### for k in range(a, b, -1) -/
/-- hi, hi - 1, .. (n of them) -/
def Itd (hi : Int) (n : Nat) : It := ⟨fun i _ => i < n, fun i H x H' => H' = H ∧ x = .int (hi - i), fun i _ => n ≤ i⟩
theorem turn_down {P : Program} {w : World} {K : PySem.W.Frag} {tg : Expr} (it : Addr) (hi : Int) (n : Nat) : Turn P w K tg (Itd hi n) [it] it (fun i h => IsRangeIter h it (hi + (i : Nat) * (-1)) ((n : Int) - (i : Nat)) (-1)) where
  mem := by simp
  obj := fun i h st b hb => by
    have e : b = it := by simpa using hb
    subst e
    exact ⟨_, st, fun v z => by
      have z' : Data.fields _ = Data.cell v := z
      cases z'⟩
  keep := fun i h h' st k => k it (by simp) _ st
  item := by
    intro X hP hw hK hc i pins s σ H E I hf st hg
    subst hP hw hK
    obtain ⟨f0, f1, f2, f3, f4, f5⟩ := hf it (by simp)
    have W := Walks.range (prog := X.prog) (w := X.w) (I.ok.hd hc) it hi (-1) n
    refine W.item i s _ _ hg st fun v h' tk hv st' kk => ?_
    obtain ⟨t, rfl⟩ := hv
    have I1 : Inv X pins σ H { s with heap := h', toks := tk } := I.turned (fun b o hb e => kk b o (by simpa using hb) e) f0 f1 f3 f4 f5
    refine ⟨_, rfl, go_of (s := { s with heap := h', toks := tk }) (n := "range_iterator") st' rfl rfl (by decide) ⟨.int (hi - i), H, I1, ⟨t, ?_⟩, ⟨rfl, rfl⟩, st', fun b hb => (hf b hb).1⟩⟩
    rw [Int.mul_neg, Int.mul_one]; rfl
  done := by
    intro X hP hw hK hc i pins s σ H E I hf st hg
    subst hP hw hK
    obtain ⟨f0, f1, f2, f3, f4, f5⟩ := hf it (by simp)
    exact wpAny_pyNext_range_end (I.ok.hd hc) st (by have : n ≤ i := hg; omega) fun h' eb => ⟨rfl, I.turned (t' := s.toks) (fun b o hb e => eb b o hb e) f0 f1 f3 f4 f5⟩
  self := fun _ _ _ _ _ st h => wpAny_pyIter_rangeiter st h
theorem small_down {a b : Int} (ha : -(2 ^ 61) ≤ a) (ha' : a < 2 ^ 61) (hb : -(2 ^ 61) ≤ b) (hb' : b < 2 ^ 61) : Builtin.Range.small a b (-1) = true ∧ Builtin.Range.rangeSize a b (-1) = ((a - b).toNat : Int) := by
  have e : Builtin.Range.rangeSize a b (-1) = ((a - b).toNat : Int) := by
    unfold Builtin.Range.rangeSize
    rw [if_neg (by decide)]
    split
    · rw [show (-(-1 : Int)) = 1 from rfl, Int.ediv_one]; omega
    · omega
  refine ⟨?_, e⟩
  unfold Builtin.Range.small
  rw [e]
  simp only [Builtin.Range.rangeFitsLong, Bool.and_eq_true, Bool.or_eq_true, decide_eq_true_eq, beq_iff_eq, show ¬ (-1 : Int) > 0 by decide, if_false]
  omega
def iRngD (ta : TA) : TI := fun σ H R => ta σ H fun vs H1 => ∃ i j : Int, vs = [.int i, .int j, .int (-1)] ∧ (-(2 ^ 61) ≤ i ∧ i < 2 ^ 61 ∧ -(2 ^ 61) ≤ j ∧ j < 2 ^ 61) ∧ R (Itd i (i - j).toNat) H1
theorem pi_rangeD {tg a b c : Expr} {ta : TA} {p pos : Pos} (hg : Gl X "range") (hm : X.mg "range" = none) (ha : PA X [a, b, c] ta) (hs : starEach [a, b, c] X.env = [(false, eval a X.env), (false, eval b X.env), (false, eval c X.env)] := by rfl)
    (hs2 : starEach [b, c] X.env = [(false, eval b X.env), (false, eval c X.env)] := by rfl) : PI X tg (.Call (.Name "range" p) [a, b, c] [] pos) (iRngD ta) := by
  intro pins s σ H R I h
  refine Call_ (ld_blt I hg hm boot_range (PyProof.Rows.callWith_type1 (thn (ha pos pins s σ H _ I h) fun us s1 ⟨vs, H1, I1, r1, q1⟩ => ?_) (by rw [hs, hs2]) (by rw [hs2]; rfl)))
  obtain ⟨i, j, e, ⟨q1, q2, q3, q4⟩, q⟩ := q1
  subst e
  cases r1 with
  | cons r rr =>
    cases rr with
    | cons r' rr =>
      cases rr with
      | cons r'' rr =>
        cases rr
        obtain ⟨t, rfl⟩ := r
        obtain ⟨t', rfl⟩ := r'
        obtain ⟨t'', rfl⟩ := r''
        obtain ⟨hsm, hsize⟩ := small_down q1 q2 q3 q4
        refine call_range_3 (by decide) ?_ (Or.inl (PyProof.noPylong_small (by omega)))
        refine wpAny_pyIter_range (IsRange.new ..) hsm ?_
        have I2 : Inv X pins σ H1 { s1 with heap := s1.heap.push { cls := .type "range", data := .fields #[.int i t, .int j t', .int (-1) t''] }, toks := s1.toks } := I1.kept fun b o e => Heap.get?_push_of_some _ e
        refine ⟨(s1.heap.push { cls := .type "range", data := .fields #[.int i t, .int j t', .int (-1) t''] }).objs.size, [(s1.heap.push { cls := .type "range", data := .fields #[.int i t, .int j t', .int (-1) t''] }).objs.size], _, _, H1, rfl,
          I2.kept (t' := s1.toks) fun b o e => Heap.get?_push_of_some _ e, turn_down _ i (i - j).toNat, ?_, fun b hb => ?_, q⟩
        · have e1 : i + ((0 : Nat) : Int) * (-1) = i := by simp
          have e2 : (((i - j).toNat : Nat) : Int) - ((0 : Nat) : Int) = Builtin.Range.rangeSize i j (-1) := by rw [hsize]; simp
          show IsRangeIter _ _ (i + ((0 : Nat) : Int) * (-1)) ((((i - j).toNat : Nat) : Int) - ((0 : Nat) : Int)) (-1)
          rw [e1, e2]
          exact Heap.get?_push_size _ rfl
        · have e : b = (s1.heap.push { cls := .type "range", data := .fields #[.int i t, .int j t', .int (-1) t''] }).objs.size := by simpa using hb
          subst e
          exact I2.fpOk (Nat.le_refl _) (I2.hok.fresh (Nat.le_refl _))
end
end L2

set_option Elab.async false
set_option linter.all false
set_option maxRecDepth 100000
namespace PySem
open Sem (wp)
namespace F
end F
section
variable {prog : Program} {w : World} {A : Around} {s : Shared} {R : Result → Shared → Prop}
variable {I : Addr} {fp wr : List Addr} {G : Array GenState → Array GenState → Prop} {n : Nat} {P : Nat → Value → Prop} {St : Nat → Shared → Prop}
end
section
variable {prog : Program} {w : World} {A : Around} {E : Value → Shared → Prop} {s : Shared}
variable {I : Addr} {fp wr : List Addr} {G : Array GenState → Array GenState → Prop} {n : Nat} {P : Nat → Value → Prop} {St : Nat → Shared → Prop}
end
end PySem
namespace L2
open PySem PySem.Spec PyProof.Rows
section
variable {X : Cx} {pins : List (Addr × Obj)} {σ : St} {H H' : Hp} {s s' : Shared}
end
section
variable {X : Cx}
end

/-! ### for (x, y) in zip(a, b) -/
def Itz (K : PySem.W.Frag) (a b : Addr) : It :=
  ⟨fun i H => ∃ xs ys x y, SqL K H a xs ∧ SqL K H b ys ∧ xs[i]? = some x ∧ ys[i]? = some y,
   fun i H v H' => ∃ T x y, H T = none ∧ v = .ref T ∧ H' = upd H T (.tup [x, y]) ∧ (∀ xs, SqL K H a xs → xs[i]? = some x) ∧ ∀ ys, SqL K H b ys → ys[i]? = some y,
   fun i H => ∃ xs ys, SqL K H a xs ∧ SqL K H b ys ∧ (xs.length ≤ i ∨ ys.length ≤ i)⟩
section
variable {X : Cx}
def iZip (K : PySem.W.Frag) (ta : TA) : TI := fun σ H R => ta σ H fun vs H1 => ∃ a b, vs = [.ref a, .ref b] ∧ (∃ xs, SqL K H1 a xs) ∧ (∃ ys, SqL K H1 b ys) ∧ R (Itz K a b) H1
end
end L2

set_option linter.all false
namespace L2
open PySem
/-! ### what the law draws: keys -/
def mixI (c k : Int) : Int :=
  let s1 := (c * 48271 + 104729 * k + 11) % 2147483647
  let s2 := (s1 * s1 + 7919 * k + 5) % 2147483629
  s2 * s2 % 2147483587
/-- 1 to 8 letters from a to z -/
def wordOk (x : Str) : Bool := decide (1 ≤ x.length) && decide (x.length ≤ 8) && x.cps.toList.all (fun c => decide (97 ≤ c ∧ c ≤ 122))
def strLt (x y : Str) : Bool := decide (x.cps.toList < y.cps.toList)
/-- keys by the document's second point -/
structure Keys (ks : List Str) : Prop where
  many : ks.length ≤ 12
  words : ∀ x ∈ ks, wordOk x = true
  rise : ∀ (k : Nat) x y, ks[k]? = some x → ks[k + 1]? = some y → strLt x y = true
theorem wordOk_strOk {x : Str} (h : wordOk x = true) : PyData.strOk x = true := by
  unfold wordOk at h
  rw [Bool.and_eq_true, Bool.and_eq_true] at h
  unfold PyData.strOk
  rw [Array.all_eq_true']
  intro c hc
  have := List.all_eq_true.mp h.2 c (by simpa using hc)
  have := of_decide_eq_true this
  simp only [decide_eq_true_eq]
  omega
theorem wordOk_len {x : Str} (h : wordOk x = true) : 1 ≤ x.length ∧ x.length ≤ 8 := by
  unfold wordOk at h
  rw [Bool.and_eq_true, Bool.and_eq_true] at h
  exact ⟨of_decide_eq_true h.1.1, of_decide_eq_true h.1.2⟩
theorem natlist_trans {a b c : List Nat} (h1 : a < b) (h2 : b < c) : a < c := List.lt_trans h1 h2
/-- rising keys: any two -/
theorem Keys.lt {ks : List Str} (h : Keys ks) : ∀ (j i : Nat) x y, i < j → ks[i]? = some x → ks[j]? = some y → strLt x y = true
  | 0, i, x, y, hij, _, _ => absurd hij (Nat.not_lt_zero _)
  | j + 1, i, x, y, hij, hx, hy => by
    rcases Nat.lt_or_eq_of_le (Nat.le_of_lt_succ hij) with hlt | rfl
    · have hj : j < ks.length := by have := (List.getElem?_eq_some_iff.mp hy).1; omega
      have hz : ks[j]? = some ks[j] := List.getElem?_eq_getElem hj
      have h1 := h.lt j i x ks[j] hlt hx hz
      have h2 := h.rise j ks[j] y hz hy
      exact decide_eq_true (natlist_trans (of_decide_eq_true h1) (of_decide_eq_true h2))
    · exact h.rise i x y hx hy
theorem strLt_irrefl (x : Str) : strLt x x = false := by
  unfold strLt
  exact decide_eq_false (List.lt_irrefl _)
theorem Keys.inj {ks : List Str} (h : Keys ks) {i j : Nat} {x : Str} (hi : ks[i]? = some x) (hj : ks[j]? = some x) : i = j := by
  rcases Nat.lt_trichotomy i j with hl | he | hl
  · have := h.lt j i x x hl hi hj; rw [strLt_irrefl] at this; cases this
  · exact he
  · have := h.lt i j x x hl hj hi; rw [strLt_irrefl] at this; cases this
end L2

set_option linter.all false
namespace L2
open PySem
/-! ### trees of words -/
inductive Tr where
  | nil
  | node (k : Str) (l r : Tr)
  deriving DecidableEq
namespace Tr
def depth : Tr → Nat
  | nil => 0
  | node _ l r => max l.depth r.depth + 1
def size : Tr → Nat
  | nil => 0
  | node _ l r => l.size + 1 + r.size
def row : Tr → List Str
  | nil => []
  | node k l r => l.row ++ [k] ++ r.row
theorem row_length : ∀ t : Tr, t.row.length = t.size
  | nil => rfl
  | node k l r => by simp only [row, size, List.length_append, List.length_singleton, row_length l, row_length r]
theorem depth_le : ∀ t : Tr, t.depth ≤ t.size
  | nil => Nat.le_refl _
  | node k l r => by have := depth_le l; have := depth_le r; simp only [depth, size]; omega
end Tr

/-- the law's own place of a root -/
def placeI (c : Int) (f l : Nat) : Nat :=
  if c % 5 = 2 then l - 1 else if c % 5 = 1 then f else f + (mixI c (13 * (f : Int) + (l : Int)) / 7 % ((l : Int) - (f : Int))).toNat
/-- the law's drawn tree -/
def mkT (ks : List Str) (c : Int) : Nat → Nat → Nat → Tr
  | 0, _, _ => .nil
  | n + 1, f, l => if f = l then .nil else .node (ks.getD (placeI c f l) ⟨#[]⟩) (mkT ks c n f (placeI c f l)) (mkT ks c n (placeI c f l + 1) l)
/-- the drawn tree of all keys -/
abbrev drawn (ks : List Str) (c : Int) : Tr := mkT ks c ks.length 0 ks.length
end L2

set_option Elab.async false
set_option linter.all false
set_option maxRecDepth 100000
namespace L2
open PySem PySem.Spec PyProof.Rows

/-! ### heaps: what was tracked is as it was -/
theorem Same.new {H H' : Hp} {p : Addr} {o : HO} (s : Same H H') (h : H p = none) : Same H (upd H' p o) := fun b u q => by rw [upd_ne (ne_of_none q h)]; exact s b u q
theorem same_new {H : Hp} {p : Addr} (h : H p = none) (o : HO) : Same H (upd H p o) := Same.new (fun _ _ q => q) h
theorem Same.none {H H' : Hp} (s : Same H H') {p : Addr} (h : H' p = Option.none) : H p = Option.none := by
  cases q : H p with
  | none => rfl
  | some o => rw [s p o q] at h; cases h
theorem Same.rfl' {H : Hp} : Same H H := fun _ _ q => q
/-- another object stays where one is written -/
theorem upd_keep {H : Hp} {a b : Addr} {o u : HO} (h : H a = some u) (n : H b = none) : upd H b o a = some u := by rw [upd_ne (ne_of_none h n)]; exact h

/-! ### a def by its name -/
def Has (P : Program) (w : World) (K : PySem.W.Frag) (mg : Str → Option Value) (base : Heap) (x : Str) (ps : List Str) (k : Nat) (sp : Sp) : Prop :=
  ∃ f fd, FnOk P w K mg base CX0 k f fd ps sp ∧ Binds K fd ps [] ∧ PySem.W.keepIn K (.ref f) = true ∧ mg x = some (.ref f)
def DefAt (K : PySem.W.Frag) (mg : Str → Option Value) (x : Str) (st : Stmt) (ps : List Str) : Prop := ∃ f fd, Fun K x x st f fd ∧ Binds K fd ps [] ∧ mg x = some (.ref f)
theorem Has.mono {P : Program} {w : World} {K : PySem.W.Frag} {mg : Str → Option Value} {base : Heap} {x : Str} {ps : List Str} {j k : Nat} {sp : Sp} (h : Has P w K mg base x ps j sp) (hk : j ≤ k) : Has P w K mg base x ps k sp :=
  let ⟨f, fd, F, b, kp, m⟩ := h; ⟨f, fd, F.mono hk, b, kp, m⟩
/-- the def keeps its promise, if its body does -/
theorem DefAt.has {P : Program} {w : World} {K : PySem.W.Frag} {mg : Str → Option Value} {base : Heap} {x : Str} {st : Stmt} {ps N : List Str} {k : Nat} {sp : Sp} (D : DefAt K mg x st ps) (S : FnScope N ps (defScope st)) (len : ∀ vs H Q E, sp vs H Q E → vs.length = ps.length)
    (hbody : ∀ (f : Addr) (cdv : Value) (A : Around) (outer : List Env) (s : Shared) (H : Hp) (vs : List V) (Q : VK) (E : XK), Room k (A.deeper (envOfC x (defScope st) s.heap.objs.size f cdv)) → sp vs H Q E →
      ∃ t, PSs (cxOf CX0 P w K mg base N x (defScope st) f cdv A outer s H E).nox (defBody st) t ∧ t { nx := fun _ H' => Q .non H', rt := Q } (start N vs) H) : Has P w K mg base x ps (k + 1) sp := by
  obtain ⟨f, fd, F, b, m⟩ := D
  exact ⟨f, fd, F.ok S len (hbody f), b, F.kp, m⟩
/-- no call may be asked -/
theorem DefAt.never {P : Program} {w : World} {K : PySem.W.Frag} {mg : Str → Option Value} {base : Heap} {x : Str} {st : Stmt} {ps : List Str} {k : Nat} {sp : Sp} (D : DefAt K mg x st ps) (no : ∀ vs H Q E, ¬ sp vs H Q E) : Has P w K mg base x ps k sp := by
  obtain ⟨f, fd, F, b, m⟩ := D
  exact ⟨f, fd, ⟨fun vs H Q E h => absurd h (no vs H Q E), fun A outer s H args us vs Q E _ _ _ _ h => absurd h (no vs H Q E)⟩, b, F.kp, m⟩
theorem pe_callH {X : Cx} {k k' : Nat} {ps : List Str} {sp : Sp} {x : Str} {p pos : Pos} {e : Expr} {es : List Expr} {t : TA} (h : Has X.prog X.w X.K X.mg X.base x ps k sp) (hr : Room k' X.A) (hg : Gl X x) (ha : PA X (e :: es) t) (hk : k ≤ k' := by omega)
    (hdb : (x == ("__debug__" : Str)) = false := by decide) (he : starEach (e :: es) X.env = (false, eval e X.env) :: starEach es X.env := by rfl) (hpl : (backTo pos (starEach es X.env)).any (·.1) = false := by rfl) :
    PE X (.Call (.Name x p) (e :: es) [] pos) (tCall sp [] E0 t) := by
  obtain ⟨f, fd, F, b, kp, m⟩ := h
  exact pe_call F (hr.mono hk) hg m kp b .nil pass0 ha hdb he hpl

/-! ### the same rules with the written part's own letter (a comprehension's block hides it) -/
section
variable {X : Cx} {K : PySem.W.Frag}
theorem ix_listK (hK : X.K = K := by rfl) : IxR X (rIxL K) := by subst hK; exact ix_list
theorem ix_tupK (hK : X.K = K := by rfl) : IxR X (rIxT K) := by subst hK; exact ix_tup
theorem sl_listK (hK : X.K = K := by rfl) : SlR X (rSlL K) := by subst hK; exact sl_list
theorem op_eqDK (hu : X.A.units + 64 < cLine) (hK : X.K = K := by rfl) : OpR X (compareOp .Eq) (rEqD K) := by subst hK; exact op_eqD hu
theorem op_neDK (hu : X.A.units + 64 < cLine) (hK : X.K = K := by rfl) : OpR X (compareOp .NotEq) (rNeD K) := by subst hK; exact op_neD hu
theorem op_notIn_seqK (hK : X.K = K := by rfl) : OpR X (compareOp .NotIn) (rIn K true) := by subst hK; exact op_notIn_seq
def rIsi (K : PySem.W.Frag) (T : String) : List V → Hp → VK → Prop := fun xs H Q => ∃ x t b, xs = [x, .ty T] ∧ TyOf K H x t ∧ PySem.W.kitOne K t (.type T) = some b ∧ Q (.bl b) H
def rLen (K : PySem.W.Frag) : List V → Hp → VK → Prop := fun xs H Q => ∃ p ys, xs = [.ref p] ∧ (SqL K H p ys ∨ SqT K H p ys) ∧ Q (.int ys.length) H
theorem call_lenK (hK : X.K = K := by rfl) : CallR X (.builtin "len") (rLen K) := by subst hK; exact call_len_seq
def rList (K : PySem.W.Frag) : List V → Hp → VK → Prop := fun xs H Q => ∃ p ys, xs = [.ref p] ∧ (SqL K H p ys ∨ SqT K H p ys) ∧ ∀ l, H l = none → Q (.ref l) (upd H l (.lst ys))
end
/-! ### comprehensions, by turns -/
theorem comp_gen {J : It} {g : TG} {tc : TT} {te : TE} {σ0 : St} {H1 : Hp} {Q : VK} (n : Nat)
    (h : ∀ l, H1 l = none → ∃ Pv : Nat → St → List V → Hp → Prop, Pv 0 σ0 [] (upd H1 l (.lst [])) ∧
      (∀ i σ acc H, i < n → Pv i σ acc H → J.go i H ∧ ∀ x H2, J.yld i H x H2 → g x σ H2 fun σ2 H3 => tc σ2 H3 fun b H4 => if b = true then
        te σ2 H4 fun v H5 => H5 l = some (.lst acc) ∧ acc.length < sizeLine ∧ Pv (i + 1) σ2 (acc ++ [v]) (upd H5 l (.lst (acc ++ [v]))) else Pv (i + 1) σ2 acc H4) ∧
      ∀ σ acc H, Pv n σ acc H → J.stop n H ∧ Q (.ref l) H) : tCompW J g tc te σ0 H1 Q := by
  intro l hl
  obtain ⟨Pv, h0, hs, hd⟩ := h l hl
  refine ⟨fun i m σ acc H => i ≤ n ∧ m = n - i ∧ Pv i σ acc H, ⟨n, Nat.zero_le _, rfl, h0⟩, fun i m σ acc H ⟨hi, hm, hp⟩ => ?_⟩
  rcases Nat.lt_or_eq_of_le hi with hlt | rfl
  · right
    obtain ⟨hg, hst⟩ := hs i σ acc H hlt hp
    exact ⟨hg, Pv (i + 1), fun σ2 acc2 H2 q => ⟨n - (i + 1), by omega, hlt, rfl, q⟩, hst⟩
  · left
    exact hd σ acc H hp
/-- each element is the function's value at its turn; what was tracked stays -/
theorem comp_fm {J : It} {tc : TT} {te : TE} {rest : St} {H1 : Hp} {Q : VK} (n : Nat) (hn : n ≤ 1000) (xs : Nat → V) (p : Nat → Bool) (f : Nat → V)
    (hgo : ∀ i H, i < n → Same H1 H → J.go i H) (hy : ∀ i H x H2, i < n → Same H1 H → J.yld i H x H2 → x = xs i ∧ H2 = H) (hstop : ∀ H, Same H1 H → J.stop n H)
    (htc : ∀ i H (R : Bool → Hp → Prop), i < n → Same H1 H → R (p i) H → tc (some (xs i) :: rest) H R)
    (hel : ∀ i H (R : VK), i < n → p i = true → Same H1 H → (∀ H', Same H H' → R (f i) H') → te (some (xs i) :: rest) H R)
    (hq : ∀ l H', H1 l = none → Same H1 H' → H' l = some (.lst (((List.range n).filter p).map f)) → Q (.ref l) H') :
    tCompW J (gName 0) tc te (none :: rest) H1 Q := by
  refine comp_gen n (fun l hl => ⟨fun i σ acc H => (∃ o, σ = o :: rest) ∧ acc = ((List.range i).filter p).map f ∧ H l = some (.lst acc) ∧ Same H1 H, ⟨⟨_, rfl⟩, rfl, upd_same, same_new hl _⟩, ?_, ?_⟩)
  · rintro i σ acc H hi ⟨⟨o, rfl⟩, rfl, hlH, hs⟩
    refine ⟨hgo i H hi hs, fun x H2 hyx => ?_⟩
    obtain ⟨rfl, rfl⟩ := hy i H x H2 hi hs hyx
    have hr : ((List.range (i + 1)).filter p).map f = ((List.range i).filter p).map f ++ (if p i = true then [f i] else []) := by
      rw [List.range_succ, List.filter_append, List.map_append]
      cases hp : p i <;> simp [hp]
    refine htc i H2 _ hi hs ?_
    cases hp : p i with
    | false =>
      rw [if_neg Bool.false_ne_true]
      refine ⟨⟨_, rfl⟩, ?_, hlH, hs⟩
      rw [hr, hp, if_neg Bool.false_ne_true, List.append_nil]
    | true =>
      rw [if_pos rfl]
      refine hel i H2 _ hi hp hs fun H' hs' => ?_
      have hz : (((List.range i).filter p).map f).length < sizeLine := by
        rw [List.length_map]
        have h1 : ((List.range i).filter p).length ≤ (List.range i).length := List.length_filter_le _ _
        rw [List.length_range] at h1
        exact small1000 (by omega)
      refine ⟨hs' _ _ hlH, hz, ⟨_, rfl⟩, ?_, upd_same, fun b u q => ?_⟩
      · rw [hr, hp, if_pos rfl]
      · rw [upd_ne (ne_of_none q hl)]; exact hs' _ _ (hs b u q)
  · rintro σ acc H ⟨⟨o, rfl⟩, rfl, hlH, hs⟩
    exact ⟨hstop H hs, hq l H hl hs hlH⟩
theorem range_map {α β : Type} (xs : List α) (d : α) (F : α → β) : (List.range xs.length).map (fun i => F (xs.getD i d)) = xs.map F := by
  apply List.ext_getElem?
  intro i
  rw [List.getElem?_map, List.getElem?_map]
  by_cases h : i < xs.length
  · rw [List.getElem?_range h, List.getElem?_eq_getElem h]
    simp [List.getD_eq_getElem?_getD, h]
  · rw [List.getElem?_eq_none (by simpa using h), List.getElem?_eq_none (by omega)]
    rfl
theorem filter_true {α : Type} (xs : List α) : xs.filter (fun _ => true) = xs := by simp
/-- over a list, every item -/
theorem comp_list {K : PySem.W.Frag} {a : Addr} {vs : List V} {te : TE} {rest : St} {H1 : Hp} {Q : VK} (F : V → V) (hn : vs.length ≤ 1000) (hl : SqL K H1 a vs)
    (hel : ∀ (i : Nat) v H (R : VK), vs[i]? = some v → Same H1 H → (∀ H', Same H H' → R (F v) H') → te (some v :: rest) H R)
    (hq : ∀ l H', H1 l = none → Same H1 H' → H' l = some (.lst (vs.map F)) → Q (.ref l) H') : tCompW (Itl K a) (gName 0) tAll te (none :: rest) H1 Q := by
  have at_ : ∀ i, i < vs.length → vs[i]? = some (vs.getD i .non) := fun i hi => by
    rw [List.getElem?_eq_getElem hi]; simp [List.getD_eq_getElem?_getD, hi]
  refine comp_fm vs.length hn (fun i => vs.getD i .non) (fun _ => true) (fun i => F (vs.getD i .non)) (fun i H hi hs => ⟨vs, _, hs.seq hl, at_ i hi⟩) (fun i H x H2 hi hs hy => ?_) (fun H hs => ⟨vs, hs.seq hl, Nat.le_refl _⟩)
    (fun i H R hi hs q => q) (fun i H R hi _ hs k => hel i _ H R (at_ i hi) hs k) (fun l H' h1 h2 h3 => hq l H' h1 h2 (by rw [h3, filter_true, range_map]))
  obtain ⟨rfl, h2⟩ := hy
  have := h2 vs (hs.seq hl)
  rw [at_ i hi] at this
  exact ⟨(Option.some.inj this).symm, rfl⟩
/-- over a range -/
theorem comp_range {lo : Int} {n : Nat} {te : TE} {rest : St} {H1 : Hp} {Q : VK} (F : Nat → V) (hn : n ≤ 1000)
    (hel : ∀ i H (R : VK), i < n → Same H1 H → (∀ H', Same H H' → R (F i) H') → te (some (.int (lo + (i : Nat))) :: rest) H R)
    (hq : ∀ l H', H1 l = none → Same H1 H' → H' l = some (.lst ((List.range n).map F)) → Q (.ref l) H') : tCompW (Itr lo n) (gName 0) tAll te (none :: rest) H1 Q :=
  comp_fm n hn (fun i => .int (lo + (i : Nat))) (fun _ => true) F (fun i H hi _ => hi) (fun i H x H2 hi hs hy => ⟨hy.2, hy.1⟩) (fun H _ => Nat.le_refl _)
    (fun i H R hi hs q => q) (fun i H R hi _ hs k => hel i H R hi hs k) (fun l H' h1 h2 h3 => hq l H' h1 h2 (by rw [h3, filter_true]))
/-- over a text's signs -/
theorem comp_str {z : Str} {te : TE} {rest : St} {H1 : Hp} {Q : VK} (F : Nat → V) (hn : z.cps.size ≤ 1000)
    (hel : ∀ i H (R : VK), i < z.cps.size → Same H1 H → (∀ H', Same H H' → R (F (z.cps.getD i 0)) H') → te (some (.str ⟨#[z.cps.getD i 0]⟩) :: rest) H R)
    (hq : ∀ l H', H1 l = none → Same H1 H' → H' l = some (.lst (z.cps.toList.map F)) → Q (.ref l) H') : tCompW (Its z) (gName 0) tAll te (none :: rest) H1 Q := by
  refine comp_fm z.cps.size hn (fun i => .str ⟨#[z.cps.getD i 0]⟩) (fun _ => true) (fun i => F (z.cps.getD i 0)) (fun i H hi _ => hi) (fun i H x H2 hi hs hy => ?_) (fun H _ => Nat.le_refl _)
    (fun i H R hi hs q => q) (fun i H R hi _ hs k => hel i H R hi hs k) (fun l H' h1 h2 h3 => hq l H' h1 h2 ?_)
  · obtain ⟨rfl, c, hc, rfl⟩ := hy
    refine ⟨?_, rfl⟩
    have e : z.cps.getD i 0 = c := by rw [Array.getD_eq_getD_getElem?, hc]; rfl
    rw [e]
  · rw [h3, filter_true]
    have e := range_map z.cps.toList 0 F
    rw [Array.length_toList] at e
    rw [← e]
    congr 1
    congr 1
    apply List.map_congr_left
    intro i _
    congr 1
    simp [List.getD_eq_getElem?_getD, Array.getD_eq_getD_getElem?]

/-! ### trees of words, in the heap -/
/-- the tree stands at v -/
def TreeAt (H : Hp) : Tr → V → Prop
  | .nil, v => v = .non
  | .node k l r, v => ∃ p vl vr, v = .ref p ∧ H p = some (.tup [.str k, vl, vr]) ∧ TreeAt H l vl ∧ TreeAt H r vr
theorem TreeAt.same {H H' : Hp} (s : Same H H') : ∀ {t : Tr} {v : V}, TreeAt H t v → TreeAt H' t v
  | .nil, _, h => h
  | .node k l r, v, h => by
    obtain ⟨p, vl, vr, e, hp, h1, h2⟩ := h
    exact ⟨p, vl, vr, e, s _ _ hp, h1.same s, h2.same s⟩
/-- as data -/
def Tr.data : Tr → PyData
  | .nil => .none
  | .node k l r => .tuple [.str k, l.data, r.data]
/-- lists of texts, of ints, as data -/
theorem all_strs {K : PySem.W.Frag} {H : Hp} : ∀ ks : List Str, DataAll K H (ks.map .str) (ks.map V.str)
  | [] => by simp [DataAll]
  | k :: r => by
    simp only [List.map_cons, DataAll]
    exact ⟨_, _, rfl, by simp [DataAt], all_strs r⟩
theorem data_strs {K : PySem.W.Frag} {H : Hp} {p : Addr} {ks : List Str} (h : SqL K H p (ks.map V.str)) : DataAt K H (.list (ks.map .str)) (.ref p) := by
  rw [DataAt]; exact ⟨p, _, rfl, h, all_strs ks⟩
theorem eqv_strs_all : ∀ ks ls : List Str, PyData.eqvAll (ks.map .str) (ls.map .str) = decide (ks = ls)
  | [], [] => by simp [PyData.eqvAll]
  | [], _ :: _ => by simp [PyData.eqvAll]
  | _ :: _, [] => by simp [PyData.eqvAll]
  | k :: r, l :: q => by
    simp only [List.map_cons, PyData.eqvAll, PyData.eqv, eqv_strs_all r q, List.cons.injEq, Bool.decide_and]
    by_cases hk : k = l <;> simp [hk]
theorem eqv_strs (ks ls : List Str) : PyData.eqv (.list (ks.map .str)) (.list (ls.map .str)) = decide (ks = ls) := by
  rw [PyData.eqv]; exact eqv_strs_all ks ls
theorem lay_strs : ∀ {ks : List Str}, (∀ k ∈ ks, PyData.strOk k = true) → PyData.canLayAll0 (ks.map .str) = true ∧ PyData.depthAll (ks.map .str) = 0
  | [], _ => by simp [PyData.canLayAll0, PyData.depthAll]
  | k :: r, h => by
    have ih := lay_strs (ks := r) fun x hx => h x (List.mem_cons_of_mem _ hx)
    have hk := h k List.mem_cons_self
    simp [PyData.canLayAll0, PyData.depthAll, PyData.canLay0, PyData.depth, hk, ih.1, ih.2]
theorem shaped_strs {ks : List Str} (h : ∀ k ∈ ks, PyData.strOk k = true) : SeqAt.shaped (.list (ks.map .str)) = true := by
  obtain ⟨h1, h2⟩ := lay_strs h
  simp [SeqAt.shaped, PyData.canLay0, PyData.depth, h1, h2]
theorem Tr.data_lay : ∀ {t : Tr}, (∀ k ∈ t.row, PyData.strOk k = true) → PyData.canLay0 t.data = true ∧ PyData.depth t.data = t.depth
  | .nil, _ => by simp [Tr.data, PyData.canLay0, PyData.depth, Tr.depth]
  | .node k l r, h => by
    have h1 := Tr.data_lay (t := l) fun x hx => h x (by simp [Tr.row, hx])
    have h2 := Tr.data_lay (t := r) fun x hx => h x (by simp [Tr.row, hx])
    have hk := h k (by simp [Tr.row])
    simp [Tr.data, PyData.canLay0, PyData.canLayAll0, PyData.depth, PyData.depthAll, Tr.depth, hk, h1.1, h1.2, h2.1, h2.2]
theorem Tr.shaped {t : Tr} (h : ∀ k ∈ t.row, PyData.strOk k = true) (hd : t.depth ≤ 64) : SeqAt.shaped t.data = true := by
  obtain ⟨h1, h2⟩ := Tr.data_lay h
  simp [SeqAt.shaped, h1, h2, hd]
end L2

set_option linter.all false
namespace L2
open PySem
/-! ### sums -/
def sumF (f : Nat → Int) (i : Nat) : Nat → Int
  | 0 => 0
  | n + 1 => sumF f i n + f (i + n)
/-- the whole weight of the stretch of n keys from i on -/
def wt (h m : Nat → Int) (i n : Nat) : Int := sumF h i n + sumF m i (n + 1)
/-! ### the cost of a tree: its keys are the stretch from i on; d words stand above it -/
/-! ### the least of a list -/
def minL : List Int → Int
  | [] => 0
  | [x] => x
  | x :: y :: r => min x (minL (y :: r))
theorem minL_le : ∀ {xs : List Int} {a : Int}, a ∈ xs → minL xs ≤ a
  | [x], a, h => by simp at h; subst h; exact Int.le_refl _
  | x :: y :: r, a, h => by
    rw [minL]
    rcases List.mem_cons.mp h with rfl | h
    · exact Int.min_le_left _ _
    · exact Int.le_trans (Int.min_le_right _ _) (minL_le h)
theorem minL_mem : ∀ {xs : List Int}, xs ≠ [] → minL xs ∈ xs
  | [x], _ => by simp [minL]
  | x :: y :: r, _ => by
    rw [minL]
    by_cases h : x ≤ minL (y :: r)
    · rw [Int.min_eq_left h]; exact List.mem_cons_self
    · rw [Int.min_eq_right (by omega)]; exact List.mem_cons_of_mem _ (minL_mem (by simp))
theorem minL_unique {xs : List Int} {a : Int} (h1 : a ∈ xs) (h2 : ∀ b ∈ xs, a ≤ b) : a = minL xs := by
  have h3 := minL_le h1
  have h4 := h2 _ (minL_mem (by rintro rfl; cases h1))
  omega
/-! ### worths: of the stretch of n keys from i on -/
def partsOf (W : Nat → Nat → Int) (n i : Nat) : List Int := (List.range n).map fun r => W r i + W (n - 1 - r) (i + r + 1)
def worthF (h m : Nat → Int) : Nat → Nat → Nat → Int
  | 0, _, _ => 0
  | f + 1, n, i => if n = 0 then 0 else wt h m i n + minL (partsOf (worthF h m f) n i)
theorem worthF_fuel (h m : Nat → Int) : ∀ (f g n i : Nat), n ≤ f → n ≤ g → worthF h m f n i = worthF h m g n i
  | 0, 0, n, i, _, _ => rfl
  | 0, g + 1, n, i, h1, _ => by rw [worthF, worthF, if_pos (by omega)]
  | f + 1, 0, n, i, _, h2 => by rw [worthF, worthF, if_pos (by omega)]
  | f + 1, g + 1, n, i, h1, h2 => by
    by_cases hn : n = 0
    · rw [worthF, worthF, if_pos hn, if_pos hn]
    · rw [worthF, worthF, if_neg hn, if_neg hn]
      congr 2
      unfold partsOf
      apply List.map_congr_left
      intro r hr
      have hr' := List.mem_range.mp hr
      rw [worthF_fuel h m f g r i (by omega) (by omega), worthF_fuel h m f g (n - 1 - r) (i + r + 1) (by omega) (by omega)]
def worth (h m : Nat → Int) (n i : Nat) : Int := worthF h m n n i
theorem worth_zero (h m : Nat → Int) (i : Nat) : worth h m 0 i = 0 := rfl
/-- the sums of the two sides, a root each -/
def sides (h m : Nat → Int) (n i : Nat) : List Int := partsOf (worth h m) n i
theorem sides_length (h m : Nat → Int) (n i : Nat) : (sides h m n i).length = n := by simp [sides, partsOf]
theorem sides_at (h m : Nat → Int) {n i r : Nat} (hr : r < n) : (sides h m n i)[r]? = some (worth h m r i + worth h m (n - 1 - r) (i + r + 1)) := by
  unfold sides partsOf
  rw [List.getElem?_map, List.getElem?_range hr]
  rfl
theorem worth_pos (h m : Nat → Int) {n : Nat} (hn : n ≠ 0) (i : Nat) : worth h m n i = wt h m i n + minL (sides h m n i) := by
  obtain ⟨k, rfl⟩ : ∃ k, n = k + 1 := ⟨n - 1, by omega⟩
  show worthF h m (k + 1) (k + 1) i = _
  rw [worthF, if_neg hn]
  congr 2
  unfold sides partsOf
  apply List.map_congr_left
  intro r hr
  have hr' := List.mem_range.mp hr
  show worthF h m k r i + worthF h m k (k + 1 - 1 - r) (i + r + 1) = worthF h m r r i + worthF h m (k + 1 - 1 - r) (k + 1 - 1 - r) (i + r + 1)
  rw [worthF_fuel h m k r r i (by omega) (by omega), worthF_fuel h m k (k + 1 - 1 - r) (k + 1 - 1 - r) (i + r + 1) (by omega) (by omega)]
theorem sides_ne (h m : Nat → Int) {n : Nat} (hn : n ≠ 0) (i : Nat) : sides h m n i ≠ [] := by
  intro e
  have := sides_length h m n i
  rw [e] at this
  exact hn this.symm
/-- the least place of a root -/
def rootI (h m : Nat → Int) (n i : Nat) : Nat := (sides h m n i).idxOf (minL (sides h m n i))
theorem rootI_lt (h m : Nat → Int) {n : Nat} (hn : n ≠ 0) (i : Nat) : rootI h m n i < n := by
  have := List.idxOf_lt_length_of_mem (minL_mem (sides_ne h m hn i))
  rw [sides_length] at this
  exact this
theorem rootI_at (h m : Nat → Int) {n : Nat} (hn : n ≠ 0) (i : Nat) : worth h m (rootI h m n i) i + worth h m (n - 1 - rootI h m n i) (i + rootI h m n i + 1) = minL (sides h m n i) := by
  have hl := rootI_lt h m hn i
  have h1 := sides_at h m (i := i) hl
  have h2 : (sides h m n i)[rootI h m n i]? = some (minL (sides h m n i)) := by
    have hl' : rootI h m n i < (sides h m n i).length := by rw [sides_length]; exact hl
    rw [List.getElem?_eq_getElem hl']
    congr 1
    exact List.getElem_idxOf hl'
  rw [h1] at h2
  exact Option.some.inj h2
theorem rootI_first (h m : Nat → Int) {n r : Nat} (i : Nat) (hr : r < rootI h m n i) (hn : n ≠ 0) : minL (sides h m n i) < worth h m r i + worth h m (n - 1 - r) (i + r + 1) := by
  have hl := rootI_lt h m hn i
  have h1 := sides_at h m (n := n) (i := i) (r := r) (by omega)
  have hm := List.mem_of_getElem? h1
  have h2 := minL_le hm
  rcases Int.lt_or_eq_of_le h2 with h3 | h3
  · exact h3
  · exfalso
    have hrl : r < (sides h m n i).length := by rw [sides_length]; omega
    have h4 : (sides h m n i)[r] = minL (sides h m n i) := by
      rw [List.getElem?_eq_getElem hrl] at h1
      rw [Option.some.inj h1, h3]
    have := List.not_of_lt_findIdx (p := (· == minL (sides h m n i))) (xs := sides h m n i) (i := r) hr
    rw [h4] at this
    simp at this
/-- the best tree -/
def bestT (h m : Nat → Int) (key : Nat → Str) : Nat → Nat → Nat → Tr
  | 0, _, _ => .nil
  | f + 1, n, i => if n = 0 then .nil else .node (key (i + rootI h m n i)) (bestT h m key f (rootI h m n i) i) (bestT h m key f (n - 1 - rootI h m n i) (i + rootI h m n i + 1))
end L2

set_option linter.all false
namespace L2
open PySem
section
variable {h m : Nat → Int}
/-! ### stretches by their ends -/
def cc (h m : Nat → Int) (i j : Nat) : Int := worth h m (j - i) i
/-- the least root of the stretch from i to j, as a place of the keys -/
def rr (h m : Nat → Int) (i j : Nat) : Nat := i + rootI h m (j - i) i
end
end L2

set_option linter.all false
namespace L2
open PySem
/-! ### seeking -/
def Rising (ks : List Str) : Prop := ks.Pairwise fun x y => strLt x y = true
theorem Keys.rising {ks : List Str} (h : Keys ks) : Rising ks := by
  refine List.pairwise_iff_getElem.mpr fun i j hi hj hij => ?_
  exact h.lt j i ks[i] ks[j] hij (List.getElem?_eq_getElem hi) (List.getElem?_eq_getElem hj)
theorem strLt_trans {x y z : Str} (h1 : strLt x y = true) (h2 : strLt y z = true) : strLt x z = true :=
  decide_eq_true (natlist_trans (of_decide_eq_true h1) (of_decide_eq_true h2))
theorem strLt_asymm {x y : Str} (h : strLt x y = true) : strLt y x = false := by
  cases e : strLt y x with
  | false => rfl
  | true => have := strLt_trans h e; rw [strLt_irrefl] at this; cases this
theorem rising_node {k : Str} {l r : Tr} (h : Rising (Tr.node k l r).row) : Rising l.row ∧ Rising r.row ∧ (∀ x ∈ l.row, strLt x k = true) ∧ ∀ x ∈ r.row, strLt k x = true := by
  unfold Rising at h
  rw [Tr.row, List.append_assoc, List.pairwise_append] at h
  obtain ⟨h1, h2, h3⟩ := h
  rw [List.singleton_append, List.pairwise_cons] at h2
  exact ⟨h1, h2.2, fun x hx => h3 x hx k (by simp), h2.1⟩
/-! ### steps, key by key and gap by gap -/
/-! ### the tables, as lists -/
def worthsL (h m : Nat → Int) (n : Nat) : List (List Int) := (List.range (n + 1)).map fun i => (List.range (n + 1 - i)).map fun k => worth h m k i
def rootsL (h m : Nat → Int) (n : Nat) : List (List Int) := (List.range n).map fun i => (List.range (n - i)).map fun k => ((i + rootI h m (k + 1) i : Nat) : Int)
end L2

set_option linter.all false
namespace L2
open PySem
/-! ### all weights by a factor -/
/-! ### the other way about -/
/-! ### one weight more -/
end L2

set_option linter.all false
namespace L2
open PySem
/-! ### all trees of some keys, in the law's order -/
end L2

set_option linter.all false
namespace L2
open PySem
/-! ### what the program's checks tell -/
def risesB (ks : List Str) : Bool := (List.range (ks.length - 1)).all fun k => strLt (ks.getD k ⟨#[]⟩) (ks.getD (k + 1) ⟨#[]⟩)
def keysB (ks : List Str) : Bool := decide (ks.length ≤ 12) && ks.all wordOk && risesB ks
def weightsB (ns : List Int) (n : Nat) : Bool := decide (ns.length = n) && ns.all fun x => decide (0 ≤ x ∧ x ≤ 1000000)
theorem Keys.b {ks : List Str} (h : Keys ks) : keysB ks = true := by
  unfold keysB
  rw [Bool.and_eq_true, Bool.and_eq_true]
  refine ⟨⟨decide_eq_true h.many, List.all_eq_true.mpr h.words⟩, ?_⟩
  unfold risesB
  rw [List.all_eq_true]
  intro k hk
  have hk' := List.mem_range.mp hk
  have e1 : ks[k]? = some (ks.getD k ⟨#[]⟩) := by rw [List.getElem?_eq_getElem (by omega)]; simp [List.getD_eq_getElem?_getD, show k < ks.length by omega]
  have e2 : ks[k + 1]? = some (ks.getD (k + 1) ⟨#[]⟩) := by rw [List.getElem?_eq_getElem (by omega)]; simp [List.getD_eq_getElem?_getD, show k + 1 < ks.length by omega]
  exact h.rise k _ _ e1 e2
/-- weights by the third point -/
structure Weights (ns : List Int) (n : Nat) : Prop where
  len : ns.length = n
  ok : ∀ x ∈ ns, 0 ≤ x ∧ x ≤ 1000000
theorem Weights.b {ns : List Int} {n : Nat} (h : Weights ns n) : weightsB ns n = true := by
  unfold weightsB
  rw [Bool.and_eq_true]
  exact ⟨decide_eq_true h.len, List.all_eq_true.mpr fun x hx => decide_eq_true (h.ok x hx)⟩
theorem one_lt (a b : Nat) : decide (([a] : List Nat) < [b]) = decide (a < b) := by
  by_cases h : a < b
  · rw [decide_eq_true h]
    exact decide_eq_true (List.Lex.rel h)
  · rw [decide_eq_false h]
    refine decide_eq_false fun q => ?_
    rcases q with _ | ⟨q⟩ | q
    all_goals first
      | exact h q
      | cases q
      | (rename_i q'; cases q')
end L2

set_option linter.all false
namespace L2
open PySem
/-! ### the weights that the law draws -/
/-! ### cuts -/
end L2

set_option Elab.async false
set_option linter.all false
set_option maxRecDepth 100000
namespace L2
open PySem
/-! ### keys cut to seven letters -/
/-! ### seeking a word that is no key -/
/-! ### sums by places -/
end L2

set_option Elab.async false
set_option linter.all false
set_option maxRecDepth 100000
namespace L2
open PySem
end L2

set_option Elab.async false
set_option linter.all false
set_option maxRecDepth 100000
namespace L2
open PySem
/-! ### turning -/
def Tr.isRoot : Tr → Str → Bool
  | .nil, _ => false
  | .node k _ _, w => decide (k = w)
def upL : Tr → Tr
  | .node k (.node q a b) r => .node q a (.node k b r)
  | t => t
def upR : Tr → Tr
  | .node k l (.node q a b) => .node q (.node k l a) b
  | t => t
def turnT : Tr → Str → Tr
  | .nil, _ => .nil
  | .node k l r, w => if strLt w k = true then (if l.isRoot w = true then upL (.node k l r) else .node k (turnT l w) r) else (if r.isRoot w = true then upR (.node k l r) else .node k l (turnT r w))
theorem upL_row (k : Str) (l r : Tr) : (upL (.node k l r)).row = (Tr.node k l r).row := by
  cases l with
  | nil => rfl
  | node q a b => simp [upL, Tr.row]
theorem upR_row (k : Str) (l r : Tr) : (upR (.node k l r)).row = (Tr.node k l r).row := by
  cases r with
  | nil => rfl
  | node q a b => simp [upR, Tr.row]
theorem turnT_row : ∀ (t : Tr) (w : Str), (turnT t w).row = t.row
  | .nil, _ => rfl
  | .node k l r, w => by
    rw [turnT]
    split
    · split
      · exact upL_row k l r
      · rw [Tr.row, turnT_row l w]; rfl
    · split
      · exact upR_row k l r
      · rw [Tr.row, turnT_row r w]; rfl
/-- where the word lies -/
theorem side_of {k : Str} {l r : Tr} {w : Str} (hR : Rising (Tr.node k l r).row) (h : w ∈ (Tr.node k l r).row) (hk : k ≠ w) : (strLt w k = true ∧ w ∈ l.row) ∨ (¬ strLt w k = true ∧ w ∈ r.row) := by
  obtain ⟨_, _, r3, r4⟩ := rising_node hR
  simp only [Tr.row, List.mem_append, List.mem_singleton] at h
  rcases h with (h | h) | h
  · exact .inl ⟨r3 w h, h⟩
  · exact absurd h.symm hk
  · exact .inr ⟨by rw [strLt_asymm (r4 w h)]; decide, h⟩
/-- turned up one behind the other, they lead from t to u -/
def Leads : Tr → List Str → Tr → Prop
  | t, [], u => t = u
  | t, w :: ws, u => w ∈ t.row ∧ t.isRoot w = false ∧ Leads (turnT t w) ws u
theorem Leads.row : ∀ {t u : Tr} {ws : List Str}, Leads t ws u → u.row = t.row
  | t, u, [], h => by have e : t = u := h; rw [e]
  | t, u, w :: ws, h => by rw [h.2.2.row, turnT_row]
theorem Leads.left {k : Str} {r : Tr} : ∀ {l l' : Tr} {ws : List Str}, Rising (Tr.node k l r).row → Leads l ws l' → Leads (.node k l r) ws (.node k l' r)
  | l, l', [], _, h => by have e : l = l' := h; subst e; exact rfl
  | l, l', w :: ws, hR, h => by
    obtain ⟨h1, h2, h3⟩ := h
    obtain ⟨_, _, r3, _⟩ := rising_node hR
    have c := r3 w h1
    have hk : k ≠ w := fun z => by rw [z, strLt_irrefl] at c; cases c
    refine ⟨by simp [Tr.row, h1], by rw [Tr.isRoot, decide_eq_false hk], ?_⟩
    rw [turnT, if_pos c, h2, if_neg (by decide)]
    refine Leads.left ?_ h3
    rw [Tr.row, turnT_row]; exact hR
theorem Leads.right {k : Str} {l : Tr} : ∀ {r r' : Tr} {ws : List Str}, Rising (Tr.node k l r).row → Leads r ws r' → Leads (.node k l r) ws (.node k l r')
  | r, r', [], _, h => by have e : r = r' := h; subst e; exact rfl
  | r, r', w :: ws, hR, h => by
    obtain ⟨h1, h2, h3⟩ := h
    obtain ⟨_, _, _, r4⟩ := rising_node hR
    have c := r4 w h1
    have hk : k ≠ w := fun z => by rw [z, strLt_irrefl] at c; cases c
    refine ⟨by simp [Tr.row, h1], by rw [Tr.isRoot, decide_eq_false hk], ?_⟩
    rw [turnT, if_neg (by rw [strLt_asymm c]; decide), h2, if_neg (by decide)]
    refine Leads.right ?_ h3
    rw [Tr.row, turnT_row]; exact hR
end L2

set_option Elab.async false
set_option linter.all false
set_option maxRecDepth 100000
namespace L2
open PySem PySem.Builtin PySem.Builtin.Str
/-! ### texts as lists of signs -/
theorem sliceRange_nat (a b : Nat) : sliceRange (a : Int) (b : Int) 1 = (List.range (b - a)).map (a + ·) := PySem.sliceRange_one a b
theorem pick_signs (xs : Array Nat) : ∀ (n a : Nat), a + n ≤ xs.size → ((List.range n).map (a + ·)).filterMap (xs[·]?) = (xs.toList.drop a).take n
  | 0, a, _ => by simp
  | n + 1, a, h => by
    have hi : a + n < xs.size := by omega
    rw [List.range_succ, List.map_append, List.filterMap_append, pick_signs xs n a (by omega), List.take_add_one, List.getElem?_drop]
    congr 1
    simp [hi]
theorem slice_signs (x : Str) (a b : Nat) : (Txt.slice x (some (a : Int)) (some (b : Int))).cps.toList = (x.cps.toList.drop a).take (b - a) := by
  have hl : x.length = x.cps.size := rfl
  have hidx : strSliceIndices (some (a : Int)) (some (b : Int)) 1 x.length = (List.range (min b x.length - min a x.length)).map (min a x.length + ·) := by
    rw [← sliceRange_nat]
    unfold strSliceIndices
    simp only [show (1 : Int) > 0 by decide, if_true]
    congr 1
    · rw [if_neg (by omega)]; omega
    · rw [if_neg (by omega)]; omega
  have hcut : ((x.cps.toList.drop (min a x.length)).take (min b x.length - min a x.length)) = (x.cps.toList.drop a).take (b - a) := by
    by_cases ha : a ≤ x.length
    · rw [Nat.min_eq_left ha]
      by_cases hb : b ≤ x.length
      · rw [Nat.min_eq_left hb]
      · rw [Nat.min_eq_right (by omega), List.take_of_length_le (by rw [List.length_drop, Array.length_toList]; omega), List.take_of_length_le (by rw [List.length_drop, Array.length_toList]; omega)]
    · rw [Nat.min_eq_right (show x.length ≤ a by omega), List.drop_eq_nil_of_le (show x.cps.toList.length ≤ x.length by rw [Array.length_toList]; omega), List.drop_eq_nil_of_le (show x.cps.toList.length ≤ a by rw [Array.length_toList]; omega)]; simp
  have hpick := pick_signs x.cps (min b x.length - min a x.length) (min a x.length) (by omega)
  unfold Txt.slice
  rw [hidx]
  split
  · rename_i hc
    simp only [beq_self_eq_true, Bool.true_and, beq_iff_eq, List.length_map, List.length_range] at hc
    rw [← hcut]
    have h0 : min a x.length = 0 := by omega
    rw [h0, List.drop_zero, List.take_of_length_le (by rw [Array.length_toList]; omega)]
  · show (((List.range (min b x.length - min a x.length)).map (min a x.length + ·)).filterMap (x.cps[·]?)).toArray.toList = _
    rw [hpick, hcut]
theorem str_ext {x y : Str} (h : x.cps.toList = y.cps.toList) : x = y := by
  cases x; cases y
  congr 1
  exact Array.toList_inj.mp h
/-! ### how often a sign stands in a text -/
theorem count_from (x : Str) (c : Nat) : ∀ (n a : Nat) (st : Array Nat × Nat), a + n = x.length + 1 → st.fst.size + n ≤ x.length + 1 → st.snd ≤ a →
    (forIn (List.range' a n) st (StrLaws.occBody x ⟨#[c]⟩ x.length (x.length + 1))).run.fst.size = st.fst.size + (x.cps.toList.drop a).count c
  | 0, a, st, h1, h2, h3 => by
    rw [List.drop_eq_nil_of_le (by rw [Array.length_toList]; show x.length ≤ a; omega)]
    simp
  | n + 1, a, st, h1, h2, h3 => by
    rw [List.range'_succ, List.forIn_cons]
    unfold StrLaws.occBody
    have hone := StrLaws.subAt_one x c a
    by_cases hc : x.cps.toList[a]? = some c
    · have ha := (List.getElem?_eq_some_iff.mp hc).1
      obtain ⟨p1, p2⟩ := hone.mpr hc
      rw [if_pos ⟨⟨⟨by omega, h3⟩, p1⟩, p2⟩]
      have ih := count_from x c n (a + 1) (st.fst.push a, a + (⟨#[c]⟩ : Str).length) (by omega) (by simp only [Array.size_push]; omega) (by show a + 1 ≤ a + 1; omega)
      simp only [Id.run, pure_bind] at ih ⊢
      rw [List.drop_eq_getElem_cons ha, (List.getElem?_eq_some_iff.mp hc).2, List.count_cons_self]
      have e := ih
      rw [Array.size_push] at e
      refine Eq.trans ?_ (e.trans (by omega))
      rfl
    · have hno : ¬ (((st.fst.size < x.length + 1 ∧ st.snd ≤ a) ∧ a + (⟨#[c]⟩ : Str).length ≤ x.length) ∧ subAt x ⟨#[c]⟩ a = true) := fun z => hc (hone.mp ⟨z.1.2, z.2⟩)
      rw [if_neg hno]
      have ih := count_from x c n (a + 1) (st.fst, st.snd) (by omega) (by show st.fst.size + n ≤ x.length + 1; omega) (by show st.snd ≤ a + 1; omega)
      simp only [Id.run, pure_bind] at ih ⊢
      have hd : (x.cps.toList.drop a).count c = (x.cps.toList.drop (a + 1)).count c := by
        by_cases ha : a < x.cps.toList.length
        · rw [List.drop_eq_getElem_cons ha, List.count_cons_of_ne]
          intro z
          exact hc (by rw [List.getElem?_eq_getElem ha, z])
        · rw [List.drop_eq_nil_of_le (by omega), List.drop_eq_nil_of_le (by omega)]
      rw [hd]
      refine Eq.trans ?_ ih
      rfl
theorem count_sign (x : Str) (c : Nat) : Txt.count x ⟨#[c]⟩ = (x.cps.toList.count c : Nat) := by
  unfold Txt.count
  rw [StrLaws.occ_eq, Array.length_toList]
  have := count_from x c (x.length + 1) 0 (#[], 0) (by omega) (by simp) (Nat.le_refl _)
  rw [show x.length + 1 - 0 = x.length + 1 by omega, this]
  simp
/-! ### a tree as a text -/
def signsT : Tr → List Nat
  | .nil => [45]
  | .node k l r => 40 :: (signsT l ++ 32 :: (k.cps.toList ++ 32 :: (signsT r ++ [41])))
def textT : Tr → Str
  | .nil => Str.ofString "-"
  | .node k l r => Str.ofString "(" ++ textT l ++ Str.ofString " " ++ k ++ Str.ofString " " ++ textT r ++ Str.ofString ")"
theorem append_signs (x y : Str) : (x ++ y).cps.toList = x.cps.toList ++ y.cps.toList := by
  show (x.cps ++ y.cps).toList = _
  exact Array.toList_append
theorem textT_signs : ∀ t : Tr, (textT t).cps.toList = signsT t
  | .nil => by decide +kernel
  | .node k l r => by
    have e1 : (Str.ofString "(").cps.toList = [40] := by decide +kernel
    have e2 : (Str.ofString " ").cps.toList = [32] := by decide +kernel
    have e3 : (Str.ofString ")").cps.toList = [41] := by decide +kernel
    rw [textT, signsT]
    simp only [append_signs, textT_signs l, textT_signs r, e1, e2, e3]
    simp
theorem signsT_few : ∀ t : Tr, (∀ k ∈ t.row, k.length ≤ 8) → (signsT t).length ≤ 13 * t.size + 1
  | .nil, _ => by simp [signsT, Tr.size]
  | .node k l r, h => by
    have h1 := signsT_few l fun x hx => h x (by simp [Tr.row, hx])
    have h2 := signsT_few r fun x hx => h x (by simp [Tr.row, hx])
    have h3 := h k (by simp [Tr.row])
    have h4 : k.cps.toList.length = k.length := Array.length_toList
    simp only [signsT, Tr.size, List.length_cons, List.length_append, List.length_nil]
    omega
/-- what stands at a place -/
def signAt (cs : List Nat) (p : Nat) : Str := ⟨((cs.drop p).take 1).toArray⟩
theorem slice_sign (x : Str) (p : Nat) : Txt.slice x (some (p : Int)) (some ((p : Int) + 1)) = signAt x.cps.toList p := by
  apply str_ext
  rw [show (p : Int) + 1 = ((p + 1 : Nat) : Int) by omega, slice_signs, show p + 1 - p = 1 by omega]
  rfl
end L2

set_option linter.all false
namespace L2
open PySem
/-! ### back from the checks -/
theorem keys_of {ks : List Str} (h : keysB ks = true) : Keys ks := by
  unfold keysB at h
  rw [Bool.and_eq_true, Bool.and_eq_true] at h
  refine ⟨of_decide_eq_true h.1.1, List.all_eq_true.mp h.1.2, fun i x y hx hy => ?_⟩
  have h3 := h.2
  unfold risesB at h3
  have hi := (List.getElem?_eq_some_iff.mp hy).1
  have z := List.all_eq_true.mp h3 i (List.mem_range.mpr (by omega))
  rw [List.getD_eq_getElem?_getD, List.getD_eq_getElem?_getD, hx, hy] at z
  exact z
theorem weights_of {ns : List Int} {n : Nat} (h : weightsB ns n = true) : Weights ns n := by
  unfold weightsB at h
  rw [Bool.and_eq_true] at h
  exact ⟨of_decide_eq_true h.1, fun x hx => of_decide_eq_true (List.all_eq_true.mp h.2 x hx)⟩
end L2

set_option linter.all false
namespace L2
open PySem
/-! ### reading a text -/
def letter (c : Nat) : Bool := decide (97 ≤ c ∧ c ≤ 122)
def after (c : Nat) : List Nat → Option (List Nat)
  | [] => none
  | d :: r => if d = c then some r else none
def parsT : Nat → List Nat → Option (Tr × List Nat)
  | 0, _ => none
  | n + 1, cs => match after 45 cs with
    | some r => some (.nil, r)
    | none => (after 40 cs).bind fun r => (parsT n r).bind fun p => (after 32 p.2).bind fun r2 => (after 32 (r2.dropWhile letter)).bind fun r3 => (parsT n r3).bind fun p2 => (after 41 p2.2).bind fun r4 => some (.node ⟨(r2.takeWhile letter).toArray⟩ p.1 p2.1, r4)
theorem after_eq {c : Nat} {cs r : List Nat} (h : after c cs = some r) : cs = c :: r := by
  cases cs with
  | nil => cases h
  | cons d t =>
    have h' : (if d = c then some t else none) = some r := h
    by_cases e : d = c
    · rw [if_pos e] at h'; cases h'; rw [e]
    · rw [if_neg e] at h'; cases h'
theorem after_some {c p : Nat} {cs r : List Nat} (h : after c (cs.drop p) = some r) : signAt cs p = ⟨#[c]⟩ ∧ r = cs.drop (p + 1) := by
  have e := after_eq h
  constructor
  · unfold signAt; rw [e]; rfl
  · rw [← List.drop_drop, e]; rfl
theorem after_none {c p : Nat} {cs : List Nat} (h : after c (cs.drop p) = none) : signAt cs p ≠ ⟨#[c]⟩ := fun z => by
  unfold signAt at z
  have z' := Array.toList_inj.mpr (Str.mk.inj z)
  cases e : cs.drop p with
  | nil => rw [e] at z'; cases z'
  | cons d t =>
    rw [e] at z' h
    have : d = c := by simpa using z'
    have h' : (if d = c then some t else none) = none := h
    rw [if_pos this] at h'
    cases h'
theorem take_while (p : Nat → Bool) : ∀ l : List Nat, l.take (l.takeWhile p).length = l.takeWhile p
  | [] => rfl
  | a :: l => by
    rw [List.takeWhile_cons]
    split
    · rw [List.length_cons, List.take_succ_cons, take_while p l]
    · rfl
theorem drop_while (p : Nat → Bool) : ∀ l : List Nat, l.drop (l.takeWhile p).length = l.dropWhile p
  | [] => rfl
  | a :: l => by
    rw [List.takeWhile_cons, List.dropWhile_cons]
    split
    · rw [List.length_cons, List.drop_succ_cons, drop_while p l]
    · rfl
theorem while_all (p : Nat → Bool) : ∀ l : List Nat, ∀ c ∈ l.takeWhile p, p c = true
  | [], c, h => by cases h
  | a :: l, c, h => by
    rw [List.takeWhile_cons] at h
    split at h
    · rename_i e
      rcases List.mem_cons.mp h with rfl | h
      · exact e
      · exact while_all p l c h
    · cases h
theorem while_app (p : Nat → Bool) (l : List Nat) : l.takeWhile p ++ l.dropWhile p = l := List.takeWhile_append_dropWhile
def Letters (k : Str) : Prop := ∀ c ∈ k.cps.toList, letter c = true
/-- what is read, is what was written -/
theorem parsT_signs : ∀ {n : Nat} {cs r : List Nat} {t : Tr}, parsT n cs = some (t, r) → cs = signsT t ++ r ∧ ∀ k ∈ t.row, Letters k
  | 0, cs, r, t, h => by cases h
  | n + 1, cs, r, t, h => by
    unfold parsT at h
    split at h
    · rename_i r' e
      cases h
      exact ⟨after_eq e, fun k hk => nomatch hk⟩
    · obtain ⟨r1, e1, h⟩ := Option.bind_eq_some_iff.mp h
      obtain ⟨⟨l, q1⟩, e2, h⟩ := Option.bind_eq_some_iff.mp h
      obtain ⟨r2, e3, h⟩ := Option.bind_eq_some_iff.mp h
      obtain ⟨r3, e4, h⟩ := Option.bind_eq_some_iff.mp h
      obtain ⟨⟨rt, q2⟩, e5, h⟩ := Option.bind_eq_some_iff.mp h
      obtain ⟨r4, e6, h⟩ := Option.bind_eq_some_iff.mp h
      cases h
      obtain ⟨a1, a2⟩ := parsT_signs e2
      obtain ⟨b1, b2⟩ := parsT_signs e5
      have h3 := after_eq e3
      have h4 := after_eq e4
      have h6 := after_eq e6
      simp only at h3 h6
      refine ⟨?_, fun k hk => ?_⟩
      · rw [after_eq e1, a1, h3]
        have hw := while_app letter r2
        rw [h4, b1, h6] at hw
        rw [signsT]
        simp only [List.cons_append, List.append_assoc, List.nil_append, List.singleton_append]
        exact congrArg (fun z => 40 :: (signsT l ++ 32 :: z)) hw.symm
      · simp only [Tr.row, List.mem_append, List.mem_singleton] at hk
        rcases hk with (hk | hk) | hk
        · exact a2 k hk
        · rw [hk]; exact while_all letter r2
        · exact b2 k hk
theorem letters_count {k : Str} (h : Letters k) : k.cps.toList.count 40 = 0 := by
  rw [List.count_eq_zero]
  intro z
  have := of_decide_eq_true (h 40 z)
  omega
theorem signsT_count' : ∀ {t : Tr}, (∀ k ∈ t.row, Letters k) → (signsT t).count 40 = t.size
  | .nil, _ => rfl
  | .node k l r, h => by
    have h1 := signsT_count' (t := l) fun x hx => h x (by simp [Tr.row, hx])
    have h2 := signsT_count' (t := r) fun x hx => h x (by simp [Tr.row, hx])
    have h4 := letters_count (h k (by simp [Tr.row]))
    simp only [signsT, Tr.size, List.count_cons, List.count_append, List.count_nil, h1, h2, h4]
    simp
    omega
theorem parsT_count {n : Nat} {cs r : List Nat} {t : Tr} (h : parsT n cs = some (t, r)) : cs.count 40 = t.size + r.count 40 := by
  obtain ⟨e, w⟩ := parsT_signs h
  rw [e, List.count_append, signsT_count' w]
theorem after_count {c : Nat} {cs r : List Nat} (h : after c cs = some r) : r.count 40 ≤ cs.count 40 := by
  rw [after_eq h, List.count_cons]; omega
theorem drop_count (p : Nat → Bool) (l : List Nat) : (l.dropWhile p).count 40 ≤ l.count 40 := by
  have := congrArg (List.count 40) (while_app p l)
  rw [List.count_append] at this
  omega
/-- what read tells -/
def readT (cs : List Nat) : Option Tr := if 12 < cs.count 40 then none else match parsT 13 cs with
  | some (t, []) => if keysB t.row = true then some t else none
  | _ => none
theorem Tr.row_signs : ∀ (t : Tr), ∀ k ∈ t.row, k.length ≤ (signsT t).length
  | .nil, k, h => by cases h
  | .node x l r, k, h => by
    simp only [Tr.row, List.mem_append, List.mem_singleton] at h
    simp only [signsT, List.length_cons, List.length_append, List.length_nil]
    have e : x.cps.toList.length = x.length := Array.length_toList
    rcases h with (h | h) | h
    · have := Tr.row_signs l k h; omega
    · rw [h]; omega
    · have := Tr.row_signs r k h; omega
end L2

set_option linter.all false
namespace L2
open PySem Builtin Builtin.Str
/-! ### reading with more calls allowed tells the same -/
/-! ### replacing -/
/-! ### a text that is not too long to be looked at -/
end L2

set_option linter.all false
namespace L2
open PySem
/-! ### keys, weights and trees spoiled on purpose -/
/-! ### no drawn key is one of these -/
/-! ### weights -/
end L2

set_option Elab.async false
set_option linter.all false
set_option maxRecDepth 100000
namespace L2
open PySem PySem.Spec PyProof.Rows
/-- a for, behind its walk's own reading -/
def tForW (J : It) (g : TG) (tb : TS) (D : Ends) (σ : St) (H1 : Hp) : Prop := ∃ W : Nat → Nat → St → Hp → Prop, (∃ m, W 0 m σ H1) ∧ ∀ i m σ H, W i m σ H →
  (J.stop i H ∧ D.nx σ H) ∨ (J.go i H ∧ ∃ N : St → Hp → Prop, (∀ σ' H', N σ' H' → ∃ m', m' < m ∧ W (i + 1) m' σ' H') ∧ ∀ x H', J.yld i H x H' → g x σ H' fun σ2 H2 => tb { D with nx := N, ct := N, bk := D.nx } σ2 H2)
theorem tFor_rd {wi : TI} {g : TG} {tb : TS} {D : Ends} {σ : St} {H : Hp} : tFor wi g tb D σ H = wi σ H fun J H1 => tForW J g tb D σ H1 := rfl
section
variable {X : Cx}
/-- sep.join(words) -/
def rJoin (K : PySem.W.Frag) : V → List V → Hp → VK → Prop := fun x vs H Q => ∃ (z : Str) (p : Addr) (ks : List Str), x = .str z ∧ vs = [.ref p] ∧ SqL K H p (ks.map V.str) ∧ JoinOk z ks = true ∧ Q (.str (Txt.join z ks)) H
/-- text.count(part) -/
def rSCount : V → List V → Hp → VK → Prop := fun x vs H Q => ∃ z y : Str, x = .str z ∧ vs = [.str y] ∧ Q (.int (Txt.count z y)) H
theorem mt_scount : MtR X "str.count" rSCount := by
  intro pins s σ H x xs v us Q I rx rvs h
  obtain ⟨z, y, rfl, rfl, q⟩ := h
  obtain ⟨t, rfl⟩ := rx
  obtain ⟨u, rfl, ru⟩ := vals1 rvs
  obtain ⟨t', rfl⟩ := ru
  exact SC.count ⟨.int (Txt.count z y), H, I.tok _, ⟨_, rfl⟩, q⟩
end
end L2

set_option Elab.async false
set_option linter.all false
set_option maxRecDepth 100000
namespace L2
open PySem PySem.Spec PyProof.Rows
/-! ### flat values as data -/
theorem inV_strs (x : Str) (ks : List Str) : inV (.str x) (ks.map V.str) = decide (x ∈ ks) := by
  unfold inV
  induction ks with
  | nil => simp
  | cons k r ih =>
    rw [List.map_cons, List.any_cons, ih]
    by_cases h : k = x
    · subst h; simp [eqV]
    · have h' : ¬ x = k := fun e => h e.symm
      simp [eqV, h, h']
theorem flat_strs (ks : List Str) : (ks.map V.str).all flatV = true := by
  rw [List.all_map]; exact List.all_eq_true.mpr fun _ _ => rfl
theorem cut_from (vs : List V) (k : Nat) (h : k ≤ vs.length) : cutV vs (some (k : Int)) none = vs.drop k := by
  unfold cutV
  rw [HT.sIx_nat, HT.sIx_none, Nat.min_eq_left h]
  exact List.take_of_length_le (by rw [List.length_drop]; omega)
theorem cut_to (vs : List V) (k : Nat) : cutV vs none (some (k : Int)) = vs.take k := by
  unfold cutV
  rw [HT.sIx_nat, HT.sIx_none, List.drop_zero, Nat.sub_zero]
  apply List.ext_getElem?
  intro i
  rw [List.getElem?_take, List.getElem?_take]
  by_cases h : i < k
  · by_cases h2 : i < vs.length
    · rw [if_pos (by omega), if_pos h]
    · rw [if_neg (by omega), if_pos h, List.getElem?_eq_none (by omega)]
  · rw [if_neg (by omega), if_neg h]
end L2

set_option Elab.async false
set_option linter.all false
set_option maxRecDepth 100000
namespace L2
open PySem PySem.Spec PyProof.Rows
theorem atI_int {ns : List Int} {i : Nat} {z : Int} (h : i < ns.length) (e : z = i := by omega) : atI (ns.map V.int) z = some (.int (ns.getD i 0)) := by
  subst e
  exact atI_nat (by rw [List.getElem?_map, List.getElem?_eq_getElem h]; simp [List.getD_eq_getElem?_getD, h])
theorem cut_fromM {α : Type} (g : α → V) (xs : List α) (k : Nat) {z : Int} (h : k ≤ xs.length) (e : z = k := by omega) : cutV (xs.map g) (some z) none = (xs.drop k).map g := by
  subst e
  rw [cut_from _ _ (by rw [List.length_map]; exact h), List.map_drop]
theorem cut_toM {α : Type} (g : α → V) (xs : List α) (k : Nat) {z : Int} (e : z = k := by omega) : cutV (xs.map g) none (some z) = (xs.take k).map g := by
  subst e
  rw [cut_to, List.map_take]
theorem Weights.take {xs : List Int} {n : Nat} (h : Weights xs n) {k : Nat} (hk : k ≤ n) : Weights (xs.take k) k := ⟨by rw [List.length_take, h.len]; omega, fun x hx => h.ok x (List.mem_of_mem_take hx)⟩
theorem Weights.drop {xs : List Int} {n : Nat} (h : Weights xs n) (k : Nat) : Weights (xs.drop k) (n - k) := ⟨by rw [List.length_drop, h.len], fun x hx => h.ok x (List.mem_of_mem_drop hx)⟩
/-! ### [keys, hits, misses] -/
end L2

set_option Elab.async false
set_option linter.all false
set_option maxRecDepth 100000
namespace L2
open PySem PySem.Spec PyProof.Rows
/-- a comprehension whose every element is a list of its own -/
theorem comp_rows {J : It} {te : TE} {rest : St} {H1 : Hp} {Q : VK} (n : Nat) (hn : n ≤ 1000) (xs : Nat → V) (f : Nat → List V)
    (hgo : ∀ i H, i < n → Same H1 H → J.go i H) (hy : ∀ i H x H2, i < n → Same H1 H → J.yld i H x H2 → x = xs i ∧ H2 = H) (hstop : ∀ H, Same H1 H → J.stop n H)
    (hel : ∀ i H (R : VK), i < n → Same H1 H → (∀ p H', Same H H' → H p = none → H' p = some (.lst (f i)) → R (.ref p) H') → te (some (xs i) :: rest) H R)
    (hq : ∀ l (ps : List Addr) H', H1 l = none → Same H1 H' → H' l = some (.lst (ps.map V.ref)) → ps.length = n → ps.Nodup → (∀ i p, ps[i]? = some p → H1 p = none ∧ p ≠ l ∧ H' p = some (.lst (f i))) → Q (.ref l) H') :
    tCompW J (gName 0) tAll te (none :: rest) H1 Q := by
  refine comp_gen n (fun l hl => ⟨fun i σ acc H => (∃ o, σ = o :: rest) ∧ ∃ ps : List Addr, acc = ps.map V.ref ∧ ps.length = i ∧ ps.Nodup ∧ (∀ j p, ps[j]? = some p → H1 p = none ∧ p ≠ l ∧ H p = some (.lst (f j))) ∧ H l = some (.lst acc) ∧ Same H1 H, ⟨⟨_, rfl⟩, [], rfl, rfl, List.nodup_nil, fun j p h => by simp at h, upd_same, same_new hl _⟩, ?_, ?_⟩)
  · rintro i σ acc H hi ⟨⟨o, rfl⟩, ps, rfl, hlen, hnd, hrows, hlH, hs⟩
    refine ⟨hgo i H hi hs, fun x H2 hyx => ?_⟩
    obtain ⟨rfl, rfl⟩ := hy i H x H2 hi hs hyx
    simp only [tAll, if_true]
    refine hel i H2 _ hi hs fun p H' hs' hp hp' => ?_
    have hpl : p ≠ l := fun e => by rw [e, hlH] at hp; cases hp
    refine ⟨hs' _ _ hlH, ?_, ⟨_, rfl⟩, ps ++ [p], ?_, ?_, ?_, ?_, upd_same, fun b u q => ?_⟩
    · rw [List.length_map, hlen]; exact small1000 (by omega)
    · rw [List.map_append]; rfl
    · rw [List.length_append, hlen]; rfl
    · rw [List.nodup_append]
      refine ⟨hnd, by simp, fun b hb c hc => ?_⟩
      rw [List.mem_singleton] at hc
      subst hc
      intro e
      subst e
      obtain ⟨j, hj, e⟩ := List.getElem_of_mem hb
      have := (hrows j b (by rw [List.getElem?_eq_getElem hj, e])).2.2
      rw [hp] at this; cases this
    · intro j b hb
      by_cases hj : j < ps.length
      · rw [List.getElem?_append_left hj] at hb
        obtain ⟨h1, h2, h3⟩ := hrows j b hb
        exact ⟨h1, h2, by rw [upd_ne h2]; exact hs' _ _ h3⟩
      · rw [List.getElem?_append_right (by omega)] at hb
        have hj' : j = i := by
          by_cases h0 : j - ps.length = 0
          · omega
          · rw [List.getElem?_eq_none (by simp; omega)] at hb; cases hb
        subst hj'
        rw [hlen, Nat.sub_self] at hb
        cases hb
        exact ⟨hs.none hp, hpl, by rw [upd_ne hpl]; exact hp'⟩
    · rw [upd_ne (ne_of_none q hl)]; exact hs' _ _ (hs b u q)
  · rintro σ acc H ⟨⟨o, rfl⟩, ps, rfl, hlen, hnd, hrows, hlH, hs⟩
    exact ⟨hstop H hs, hq l ps H hl hs hlH hlen hnd hrows⟩
theorem comp_rowsR {lo : Int} {n : Nat} {te : TE} {rest : St} {H1 : Hp} {Q : VK} (f : Nat → List V) (hn : n ≤ 1000)
    (hel : ∀ i H (R : VK), i < n → Same H1 H → (∀ p H', Same H H' → H p = none → H' p = some (.lst (f i)) → R (.ref p) H') → te (some (.int (lo + (i : Nat))) :: rest) H R)
    (hq : ∀ l (ps : List Addr) H', H1 l = none → Same H1 H' → H' l = some (.lst (ps.map V.ref)) → ps.length = n → ps.Nodup → (∀ i p, ps[i]? = some p → H1 p = none ∧ p ≠ l ∧ H' p = some (.lst (f i))) → Q (.ref l) H') :
    tCompW (Itr lo n) (gName 0) tAll te (none :: rest) H1 Q :=
  comp_rows n hn (fun i => .int (lo + (i : Nat))) f (fun i H hi _ => hi) (fun i H x H2 hi hs hy => ⟨hy.2, hy.1⟩) (fun H _ => Nat.le_refl _) hel hq
theorem comp_rowsL {K : PySem.W.Frag} {a : Addr} {vs : List V} {te : TE} {rest : St} {H1 : Hp} {Q : VK} (f : Nat → List V) (hn : vs.length ≤ 1000) (hl : SqL K H1 a vs)
    (hel : ∀ i v H (R : VK), vs[i]? = some v → Same H1 H → (∀ p H', Same H H' → H p = none → H' p = some (.lst (f i)) → R (.ref p) H') → te (some v :: rest) H R)
    (hq : ∀ l (ps : List Addr) H', H1 l = none → Same H1 H' → H' l = some (.lst (ps.map V.ref)) → ps.length = vs.length → ps.Nodup → (∀ i p, ps[i]? = some p → H1 p = none ∧ p ≠ l ∧ H' p = some (.lst (f i))) → Q (.ref l) H') :
    tCompW (Itl K a) (gName 0) tAll te (none :: rest) H1 Q := by
  have at_ : ∀ i, i < vs.length → vs[i]? = some (vs.getD i .non) := fun i hi => by
    rw [List.getElem?_eq_getElem hi]; simp [List.getD_eq_getElem?_getD, hi]
  refine comp_rows vs.length hn (fun i => vs.getD i .non) f (fun i H hi hs => ⟨vs, _, hs.seq hl, at_ i hi⟩) (fun i H x H2 hi hs hy => ?_) (fun H hs => ⟨vs, hs.seq hl, Nat.le_refl _⟩)
    (fun i H R hi hs k => hel i _ H R (at_ i hi) hs k) hq
  obtain ⟨rfl, h2⟩ := hy
  have := h2 vs (hs.seq hl)
  rw [at_ i hi] at this
  exact ⟨(Option.some.inj this).symm, rfl⟩
/-! ### a list of lists of ints, all of them new since H0 -/
def TabOf (H0 H : Hp) (a : Addr) (ps : List Addr) (rs : List (List Int)) : Prop :=
  H0 a = none ∧ H a = some (.lst (ps.map V.ref)) ∧ ps.length = rs.length ∧ ps.Nodup ∧ ∀ i p, ps[i]? = some p → H0 p = none ∧ p ≠ a ∧ H p = some (.lst ((rs.getD i []).map V.int))
def NewTab (H0 H : Hp) (a : Addr) (rs : List (List Int)) : Prop := ∃ ps, TabOf H0 H a ps rs
theorem TabOf.same {H0 H H' : Hp} {a : Addr} {ps : List Addr} {rs : List (List Int)} (h : TabOf H0 H a ps rs) (s : Same H H') : TabOf H0 H' a ps rs :=
  ⟨h.1, s _ _ h.2.1, h.2.2.1, h.2.2.2.1, fun i p hp => let ⟨x, y, z⟩ := h.2.2.2.2 i p hp; ⟨x, y, s _ _ z⟩⟩
theorem TabOf.base {H00 H0 H : Hp} {a : Addr} {ps : List Addr} {rs : List (List Int)} (h : TabOf H0 H a ps rs) (s : Same H00 H0) : TabOf H00 H a ps rs :=
  ⟨s.none h.1, h.2.1, h.2.2.1, h.2.2.2.1, fun i p hp => let ⟨x, y, z⟩ := h.2.2.2.2 i p hp; ⟨s.none x, y, z⟩⟩
theorem NewTab.same {H0 H H' : Hp} {a : Addr} {rs : List (List Int)} (h : NewTab H0 H a rs) (s : Same H H') : NewTab H0 H' a rs := let ⟨ps, t⟩ := h; ⟨ps, t.same s⟩
theorem NewTab.base {H00 H0 H : Hp} {a : Addr} {rs : List (List Int)} (h : NewTab H0 H a rs) (s : Same H00 H0) : NewTab H00 H a rs := let ⟨ps, t⟩ := h; ⟨ps, t.base s⟩
theorem TabOf.row {H0 H : Hp} {a : Addr} {ps : List Addr} {rs : List (List Int)} (h : TabOf H0 H a ps rs) {i : Nat} {z : Int} (hi : i < rs.length) (e : z = i := by omega) : ∃ p, ps[i]? = some p ∧ atI (ps.map V.ref) z = some (.ref p) ∧ H p = some (.lst ((rs.getD i []).map V.int)) := by
  subst e
  have hi' : i < ps.length := by rw [h.2.2.1]; exact hi
  refine ⟨ps[i], List.getElem?_eq_getElem hi', atI_nat (by rw [List.getElem?_map, List.getElem?_eq_getElem hi']; rfl), (h.2.2.2.2 i _ (List.getElem?_eq_getElem hi')).2.2⟩
theorem NewTab.top {H0 H : Hp} {a : Addr} {rs : List (List Int)} (h : NewTab H0 H a rs) : ∃ ps : List Addr, H a = some (.lst (ps.map V.ref)) ∧ ps.length = rs.length ∧ ∀ (i : Nat) (z : Int), i < rs.length → z = i → ∃ p, atI (ps.map V.ref) z = some (.ref p) ∧ H p = some (.lst ((rs.getD i []).map V.int)) := by
  obtain ⟨ps, t⟩ := h
  refine ⟨ps, t.2.1, t.2.2.1, fun i z hi e => ?_⟩
  obtain ⟨p, _, h2, h3⟩ := t.row hi e
  exact ⟨p, h2, h3⟩
/-- one row written anew -/
theorem TabOf.put {H0 H : Hp} {a : Addr} {ps : List Addr} {rs : List (List Int)} (h : TabOf H0 H a ps rs) {i : Nat} {p : Addr} (hp : ps[i]? = some p) (ys : List Int) : TabOf H0 (upd H p (.lst (ys.map V.int))) a ps (rs.set i ys) := by
  obtain ⟨h1, h2, h3, h4, h5⟩ := h
  have hi : i < ps.length := (List.getElem?_eq_some_iff.mp hp).1
  refine ⟨h1, ?_, by rw [List.length_set]; exact h3, h4, fun j b hb => ?_⟩
  · rw [upd_ne (h5 i p hp).2.1.symm]; exact h2
  · obtain ⟨x, y, z⟩ := h5 j b hb
    refine ⟨x, y, ?_⟩
    by_cases e : j = i
    · subst e
      rw [hp] at hb; cases hb
      rw [upd_same, List.getD_eq_getElem?_getD, List.getElem?_set_self (by omega)]; rfl
    · have hbp : b ≠ p := fun eb => e (by
        subst eb
        have hj : j < ps.length := (List.getElem?_eq_some_iff.mp hb).1
        rw [List.getElem?_eq_getElem hi] at hp
        rw [List.getElem?_eq_getElem hj] at hb
        have e2 : ps[j] = ps[i] := (Option.some.inj hb).trans (Option.some.inj hp).symm
        have pw := List.pairwise_iff_getElem.mp h4
        rcases Nat.lt_trichotomy j i with c | c | c
        · exact absurd e2 (pw j i hj hi c)
        · exact c
        · exact absurd e2.symm (pw i j hi hj c))
      rw [upd_ne hbp, z, List.getD_eq_getElem?_getD, List.getD_eq_getElem?_getD, List.getElem?_set_ne (fun z => e z.symm)]
theorem sum_cut (xs : List Int) : ∀ (n i : Nat), i + n ≤ xs.length → ((xs.drop i).take n).sum = sumF (fun k => xs.getD k 0) i n
  | 0, i, h => by simp [sumF]
  | n + 1, i, h => by
    have hi : i + n < xs.length := by omega
    rw [List.take_add_one, List.sum_append, sum_cut xs n i (by omega), sumF, List.getElem?_drop, List.getElem?_eq_getElem hi]
    simp [List.getD_eq_getElem?_getD, hi]
theorem cut_midM {α : Type} (g : α → V) (xs : List α) (i j : Nat) {z y : Int} (h1 : i ≤ xs.length) (h2 : j ≤ xs.length) (e : z = i := by omega) (e2 : y = j := by omega) : cutV (xs.map g) (some z) (some y) = ((xs.drop i).take (j - i)).map g := by
  subst e e2
  unfold cutV
  rw [HT.sIx_nat, HT.sIx_nat, List.length_map, Nat.min_eq_left h1, Nat.min_eq_left h2, List.map_take, List.map_drop]
/-- a list as a function -/
abbrev wf (hs : List Int) : Nat → Int := fun k => hs.getD k 0
theorem for_down {hi : Int} {n : Nat} {g : TG} {tb : TS} {D : Ends} {σ : St} {H : Hp} (Pv : Nat → St → Hp → Prop) (h0 : Pv 0 σ H)
    (hs : ∀ i σ H, i < n → Pv i σ H → g (.int (hi - i)) σ H fun σ2 H2 => tb { D with nx := Pv (i + 1), ct := Pv (i + 1), bk := D.nx } σ2 H2) (hd : ∀ σ H, Pv n σ H → D.nx σ H) : tForW (Itd hi n) g tb D σ H := by
  refine ⟨fun i m σ H => m = n - i ∧ i ≤ n ∧ Pv i σ H, ⟨n, by simp, Nat.zero_le _, h0⟩, ?_⟩
  rintro i m σ H ⟨rfl, hi', p⟩
  by_cases hlt : i < n
  · refine .inr ⟨hlt, Pv (i + 1), fun σ' H' p' => ⟨n - (i + 1), by omega, rfl, hlt, p'⟩, fun x H' y => ?_⟩
    obtain ⟨e, y⟩ := y
    subst e y
    exact hs i σ _ hlt p
  · have e : i = n := by omega
    subst e
    exact .inl ⟨Nat.le_refl _, hd σ H p⟩
/-- one row more -/
theorem TabOf.push {H0 H H1 : Hp} {a p : Addr} {ps : List Addr} {rs : List (List Int)} {ys : List Int} (h : TabOf H0 H a ps rs) (s0 : Same H0 H) (hp : H p = none) (s : Same H H1) (e : H1 p = some (.lst (ys.map V.int))) : TabOf H0 (upd H1 a (.lst (ps.map V.ref ++ [.ref p]))) a (ps ++ [p]) (rs ++ [ys]) := by
  obtain ⟨h1, h2, h3, h4, h5⟩ := h
  have hpa : p ≠ a := fun z => by rw [z, h2] at hp; cases hp
  refine ⟨h1, by rw [upd_same, List.map_append]; rfl, by rw [List.length_append, List.length_append, h3]; rfl, ?_, fun i b hb => ?_⟩
  · rw [List.nodup_append]
    refine ⟨h4, by simp, fun b hb c hc => ?_⟩
    rw [List.mem_singleton] at hc
    subst hc
    intro z
    subst z
    obtain ⟨j, hj, e⟩ := List.getElem_of_mem hb
    have := (h5 j b (by rw [List.getElem?_eq_getElem hj, e])).2.2
    rw [hp] at this; cases this
  · by_cases hi : i < ps.length
    · rw [List.getElem?_append_left hi] at hb
      obtain ⟨x, y, z⟩ := h5 i b hb
      refine ⟨x, y, ?_⟩
      rw [upd_ne y, s _ _ z, List.getD_eq_getElem?_getD, List.getD_eq_getElem?_getD, List.getElem?_append_left (by omega)]
    · rw [List.getElem?_append_right (by omega)] at hb
      have hi' : i = ps.length := by
        by_cases h0 : i - ps.length = 0
        · omega
        · rw [List.getElem?_eq_none (by simp; omega)] at hb; cases hb
      subst hi'
      rw [Nat.sub_self] at hb
      cases hb
      refine ⟨s0.none hp, hpa, ?_⟩
      rw [upd_ne hpa, e, List.getD_eq_getElem?_getD, List.getElem?_append_right (by omega), h3, Nat.sub_self]
      rfl
end L2

set_option Elab.async false
set_option linter.all false
set_option maxRecDepth 100000
namespace L2
open PySem PySem.Spec PySem.W PyProof.Rows
/-! ### max(xs, default=d) -/
section
variable {prog : Program} {w : World} {A : Around} {R : Result → Shared → Prop} {I : Addr} {fp wr : List Addr} {n : Nat} {P : Nat → Value → Prop} {St : Nat → Heap → Prop} {kw : List (Str × Value)}
end
section
variable {prog : Program} {w : World} {A : Around} {E : Value → Shared → Prop} {s : Shared} {l : Addr} {xs : Array (Int × Tok)}
end
section
variable {X : Cx}
/-- max(e, default=d) -/
def tMaxD (K : PySem.W.Frag) (te : TE) (td : TE) : TE := fun σ H Q => te σ H fun x H1 => td σ H1 fun d H2 => ∃ (p : Addr) (ns : List Int), x = .ref p ∧ SqL K H2 p (ns.map V.int) ∧ (ns = [] → Q d H2) ∧ (ns ≠ [] → ∀ M, M ∈ ns → (∀ a, a ∈ ns → a ≤ M) → Q (.int M) H2)
end
end L2

set_option Elab.async false
set_option linter.all false
set_option maxRecDepth 100000
namespace L2
open PySem PySem.Spec PySem.W PyProof.Rows
/-! ### an exception on its way -/
/-- all but ch is as it was, up to the frames' slots -/
def Noted (fs ch : List Addr) (h h' : Heap) : Prop := ∀ b o, b ∉ ch → h.get? b = some o → (b ∉ fs → h'.get? b = some o) ∧ ∃ sl, h'.get? b = some { o with slots := sl }
theorem Noted.trans {fs ch ch' : List Addr} {h h1 h2 : Heap} (x : Noted fs ch h h1) (y : Noted fs ch' h1 h2) : Noted fs (ch ++ ch') h h2 := fun b o hb e => by
  obtain ⟨a1, sl, a2⟩ := x b o (fun z => hb (List.mem_append_left _ z)) e
  obtain ⟨b1, sl', b2⟩ := y b _ (fun z => hb (List.mem_append_right _ z)) a2
  refine ⟨fun hf => ?_, sl', b2⟩
  exact (y b o (fun z => hb (List.mem_append_right _ z)) (a1 hf)).1 hf
theorem noted_update {fs : List Addr} {h : Heap} {a : Addr} {f : Obj → Obj} : Noted fs [a] h (h.update a f) := fun b o hb e => by
  have hne : b ≠ a := fun z => hb (by rw [z]; exact List.mem_singleton.mpr rfl)
  have e' : (h.update a f).get? b = some o := (Heap.get?_update_other h f (Ne.symm hne)).trans e
  exact ⟨fun _ => e', o.slots, e'⟩
section
variable {M : Model} {A : Around} {E : Value → Shared → Prop} {s : Shared}
theorem FunFrames_noted {fs ch : List Addr} {h h' base : Heap} (x : Noted fs ch h h') : ∀ {l : List Env}, (∀ b ∈ frs l, b ∉ ch) → h.FunFrames base l → h'.FunFrames base l
  | [], _, _ => trivial
  | env :: rest, hc, hl => by
    obtain ⟨hk, ⟨L, o, hf, hn, ho, hd⟩, hr⟩ := hl
    have hL : L ∉ ch := hc L (by show L ∈ (env :: rest).filterMap (·.frame); rw [List.filterMap_cons, hf]; exact List.mem_cons_self)
    obtain ⟨_, sl, e⟩ := x L o hL ho
    refine ⟨hk, ⟨L, _, hf, hn, e, hd⟩, FunFrames_noted x (fun b hb => hc b ?_) hr⟩
    show b ∈ (env :: rest).filterMap (·.frame)
    rw [List.filterMap_cons, hf]
    exact List.mem_cons_of_mem _ hb
/-- the entry of a frame is laid -/
theorem entry_laid {base : Heap} {env : Env} {outer : List Env} {L e : Addr} {oe : Obj} {vs : Array Value} {head : Value} {hadNext : Bool} {Q : Unit → Shared → Prop}
    (hfr : A.frames = some (env :: outer)) (hl : s.heap.FunFrames base (env :: outer)) (hf : env.frame = some L) (he : s.heap.get? e = some oe) (hd : oe.data = .fields vs) (hsz : 1 < vs.size)
    (k : ∀ h' T oT ts, Noted (frs (env :: outer)) [e] s.heap h' → s.heap.get? T = none → s.heap.objs.size ≤ T → T ≠ e → h'.get? e = some (oe.mapFields (·.setIfInBounds 1 (.ref T))) → h'.get? T = some oT → oT.data = .fields ts → ts[3]? = some (rawInt L) → Q () { s with heap := h' }) :
    wpAny M A (do let a ← frameOf env; let pl ← entryPlaceOf L hadNext; let b ← EntryCells.newEntry head a .none (rawInt L) .none pl; setField (.ref e) 1 b) Q E s := by
  have hen : e ∉ (env :: outer).filterMap (·.frame) := fun z => by
    obtain ⟨_, o, ho, hnf⟩ := hl.mem z
    rw [he] at ho
    cases ho
    exact hnf vs hd
  refine wpAny_bind (wpAny_frameOf_fun hfr hl hf fun h1 hs1 => wpAny_bind (wpAny_entryPlaceOf fun pl hpl => ?_))
  unfold EntryCells.newEntry newFields
  refine wpAny_bind (wpAny_newObj_type ?_ (hpl.sizeOk5 _ _ _ _ _))
  have e1 : h1.get? e = some oe := (hs1.2.1 e hen).trans he
  generalize htb : ({ cls := .type "traceback", dict := none, data := .fields ([head, .ref L, .none, rawInt L, .none] ++ (if pl.isEmpty then List.replicate 6 Value.none else pl)).toArray } : Obj) = tb
  have e2 := Heap.get?_push_of_some (h := h1) tb e1
  have hTe : h1.objs.size ≠ e := Nat.ne_of_gt (Heap.lt_size e1)
  have hd3 := Obj.data_mapFields hd (·.setIfInBounds 1 (Value.ref h1.objs.size))
  have tf : tb.isFreed = false := by rw [← htb]; rfl
  refine wpAny_setField e2 hd hsz (k _ h1.objs.size tb _ (fun b o hb ho => ?_) ?_ ?_ hTe (Heap.get?_update_self _ e2 (Obj.isFreed_of_fields hd3)) ((Heap.get?_update_other _ _ (Ne.symm hTe)).trans (Heap.get?_push_size h1 tf)) (by rw [← htb]) ?_)
  · have hbe : b ≠ e := fun z => hb (by rw [z]; exact List.mem_singleton.mpr rfl)
    have up : ∀ u, h1.get? b = some u → ((h1.push tb).update e (Obj.mapFields (·.setIfInBounds 1 (Value.ref h1.objs.size)))).get? b = some u := fun u z => (Heap.get?_update_other _ _ (Ne.symm hbe)).trans (Heap.get?_push_of_some _ z)
    obtain ⟨sl, z⟩ := hs1.2.2 b o ho
    exact ⟨fun hb' => up o ((hs1.2.1 b hb').trans ho), sl, up _ z⟩
  · refine Heap.get?_none_of_le ?_
    rw [hs1.1]; exact Nat.le_refl _
  · rw [hs1.1]; exact Nat.le_refl _
  · rcases hpl with rfl | ⟨_, _, _, _, _, _, _, rfl⟩ <;> simp
/-- the flight behind a frame is open again -/
theorem flight_open {e T : Addr} {oe oT : Obj} {vs ts : Array Value} {Q : Unit → Shared → Prop} (he : s.heap.get? e = some oe) (hd : oe.data = .fields vs) (h1 : vs[1]? = some (.ref T)) (hT : s.heap.get? T = some oT) (hdT : oT.data = .fields ts) (h3 : 3 < ts.size)
    (k : Q () { s with heap := s.heap.update T (Obj.mapFields (·.setIfInBounds 3 .none)) }) : wpAny M A (setFlight (.ref e) none) Q E s := by
  unfold setFlight
  refine wpAny_bind (wpAny_field he hd h1 ?_)
  rw [if_pos (show (Value.ref T != Value.none) = true from by simp)]
  exact wpAny_setField hT hdT h3 k
theorem note_on {base : Heap} {env : Env} {outer : List Env} {L e : Addr} {oe : Obj} {vs : Array Value} {Q : Unit → Shared → Prop}
    (hfr : A.frames = some (env :: outer)) (hl : s.heap.FunFrames base (env :: outer)) (hf : env.frame = some L) (he : s.heap.get? e = some oe) (hd : oe.data = .fields vs) (hsz : 1 < vs.size)
    (hh : vs[1]? = some .none ∨ ∃ T0 oT0 ts0, vs[1]? = some (.ref T0) ∧ T0 ≠ e ∧ s.heap.get? T0 = some oT0 ∧ oT0.data = .fields ts0 ∧ ts0[3]? = some .none)
    (k : ∀ h' T ch oe' oT ts, Noted (frs (env :: outer)) ch s.heap h' → (∀ b ∈ ch, b = e ∨ b = T ∨ vs[1]? = some (.ref b)) → s.heap.objs.size ≤ T → T ≠ e → h'.get? e = some oe' → oe'.cls = oe.cls → oe'.dict = oe.dict → oe'.data = .fields (vs.setIfInBounds 1 (.ref T)) → h'.get? T = some oT → oT.data = .fields ts → ts[3]? = some .none → Q () { s with heap := h' }) :
    wpAny M A (noteFrame (.ref e) env) (fun _ s₂ => wpAny M A (setFlight (.ref e) none) Q E s₂) E s := by
  have fin : ∀ (s1 : Shared) (o1 : Obj) (ch0 : List Addr), s1 = { s with heap := s1.heap } → s.heap.objs.size ≤ s1.heap.objs.size → Noted (frs (env :: outer)) ch0 s.heap s1.heap → (∀ b ∈ ch0, b = e ∨ vs[1]? = some (.ref b)) → s1.heap.get? e = some oe → s1.heap.FunFrames base (env :: outer) →
      ∀ (head : Value) (hadNext : Bool), wpAny M A (do let a ← frameOf env; let pl ← entryPlaceOf L hadNext; let b ← EntryCells.newEntry head a .none (rawInt L) .none pl; setField (.ref e) 1 b) (fun _ s₂ => wpAny M A (setFlight (.ref e) none) Q E s₂) E s1 := by
    intro s1 o1 ch0 es1 hsize hn0 hch he1 hl1 head hadNext
    refine entry_laid hfr hl1 hf he1 hd hsz fun h' T oT ts hn hTn hTs hTe e2 eT dT t3 => ?_
    have d2 := Obj.data_mapFields hd (·.setIfInBounds 1 (Value.ref T))
    have h3 : 3 < ts.size := (Array.getElem?_eq_some_iff.mp t3).1
    refine flight_open (s := { s1 with heap := h' }) e2 d2 (by simp [hsz]) eT dT h3 ?_
    rw [es1]
    have dT3 := Obj.data_mapFields dT (·.setIfInBounds 3 Value.none)
    refine k _ T (ch0 ++ [e] ++ [T]) _ _ _ ((hn0.trans hn).trans noted_update) (fun b hb => ?_) (Nat.le_trans hsize hTs) hTe ((Heap.get?_update_other _ _ hTe).trans e2) (Obj.cls_mapFields _ _) (by unfold Obj.mapFields; split <;> rfl) d2 (Heap.get?_update_self _ eT (Obj.isFreed_of_fields dT3)) dT3 (by simp [h3])
    simp only [List.mem_append, List.mem_singleton] at hb
    rcases hb with (hb | hb) | hb
    · rcases hch b hb with z | z
      · exact .inl z
      · exact .inr (.inr z)
    · exact .inl hb
    · exact .inr (.inl hb)
  unfold noteFrame
  simp only [hf]
  rcases hh with h1 | ⟨T0, oT0, ts0, h1, hTe, hT, hdT, h3⟩
  · refine wpAny_bind (wpAny_field he hd h1 ?_)
    rw [if_neg (by decide)]
    exact fin s oe [] rfl (Nat.le_refl _) (fun b o _ z => ⟨fun _ => z, o.slots, z⟩) (fun b z => nomatch z) he hl _ _
  · refine wpAny_bind (wpAny_field he hd h1 ?_)
    rw [if_pos (show (Value.ref T0 != Value.none) = true from by simp)]
    refine wpAny_bind (wpAny_field hT hdT h3 ?_)
    rw [if_neg (show ¬ ((Value.none == rawInt L) = true) from by simp [rawInt])]
    refine wpAny_bind (wpAny_setField hT hdT (Array.getElem?_eq_some_iff.mp h3).1 ?_)
    have hnf : ∀ b ∈ frs (env :: outer), b ∉ [T0] := fun b hb z => by
      rw [List.mem_singleton] at z
      subst z
      obtain ⟨_, o, ho, hno⟩ := hl.mem hb
      rw [hT] at ho; cases ho
      exact hno ts0 hdT
    refine fin { s with heap := s.heap.update T0 (Obj.mapFields (·.setIfInBounds 3 Value.none)) } oe [T0] rfl ?_ noted_update (fun b hb => .inr (by rw [List.mem_singleton.mp hb]; exact h1)) ((Heap.get?_update_other _ _ hTe).trans he) (FunFrames_noted (fs := frs (env :: outer)) noted_update hnf hl) _ _
    show s.heap.objs.size ≤ (s.heap.update T0 _).objs.size
    simp [Heap.update]
end

/-! ### thrown by a callee -/
theorem ObjOk.lies {P : Program} {w : World} {H : Hp} {h : Heap} {a : Addr} {o : HO} (x : ObjOk P w H h a o) : ∃ ob, h.get? a = some ob := by
  cases o with
  | lst xs => obtain ⟨_, _, _, _, q⟩ := x; exact ⟨_, q⟩
  | tup xs => obtain ⟨_, _, _, _, q, _⟩ := x; exact ⟨_, q⟩
  | dK kvs => obtain ⟨_, _, _, _, _, _, _, q, _⟩ := x; exact ⟨_, q⟩
  | dT kvs => obtain ⟨_, _, _, _, _, _, _, q, _⟩ := x; exact ⟨_, q⟩
  | set S n => obtain ⟨_, _, _, _, q, _⟩ := x; exact ⟨_, q⟩
  | ins C dx fs => obtain ⟨_, _, _, q, _⟩ := x; exact ⟨_, q⟩
  | own y => exact x
  | xd fs => obtain ⟨_, ⟨_, _, _, q, _⟩, _⟩ := x; exact ⟨_, q⟩
  | rng lo hi => obtain ⟨_, _, _, q⟩ := x; exact ⟨_, q⟩
  | frz ob u => exact ⟨_, x.1⟩
  | tbl ps => exact ⟨_, x⟩
  | met f y => exact ⟨_, x⟩
  | ext φ => exact x.2.1
/-- the object of an exception whose flight is open: G bounds what its entry is -/
def Exc (h : Heap) (e : Addr) (cls : Value) (G : Addr → Prop) : Prop := ∃ oe vs, h.get? e = some oe ∧ oe.cls = cls ∧ oe.dict = none ∧ oe.data = .fields vs ∧ 1 < vs.size ∧ G e ∧
  (vs[1]? = some .none ∨ ∃ T oT ts, vs[1]? = some (.ref T) ∧ T ≠ e ∧ G T ∧ h.get? T = some oT ∧ oT.data = .fields ts ∧ ts[3]? = some .none)
structure Thrown (P : Program) (w : World) (l : List Env) (H : Hp) (s : Shared) (e : Addr) (cls : Value) (H' : Hp) (s' : Shared) : Prop where
  os : s'.os = s.os
  bare : AllBare s'.gens
  un : Un (frs l) [] H H' s.heap s'.heap
  hok : HOk P w H' s'.heap
  obj : Exc s'.heap e cls fun b => s.heap.get? b = none ∧ H' b = none
abbrev CXd (P : Program) (w : World) : CXT := fun outer H s E e s' => ∃ ea cls H', e = .ref ea ∧ Thrown P w outer H s ea cls H' s' ∧ E cls none H'
section
variable {X : Cx} {pins : List (Addr × Obj)} {σ : St} {H H' : Hp} {s s' : Shared} {e : Addr} {cls : Value}
theorem Thrown.inv (I : Inv X pins σ H s) (t : Thrown X.prog X.w X.stack H s e cls H' s') : Inv X pins σ H' s' := I.call' (ch := []) t.os t.un t.hok t.bare fun b z => nomatch z
theorem Thrown.noted {M : Model} {E : Value → Shared → Prop} {Q : Unit → Shared → Prop} (I : Inv X pins σ H s) (t : Thrown X.prog X.w X.stack H s e cls H' s') (hs : X.stack = X.env :: X.outer) (hf : X.env.frame = some X.env.locals)
    (k : ∀ s3, Inv X pins σ H' s3 → Thrown X.prog X.w X.stack H s e cls H' s3 → Q () s3) : wpAny M X.A (noteFrame (.ref e) X.env) (fun _ s2 => wpAny M X.A (setFlight (.ref e) none) Q E s2) E s' := by
  have J := t.inv I
  have hst := J.stack
  rw [hs] at hst
  obtain ⟨oe, vs, he, hc, hdi, hd, hsz, hG, hh⟩ := t.obj
  refine note_on (base := X.base) (outer := X.outer) (I.ok.frames.trans (congrArg some hs)) hst hf he hd hsz ?_ fun h' T ch oe' oT ts hn hch hTs hTe e1 c1 i1 d1 e2 d2 t3 => ?_
  · rcases hh with z | ⟨T0, oT0, ts0, z1, z2, _, z4, z5, z6⟩
    · exact .inl z
    · exact .inr ⟨T0, oT0, ts0, z1, z2, z4, z5, z6⟩
  rw [← hs] at hn
  have nch : ∀ b o, s'.heap.get? b = some o → (s.heap.get? b = none ∧ H' b = none → False) → b ∉ ch := fun b o q no z => by
    rcases hch b z with z | z | z
    · rw [z] at no; exact no hG
    · rw [z] at q
      exact absurd (Heap.lt_size q) (Nat.not_lt.mpr hTs)
    · rcases hh with y | ⟨T0, _, _, y1, _, y3, _⟩
      · rw [y] at z; cases z
      · rw [y1] at z; cases z
        exact no y3
  have un' : Un (frs X.stack) [] H H' s.heap h' := by
    have old : ∀ b o, s.heap.get? b = some o → ∃ o', s'.heap.get? b = some o' ∧ b ∉ ch := fun b o q => by
      obtain ⟨o', q'⟩ := t.un.there b o q (by simp)
      exact ⟨o', q', nch b o' q' fun z => by rw [z.1] at q; cases q⟩
    refine ⟨fun b o q n hb hx => ?_, fun b o q n hb hx => ?_, t.un.free, fun b o q hx => ?_, t.un.tups, t.un.frzs, t.un.tbls⟩
    · obtain ⟨o', q', nc⟩ := old b o q
      exact (hn b o nc (t.un.keep b o q n hb hx)).1 hb
    · obtain ⟨o', q', nc⟩ := old b o q
      obtain ⟨sl, q1⟩ := t.un.slot b o q n hb hx
      obtain ⟨sl', q2⟩ := (hn b _ nc q1).2
      exact ⟨sl', q2⟩
    · obtain ⟨o', q', nc⟩ := old b o q
      obtain ⟨sl, q1⟩ := (hn b _ nc q').2
      exact ⟨_, q1⟩
  have hok' : HOk X.prog X.w H' h' := fun a o q => by
    refine (t.hok a o q).stay (fun b u hb z => ?_) (fun _ z => z) fun _ _ z => z
    have hbH : H' b ≠ none := by
      rcases hb with rfl | hb
      · rw [q]; exact fun z => nomatch z
      · rw [hb]; exact fun z => nomatch z
    exact (hn b u (nch b u z fun y => hbH y.2) z).1 fun y => hbH (J.stkFree b y)
  have t' : Thrown X.prog X.w X.stack H s e cls H' { s' with heap := h' } := by
    refine ⟨t.os, t.bare, un', hok', oe', _, e1, c1.trans hc, i1.trans hdi, d1, by simpa using hsz, hG, .inr ⟨T, oT, ts, by simp [hsz], hTe, ⟨?_, J.hok.fresh hTs⟩, e2, d2, t3⟩⟩
    cases q : s.heap.get? T with
    | none => rfl
    | some o =>
      obtain ⟨o', q'⟩ := t.un.there T o q (by simp)
      exact absurd (Heap.lt_size q') (Nat.not_lt.mpr hTs)
  exact k _ (t'.inv I) t'
end
/-- what is thrown at a callee's leaves this def as it came -/
theorem passes_of {P : Program} {w : World} {K : PySem.W.Frag} {mg : Str → Option Value} {base : Heap} {N : List Str} {qual : Str} {scope : Scope} {f : Addr} {cd : Value} {A : Around} {outer : List Env} {s : Shared} {H : Hp} {E : XK} :
    Passes (CXd P w) (cxOf (CXd P w) P w K mg base N qual scope f cd A outer s H E) E := by
  intro pins σ H1 s1 e s' I ⟨ea, cls, H', he, t, q⟩
  subst he
  show wpAny _ _ (leaving _ _) _ _ _
  unfold leaving
  refine wpAny_bind (Thrown.noted (X := cxOf (CXd P w) P w K mg base N qual scope f cd A outer s H E) I t rfl rfl fun s3 J t3 => ?_)
  refine ⟨ea, cls, H', rfl, ⟨J.os, J.bare, J.base, J.hok, ?_⟩, q⟩
  have old : ∀ b, s1.heap.get? b = none → s.heap.get? b = none := fun b z => by
    cases y : s.heap.get? b with
    | none => rfl
    | some o =>
      obtain ⟨o', q'⟩ := I.base.there b o y (fun z => nomatch z)
      rw [z] at q'; cases q'
  obtain ⟨oe, vs, z1, z2, z0, z3, z4, z5, z6⟩ := t3.obj
  refine ⟨oe, vs, z1, z2, z0, z3, z4, ⟨old _ z5.1, z5.2⟩, z6.imp_right fun ⟨T, oT, ts, y1, y2, y3, y4⟩ => ⟨T, oT, ts, y1, y2, ⟨old _ y3.1, y3.2⟩, y4⟩⟩
end L2

set_option Elab.async false
set_option linter.all false
set_option maxRecDepth 100000
namespace L2
open PySem PySem.Spec PySem.W PyProof.Rows
/-! ### own classes of exceptions, below ValueError -/
abbrev veMro : List Value := [.type "ValueError", .type "Exception", .type "BaseException", .type "object"]
def excAll (K : Frag) (C : Addr) : Bool := excIn K C veMro "ValueError.__new__" && findIn K (.ref C) "__getattribute__" == some (some (.builtin "BaseException.__getattribute__")) && findIn K (.ref C) "__getattr__" == some none
  && findIn K (.ref C) "__class__" == some (some (.builtin "object.__class__")) && mroIn K C (.type "BaseException") == some true && mroIn K C (.type "object") == some true
  && specialIn K (.builtin "object.__class__") "__get__" == some (some (.builtin "getset_descriptor.__get__")) && takesIn K (.builtin "object.__class__") == some true
structure ExcFacts (K : Frag) (C : Addr) : Prop where
  ex : excIn K C veMro "ValueError.__new__" = true
  ga : findIn K (.ref C) "__getattribute__" = some (some (.builtin "BaseException.__getattribute__"))
  no : findIn K (.ref C) "__getattr__" = some none
  cl : findIn K (.ref C) "__class__" = some (some (.builtin "object.__class__"))
  be : mroIn K C (.type "BaseException") = some true
  ob : mroIn K C (.type "object") = some true
  gt : specialIn K (.builtin "object.__class__") "__get__" = some (some (.builtin "getset_descriptor.__get__"))
  tk : takesIn K (.builtin "object.__class__") = some true
theorem excFacts {K : Frag} {C : Addr} (h : excAll K C = true) : ExcFacts K C := by
  unfold excAll at h
  simp only [Bool.and_eq_true, beq_iff_eq] at h
  obtain ⟨⟨⟨⟨⟨⟨⟨h1, h2⟩, h3⟩, h4⟩, h5⟩, h6⟩, h7⟩, h8⟩ := h
  exact ⟨h1, h2, h3, h4, h5, h6, h7, h8⟩
section
variable {K : Frag} {C : Addr} {hp : Heap}
theorem ExcFacts.obj (f : ExcFacts K C) (X : K.In hp) : ∃ tl ns nm qn bs hd sn sub ab col dd k0 k1 k2 k3 k5 mN, hp.get? C = some (excClassObj nm qn C ns bs tl hd sn sub ab col dd k0 k1 k2 k3 k5 "ValueError.__new__") ∧ hp.Ns ns mN ∧ mN "__init__" = none ∧ OwnTail hp veMro tl := by
  have z := f.ex
  unfold excIn at z
  cases e : K.lookup C with
  | none => rw [e] at z; cases z
  | some o =>
    rw [e] at z
    split at z
    · rename_i dd cd sl eo
      obtain rfl := Option.some.inj eo
      split at z
      · rename_i C1 tl k0 k1 k2 k3 nid k5 em es
        obtain ⟨cnm, cbs, cmro, cns, cqn, chd, csn, csub, cab, ccol, cdel⟩ := cd
        simp only [Bool.and_eq_true, beq_iff_eq, Bool.not_eq_true'] at z em
        obtain ⟨⟨⟨⟨⟨y1, y2⟩, y3⟩, y4⟩, y5⟩, y6⟩ := z
        subst em y1 y2 y3
        have e2 : sl = #[k0, k1, k2, k3, some (.builtin "ValueError.__new__"), k5] := by cases sl; simp_all
        subst e2
        exact ⟨tl, cns, cnm, cqn, cbs, chd, csn, csub, cab, ccol, dd, k0, k1, k2, k3, k5, _, X _ _ e, Heap.Ns.of_isNs (isNs_of_in X y5), nsMap_none_of_in X y5 y6, tail_of_in X y4⟩
      · cases z
    · cases z
theorem ExcFacts.cls (f : ExcFacts K C) : ∃ cd, clsIn K C = some cd := by
  obtain ⟨cd, h, _⟩ := Option.bind_eq_some_iff.mp f.ob
  exact ⟨cd, h⟩
theorem ExcFacts.kept (f : ExcFacts K C) : ∃ c d cd sl, K.lookup C = some ⟨c, d, .cls cd, sl⟩ := by
  obtain ⟨cd, h⟩ := f.cls
  unfold clsIn at h
  split at h
  · rename_i c' d' cd' sl' ho
    exact ⟨_, _, _, _, ho⟩
  · cases h
end
section
variable {prog : Program} {w : World} {A : Around} {E : Value → Shared → Prop} {s : Shared} {K : Frag} {x C : Addr} {ox : Obj}
theorem exc_check {M : Model} {nv : Value} {Q : Unit → Shared → Prop} (f : ExcFacts K C) (X : K.In s.heap) (I : InstAt s.heap x ox C none) (q : Q () s) : wpAny M A (checkBuiltinCall "BaseException.__getattribute__" ⟨[.ref x, nv], []⟩) Q E s := by
  have h1 : builtinKind "BaseException.__getattribute__" = some .slot := by decide +kernel
  have h2 : splitId "BaseException.__getattribute__" = some ("BaseException", "__getattribute__") := by decide +kernel
  have l0 : Looks M s.heap (isInstance (.ref x) (.type "BaseException")) true := (I.type (M := M)).andThen (looks_mroIn X f.be)
  simp only [checkBuiltinCall, h1, h2]
  obtain ⟨hh, g, d, t, os⟩ := s
  refine wpAny_bind (l0.at ?_)
  have ha := F.args_bexc_ga (.ref x) nv
  (repeat (any_goals (first | assumption | wp_step)))
theorem exc_getattribute {tk : Tok} {R : Result → Shared → Prop} (f : ExcFacts K C) (X : K.In s.heap) (I : InstAt s.heap x ox C none) (q : R (.ok (.ret (.ref C))) s) :
    codeAny (model prog w) A (.call (.builtin "BaseException.__getattribute__") ⟨[.ref x, .str "__class__" tk], []⟩) R s := by
  refine codeAny_call_builtin F.attr_ValueError.ga.plain F.entry_bexc_ga (exc_check f X I ?_)
  obtain ⟨cd, hcd⟩ := f.cls
  have hf : findObj K C none "__class__" = some (.bind (.builtin "getset_descriptor.__get__") (.builtin "object.__class__")) := by
    unfold findObj
    rw [hcd, f.cl]
    simp only [Option.bind_some]
    rw [f.gt]
    simp only [Option.bind_some]
    rw [f.tk]
    rfl
  have L0 := I.type (M := model prog w)
  have L1 := looks_find (M := model prog w) X I hf
  unfold Builtin.«object.__getattribute__»
  obtain ⟨hh, g, d, t, os⟩ := s
  refine wpAny_bind (wpAny_pure (wpAny_bind (wpAny_pure (wpAny_bind (L0.at (wpAny_bind (L1.at ?_)))))))
  show wpAny _ _ (holding [Value.builtin "object.__class__"] (call (.builtin "getset_descriptor.__get__") [.builtin "object.__class__", .ref x, .ref C]) >>= ret) _ _ _
  exact wpAny_bind (wpAny_holding (wpAny_call (class_get (s := ⟨hh, g, d, t, os⟩) (ox := ox) (od := none) X I f.ob (wpAny_pure q))))
theorem exc_class {Q : Option Value → Shared → Prop} (f : ExcFacts K C) (X : K.In s.heap) (I : InstAt s.heap x ox C none) (q : Q (some (.ref C)) { s with toks := s.toks + 1 }) : wpAny (model prog w) A (getAttr? (.ref x) "__class__") Q E s := by
  obtain ⟨hh, g, d, t, os⟩ := s
  have L0 := I.type (M := model prog w)
  have L1 := looks_findIn (M := model prog w) X f.ga
  have L2 := looks_findIn (M := model prog w) X f.no
  have f3 := F.attr_ValueError.ga.bind (.ref x)
  unfold getAttr? getAttrBy? getAttrBy
  refine wpAny_bind (wpAny_mkText (wpAny_bind (wpAny_attempt (wpAny_holding (wpAny_bind (L0.at (wpAny_bind (L1.at ?_))))))))
  have hx2 : (Value.builtin "BaseException.__getattribute__" == Value.builtin "object.__getattribute__") = false := by decide +kernel
  have hx1 : (onTheHeap (Value.ref C) && Value.builtin "BaseException.__getattribute__" == Value.builtin "object.__getattribute__") = false := by rw [hx2]; rfl
  simp only [hx1, Bool.false_eq_true, if_false]
  unfold getAttrByItsOwn hookBefore
  rw [if_pos (show onTheHeap (Value.ref C) = true from rfl)]
  refine wpAny_bind (L2.at (wpAny_bind (wpAny_attempt (wpAny_holding ?_))))
  unfold callGetattribute boundAndCalled
  simp only [Bool.false_and, Bool.false_eq_true, if_false]
  rw [f3]
  refine wpAny_bind (wpAny_pure ?_)
  exact wpAny_call (exc_getattribute (s := ⟨hh, g, d, t + 1, os⟩) f X I (handed_on rfl (wpAny_pure q)))
theorem kitx_exc (f : ExcFacts K C) : KitX K (.ref x) (.ref C) (fun h => ∃ ox, InstAt h x ox C none) where
  ty := fun _ _ _ ⟨_, I⟩ => I.type
  it := fun _ _ X _ => by
    obtain ⟨c, d, cd, sl, ho⟩ := f.kept
    intro A' Q' E' s' k q
    unfold isType loadHead
    exact wpAny_bind (wpAny_loadPart (k _ _ (X _ _ ho)) (wpAny_pure q))
  ne := fun h tp dd its n sl X htp => by
    obtain ⟨c, d, cd, sl, ho⟩ := f.kept
    refine Bool.eq_false_iff.mpr fun q => ?_
    obtain rfl : C = tp := Value.ref.inj (beq_iff_eq.mp q)
    have z := (X _ _ ho).symm.trans htp
    cases z
  ca := fun X ⟨_, I⟩ k => exc_class f X I k
/-- an exception in hand: known by its class -/
def ExcO (e C : Addr) : HO := .ext fun h => ∃ ox, InstAt h e ox C none
end
section
variable {X : Cx} {K : PySem.W.Frag}
def rIsx (K : PySem.W.Frag) : List V → Hp → VK → Prop := fun xs H Q => ∃ e C c b, xs = [.ref e, c] ∧ H e = some (ExcO e C) ∧ ExcFacts K C ∧ (∀ u, RelV c u → PySem.W.kitOne K (.ref C) u = some b) ∧ Q (.bl b) H
theorem call_isx : CallR X (.builtin "isinstance") (rIsx X.K) := by
  intro pins s σ H xs us Q I r h
  obtain ⟨e, C, c, b, rfl, he, f, k, q⟩ := h
  obtain ⟨u, w', rfl, r1, r2⟩ := vals2 r
  cases (show u = Value.ref e from r1)
  have ho := (I.hok e _ he).1
  exact PySem.W.kia_one (kitx_exc f) I.kIn ho (k w' r2) (fun z => nomatch z) fun tk => ⟨.bl b, H, I.tok _, rfl, q⟩
theorem call_isxK (hK : X.K = K := by rfl) : CallR X (.builtin "isinstance") (rIsx K) := by subst hK; exact call_isx
end
/-! ### raise -/
section
variable {X : Cx} {K : PySem.W.Frag} {E : XK} {C : Addr} {x : Str} {p cpos pos : Pos} {e : Expr} {es : List Expr} {ta : TA}
def tRaise (C : Addr) (E : XK) (ta : TA) : TS := fun _ σ H => ta σ H fun vs H1 => vs.length ≤ 8 ∧ E (.ref C) none H1
theorem ps_raise (hx : Passes (CXd X.prog X.w) X E) (hc : X.calm = true) (hg : Gl X x) (hm : X.mg x = some (.ref C)) (f : ExcFacts X.K C) (ha : PA X (e :: es) ta) (hdb : (x == ("__debug__" : Str)) = false := by decide)
    (he : starEach (e :: es) X.env = (false, eval e X.env) :: starEach es X.env := by rfl) (hpl : (backTo cpos (starEach es X.env)).any (·.1) = false := by rfl) :
    PS X (.Raise (some (.Call (.Name x p) (e :: es) [] cpos)) none pos) (tRaise C E ta) := by
  intro pins s σ H D I h
  obtain ⟨tl, ns, nm, qn, bs, hd, sn, sub, ab, col, dd, k0, k1, k2, k3, k5, mN, hC, hN, hni, T⟩ := f.obj (X := I.mod.kin)
  refine wpAny_Raise_call_subT (C := C) (nm := nm) (q := qn) (N := ns) (bs := bs) (bm := tl) (hdct := hd) (sn := sn) (sub := sub) (ab := ab) (col := col) (dd := dd) (k0 := k0) (k1 := k1) (k2 := k2) (k3 := k3) (k5 := k5)
    F.excBase_ValueError (mN := mN) (T.hasType F.excBase_ValueError.hasBase) (I.ok.hd hc) ?_ hni (ld_glob I hg hm ⟨rfl, ?_⟩ hdb)
  · rw [he]
    show (false || (backTo cpos (starEach es X.env)).any (·.1)) = false
    rw [hpl]; rfl
  have h0 := ha cpos pins s σ H _ I h
  rw [he] at h0 ⊢
  refine Calls.evalArgs_plain (wpAny_mono h0 (fun us s2 ⟨vs, H1, I1, r, q⟩ => ?_) fun _ _ y => y)
  refine ⟨rfl, ?_, I1.bk _ _ hC, hN.keeps I1.bk, T.keeps I1.bk, fun h' ea m => ?_⟩
  · show us.length ≤ sizeLine
    rw [← r.length]
    exact Nat.le_trans q.1 (by rw [sizeLine_eq]; decide)
  · refine hx pins σ H1 s2 _ _ I1 ⟨ea, .ref C, H1, rfl, ⟨rfl, I1.bare, Un.kept m.keeps, I1.hok.kept m.keeps, ?_⟩, q.2⟩
    obtain ⟨t, ht, _, _⟩ := m.there
    refine ⟨_, _, ht, rfl, rfl, rfl, by simp, ⟨m.new, ?_⟩, .inl rfl⟩
    cases z : H1 ea with
    | none => rfl
    | some o =>
      obtain ⟨ob, y⟩ := (I1.hok ea o z).lies
      rw [m.new] at y; cases y
end
end L2

set_option Elab.async false
set_option linter.all false
set_option maxRecDepth 100000
namespace L2
open PySem PySem.Spec PySem.W PyProof.Rows
/-! ### defs that may throw -/
def HasX (P : Program) (w : World) (K : PySem.W.Frag) (mg : Str → Option Value) (base : Heap) (x : Str) (ps : List Str) (k : Nat) (sp : Sp) : Prop :=
  ∃ f fd, FnOk P w K mg base (CXd P w) k f fd ps sp ∧ Binds K fd ps [] ∧ PySem.W.keepIn K (.ref f) = true ∧ mg x = some (.ref f)
theorem HasX.mono {P : Program} {w : World} {K : PySem.W.Frag} {mg : Str → Option Value} {base : Heap} {x : Str} {ps : List Str} {j k : Nat} {sp : Sp} (h : HasX P w K mg base x ps j sp) (hk : j ≤ k) : HasX P w K mg base x ps k sp :=
  let ⟨f, fd, F, b, kp, m⟩ := h; ⟨f, fd, F.mono hk, b, kp, m⟩
theorem DefAt.hasX {P : Program} {w : World} {K : PySem.W.Frag} {mg : Str → Option Value} {base : Heap} {x : Str} {st : Stmt} {ps N : List Str} {k : Nat} {sp : Sp} (D : DefAt K mg x st ps) (S : FnScope N ps (defScope st)) (len : ∀ vs H Q E, sp vs H Q E → vs.length = ps.length)
    (hbody : ∀ (f : Addr) (cdv : Value) (A : Around) (outer : List Env) (s : Shared) (H : Hp) (vs : List V) (Q : VK) (E : XK), Room k (A.deeper (envOfC x (defScope st) s.heap.objs.size f cdv)) → sp vs H Q E →
      ∃ t, PSs (cxOf (CXd P w) P w K mg base N x (defScope st) f cdv A outer s H E) (defBody st) t ∧ t { nx := fun _ H' => Q .non H', rt := Q } (start N vs) H) : HasX P w K mg base x ps (k + 1) sp := by
  obtain ⟨f, fd, F, b, m⟩ := D
  obtain ⟨oc, od, kV, doc, pm, an, cdv, ct, osl, rfl, lk, hcd⟩ := F.ex
  exact ⟨f, _, fn_of lk hcd S len fun A outer s H vs Q E hr hsp => hbody f cdv A outer s H vs Q E hr hsp, b, F.kp, m⟩
theorem DefAt.neverX {P : Program} {w : World} {K : PySem.W.Frag} {mg : Str → Option Value} {base : Heap} {x : Str} {st : Stmt} {ps : List Str} {k : Nat} {sp : Sp} (D : DefAt K mg x st ps) (no : ∀ vs H Q E, ¬ sp vs H Q E) : HasX P w K mg base x ps k sp := by
  obtain ⟨f, fd, F, b, m⟩ := D
  exact ⟨f, fd, ⟨fun vs H Q E h => absurd h (no vs H Q E), fun A outer s H args us vs Q E _ _ _ _ h => absurd h (no vs H Q E)⟩, b, F.kp, m⟩
theorem pe_callX {X : Cx} {k k' : Nat} {ps : List Str} {sp : Sp} {x : Str} {p pos : Pos} {e : Expr} {es : List Expr} {t : TA} {E : XK} (h : HasX X.prog X.w X.K X.mg X.base x ps k sp) (hx : Passes (CXd X.prog X.w) X E) (hr : Room k' X.A) (hg : Gl X x) (ha : PA X (e :: es) t) (hk : k ≤ k' := by omega)
    (hdb : (x == ("__debug__" : Str)) = false := by decide) (he : starEach (e :: es) X.env = (false, eval e X.env) :: starEach es X.env := by rfl) (hpl : (backTo pos (starEach es X.env)).any (·.1) = false := by rfl) :
    PE X (.Call (.Name x p) (e :: es) [] pos) (tCall sp [] E t) := by
  obtain ⟨f, fd, F, b, kp, m⟩ := h
  exact pe_call F (hr.mono hk) hg m kp b .nil hx ha hdb he hpl
/-! ### the body of a try: calls whose values are dropped -/
abbrev TQ := St → Hp → XK → (Hp → Prop) → Prop
def QP (X : Cx) (pins : List (Addr × Obj)) (σ : St) (Q : Hp → Prop) (f : Flow) (s' : Shared) : Prop := f = .next ∧ ∃ H', Inv X pins σ H' s' ∧ Q H'
def QX (X : Cx) (pins : List (Addr × Obj)) (σ : St) (E : XK) (e : Value) (s' : Shared) : Prop := ∃ H1 s1, Inv X pins σ H1 s1 ∧ CXd X.prog X.w X.stack H1 s1 E e s'
def PSq (X : Cx) (st : List Stmt) (t : TQ) : Prop := ∀ (pins : List (Addr × Obj)) (s : Shared) (σ : St) (H : Hp) (E : XK) (Q : Hp → Prop), Inv X pins σ H s → t σ H E Q →
  wpAny (model X.prog X.w) X.A (execs st X.env) (QP X pins σ Q) (QX X pins σ E) s
section
variable {X : Cx} {k k' : Nat} {ps : List Str} {sp : Sp} {x : Str} {p pos cpos : Pos} {e : Expr} {es : List Expr} {t : TA} {rest : List Stmt} {tq : TQ}
def tqCall (sp : Sp) (t : TA) (u : TQ) : TQ := fun σ H E Q => t σ H fun vs H1 => sp vs H1 (fun _ H2 => u σ H2 E Q) E
def tqNil : TQ := fun _ H _ Q => Q H
theorem psq_nil : PSq X [] tqNil := fun _ _ σ H _ _ I h => wpAny_execs_nil ⟨rfl, H, I, h⟩
theorem psq_call (h : HasX X.prog X.w X.K X.mg X.base x ps k sp) (hr : Room k' X.A) (hg : Gl X x) (ha : PA X.nox (e :: es) t) (hrest : PSq X rest tq) (hk : k ≤ k' := by omega)
    (hdb : (x == ("__debug__" : Str)) = false := by decide) (he : starEach (e :: es) X.env = (false, eval e X.env) :: starEach es X.env := by rfl) (hpl : (backTo cpos (starEach es X.env)).any (·.1) = false := by rfl)
    (hs : swapsWith (.Call (.Name x p) (e :: es) [] cpos) none pos.line X.env = pure false := by rfl) : PSq X (.Expr (.Call (.Name x p) (e :: es) [] cpos) pos :: rest) (tqCall sp t tq) := by
  intro pins s σ H E Q I h0
  obtain ⟨f, fd, F, b, kp, m⟩ := h
  refine wpAny_execs_cons (wpAny_Expr_any (wpAny_Call_Name_kw (ld_glob I hg m ?_ hdb)) I.quiet hs)
  have h1 : wpAny (model X.prog X.w) X.A (spliced (backTo cpos (starEach (e :: es) X.env))) (AP X pins σ fun vs H1 => sp vs H1 (fun _ H2 => tq σ H2 E Q) E) (QX X pins σ E) s :=
    wpAny_mono (ha cpos pins s σ H _ (I.wish _) h0) (fun us s1 ⟨vs, H1, I1, r, q⟩ => ⟨vs, H1, I1.unwish, r, q⟩) fun _ _ z => False.elim z
  refine PySem.W.callWith_K (h₀ := X.base) I.ok.mod.kin kp (thn h1 fun us s1 ⟨vs, H1, I1, r, q⟩ => ⟨I1.kIn, ?_⟩) he hpl
  have hl : (us ++ []).length = ps.length := by rw [List.append_nil, ← r.length]; exact F.len _ _ _ _ q
  have hb := b s1 us I1.kIn hl
  rw [List.append_nil] at hb
  refine wpAny_call (codeAny_mono (F.run X.A X.stack s1 H1 ⟨us, []⟩ us vs _ E (hr.mono hk) I1.env0 hb r q) fun r s' hq => ?_)
  cases r with
  | error e => exact ⟨H1, s1, I1, hq⟩
  | ok fl =>
    cases fl with
    | ret u =>
      obtain ⟨v, H2, I2, _, q2⟩ := I1.after hq
      exact hrest pins s' σ H2 E Q I2 q2
    | next => exact False.elim hq
    | brk => exact False.elim hq
    | cont => exact False.elim hq
end
/-! ### what is caught -/
def Held (X : Cx) (pins : List (Addr × Obj)) (H : Hp) (s : Shared) (e : Addr) (cls : Value) : Prop := Exc s.heap e cls fun b => X.s₀.heap.get? b = none ∧ H b = none ∧ ∀ p ∈ X.pn ++ pins, p.1 ≠ b
abbrev Cx.held (X : Cx) (e : Addr) : Cx := { X with A := X.A.mark (some (.ref e)), calm := false, xe := fun _ _ => False }
section
variable {X : Cx} {pins : List (Addr × Obj)} {σ : St} {H : Hp} {s : Shared} {e : Addr} {cls : Value}
theorem Cx.Ok.hold (ok : X.Ok) (e : Addr) : (X.held e).Ok := ⟨ok.mod, ok.kind, ok.glob, ok.blt, ok.above, ok.inj, ok.has, ok.cab, fun z => Bool.noConfusion z, ok.frames, ok.stk, ok.exf, ok.bs, ok.bsz, ok.noex, ok.exfs, ok.funs, ok.frf⟩
theorem Inv.hold (I : Inv X pins σ H s) (e : Addr) : Inv (X.held e) pins σ H s := ⟨I.ok.hold e, I.os, I.bare, I.base, I.loc, I.cell, I.free, I.freeC, I.pin, I.hok, I.len⟩
theorem Inv.unhold (ok : X.Ok) (I : Inv (X.held e) pins σ H s) : Inv X pins σ H s := ⟨ok, I.os, I.bare, I.base, I.loc, I.cell, I.free, I.freeC, I.pin, I.hok, I.len⟩
/-- an exception in hand is known to the heap's map from now on -/
theorem Inv.track {C : Addr} (I : Inv X pins σ H s) (h : Held X pins H s e (.ref C)) : Inv X pins σ (upd H e (ExcO e C)) s := by
  obtain ⟨oe, vs, he, hc, hdi, hd, hsz, ⟨g1, g2, g3⟩, _⟩ := h
  have nl : e ≠ X.env.locals := fun z => by
    obtain ⟨m, ⟨o, es, ep, ho, hdd, _⟩, _⟩ := I.loc
    rw [← z, he] at ho
    obtain rfl := Option.some.inj ho
    rw [hd] at hdd; cases hdd
  have nc : ∀ x c, X.env.cells.lookup x = some c → c ≠ e := fun x c q z => by
    obtain ⟨v, o, ho, hdd⟩ := I.cell x c q
    rw [z, he] at ho
    obtain rfl := Option.some.inj ho
    rw [hd] at hdd; cases hdd
  have ne : ∀ b o, X.s₀.heap.get? b = some o → b ≠ e := fun b o q z => by rw [z, g1] at q; cases q
  have keep : ∀ b o, H b = some o → upd H e (ExcO e C) b = some o := fun b o q => upd_keep q g2
  refine ⟨I.ok, I.os, I.bare, ⟨I.base.keep, I.base.slot, fun b o q n hx => ?_, I.base.there, fun b xs q => keep _ _ (I.base.tups b xs q), fun b o u q => keep _ _ (I.base.frzs b o u q), fun b ps q => ?_⟩, I.loc, I.cell, ?_, fun x c q => ?_, fun p hp => ?_, fun b o q => ?_, I.len⟩
  · rw [upd_ne (ne b o q)]; exact I.base.free b o q n hx
  · obtain ⟨m, q'⟩ := I.base.tbls b ps q
    exact ⟨m, keep _ _ q'⟩
  · rw [upd_ne (Ne.symm nl)]; exact I.free
  · rw [upd_ne (nc x c q)]; exact I.freeC x c q
  · obtain ⟨z1, z2, z3⟩ := I.pin p hp
    refine ⟨z1, ?_, z3⟩
    rw [upd_ne (g3 p hp)]; exact z2
  · by_cases hb : b = e
    · subst hb
      rw [upd_same] at q
      obtain rfl := Option.some.inj q
      refine ⟨⟨oe, he, hc, ?_, ?_⟩, ⟨oe, he⟩, fun h1 h2 ⟨o1, i1⟩ k => ⟨o1, k _ i1.at_, i1.cls, i1.no, ?_⟩⟩
      · unfold notCls; rw [hd]
      · rw [hdi]; trivial
      · have z := i1.dict
        cases y : o1.dict with
        | none => trivial
        | some dx => rw [y] at z; exact z.elim
    · rw [upd_ne hb] at q
      refine (I.hok b o q).stay (fun _ _ _ z => z) (fun c z => keep _ _ z) fun c xs z => keep _ _ z
/-- the flight is shut already -/
theorem flight_shut {M : Model} {A : Around} {E : Value → Shared → Prop} {G : Addr → Prop} {Q : Unit → Shared → Prop} (h : Exc s.heap e cls G) (k : ∀ h', (∀ b o, s.heap.get? b = some o → h'.get? b = some o) → Q () { s with heap := h' }) : wpAny M A (setFlight (.ref e) none) Q E s := by
  obtain ⟨oe, vs, he, hc, hdi, hd, hsz, hG, hh⟩ := h
  rcases hh with z | ⟨T, oT, ts, z1, z2, _, z4, z5, z6⟩
  · unfold setFlight
    refine wpAny_bind (wpAny_field he hd z ?_)
    rw [if_neg (by decide)]
    exact wpAny_pure (k s.heap fun _ _ y => y)
  · have h3 : 3 < ts.size := (Array.getElem?_eq_some_iff.mp z6).1
    refine flight_open he hd z1 z4 z5 h3 (k _ fun b o y => ?_)
    by_cases hb : b = T
    · subst hb
      rw [z4] at y
      obtain rfl := Option.some.inj y
      have e1 : Obj.mapFields (·.setIfInBounds 3 Value.none) oT = oT := by
        obtain ⟨c0, d0, dt0, sl0⟩ := oT
        have z5' : dt0 = .fields ts := z5
        subst z5'
        show (⟨c0, d0, .fields (ts.setIfInBounds 3 Value.none), sl0⟩ : Obj) = _
        have : ts.setIfInBounds 3 Value.none = ts := by
          apply Array.ext_getElem?
          intro i
          rw [Array.getElem?_setIfInBounds]
          by_cases hi : 3 = i
          · subst hi; rw [if_pos rfl, if_pos h3, z6]
          · rw [if_neg hi]
        rw [this]
      exact (Heap.get?_update_self _ z4 (by rw [e1]; exact (Heap.get?_some_iff.mp z4).2)).trans (by rw [e1])
    · exact (Heap.get?_update_other _ _ (Ne.symm hb)).trans y
/-- the name of what was caught goes -/
theorem name_goes {M : Model} {A : Around} {E : Value → Shared → Prop} {n : Str} {i : Nat} {pos : Pos} {Q : Unit → Shared → Prop} (I : Inv X pins σ H s) (hN : X.N.Nodup) (hi : X.N[i]? = some n) (hl : X.env.scope.names.lookup n = some .local)
    (k : ∀ s', Inv X pins (σ.set i none) H s' → Q () s') : wpAny M A (do bindName X.env n .none; unbindBehindTheSuite X.env n pos) Q E s := by
  obtain ⟨m, hn, hlo⟩ := id I.loc
  have hcls : (X.env.scope.kind == .class || (X.env.scope.kind == .module && X.env.locals != X.env.globals)) = false := by rw [I.ok.kind]; rfl
  have hiσ : i < σ.length := by rw [I.len]; exact (List.getElem?_eq_some_iff.mp hi).1
  refine wpAny_nameGoes_keeps hl hn hcls fun h' v hn' hs => ?_
  obtain ⟨oL, _, _, hoL, _⟩ := id hn
  have below : ∀ b o, X.s₀.heap.get? b = some o → b ≠ X.env.locals := fun b o q => Nat.ne_of_lt (Nat.lt_of_lt_of_le (Heap.lt_size q) I.ok.above)
  refine k _ ⟨I.ok, I.os, I.bare, ⟨fun b o q n hb hx => (hs.2 b (below b o q)).trans (I.base.keep b o q n hb hx), fun b o q n hb hx => ?_, I.base.free, fun b o q hx => ?_, I.base.tups, I.base.frzs, I.base.tbls⟩, ⟨_, hn', fun j y v' e1 e2 e3 => ?_⟩, fun y c q => ?_, I.free, I.freeC, fun p hp => ?_, fun b ob q => ?_, by simpa using I.len⟩
  · obtain ⟨sl, q1⟩ := I.base.slot b o q n hb hx
    exact ⟨sl, (hs.2 b (below b o q)).trans q1⟩
  · obtain ⟨o', q1⟩ := I.base.there b o q hx
    exact ⟨o', (hs.2 b (below b o q)).trans q1⟩
  · by_cases hj : j = i
    · subst hj
      rw [List.getElem?_set_self hiσ] at e2
      cases e2
    · rw [List.getElem?_set_ne (Ne.symm hj)] at e2
      obtain ⟨u', r', q⟩ := hlo j y v' e1 e2 e3
      refine ⟨u', r', ?_⟩
      rcases q with ⟨k1, q1⟩ | ⟨k1, c, q1, z⟩
      · refine .inl ⟨k1, ?_⟩
        have ny : y ≠ n := fun z => hj (nodup_ix hN e1 (z ▸ hi))
        simp [ny, q1]
      · exact .inr ⟨k1, c, q1, z.sameBut hs (I.cne y c q1)⟩
  · obtain ⟨w', z⟩ := I.cell y c q
    exact ⟨w', z.sameBut hs (I.cne y c q)⟩
  · obtain ⟨q, n, ne, nf, d⟩ := I.pin p hp
    exact ⟨(hs.2 p.1 ne).trans q, n, ne, nf, d⟩
  · refine (I.hok b ob q).stay (fun c w' hc z => (hs.2 c ?_).trans z) (fun _ z => z) fun _ _ z => z
    rintro rfl
    rcases hc with rfl | hc
    · rw [I.free] at q; cases q
    · rw [I.free] at hc; cases hc
end
/-! ### the handlers -/
abbrev TH := Value → TS
def PH (X : Cx) (hs : List ExceptHandler) (th : TH) : Prop := ∀ (pins : List (Addr × Obj)) (s : Shared) (σ : St) (H : Hp) (D : Ends) (e : Addr) (cls : Value), Inv X pins σ H s → Held X pins H s e cls → th cls D σ H →
  wpAny (model X.prog X.w) X.A (handleBy (.ref e) X.env hs) (SP X pins D) X.xe s
def thNil : TH := fun _ _ _ _ => False
def endAs (i : Nat) (D : Ends) : Ends := ⟨fun σ H => D.nx (σ.set i none) H, D.rt, fun σ H => D.bk (σ.set i none) H, fun σ H => D.ct (σ.set i none) H⟩
def thCons (K : PySem.W.Frag) (C : Addr) (i : Nat) (ts : TS) (th : TH) : TH := fun cls D σ H => (exmOne K cls (.ref C) = some false ∧ th cls D σ H) ∨
  ∃ c, cls = .ref c ∧ exmOne K (.ref c) (.ref C) = some true ∧ ∀ e, H e = none → ts (endAs i D) (σ.set i (some (.ref e))) (upd H e (ExcO e c))
section
variable {X : Cx} {hs : List ExceptHandler} {th : TH} {C : Addr} {x n : Str} {i : Nat} {p pos : Pos} {b0 : Stmt} {suite : List Stmt} {ts : TS}
theorem ph_nil : PH X [] thNil := fun _ _ _ _ _ _ _ _ _ h => h.elim
theorem SP.goes {pins : List (Addr × Obj)} {e : Addr} {D : Ends} {f : Flow} {s : Shared} {M : Model} {A : Around} {E : Value → Shared → Prop} (ok : X.Ok) (hN : X.N.Nodup) (hi : X.N[i]? = some n) (hl : X.env.scope.names.lookup n = some .local)
    (h : SP (X.held e) pins (endAs i D) f s) : wpAny M A (do bindName X.env n .none; unbindBehindTheSuite X.env n pos) (fun _ s' => SP X pins D f s') E s := by
  cases f with
  | next => obtain ⟨σ', H', I, q⟩ := h; exact name_goes (I.unhold ok) hN hi hl fun s' I' => ⟨_, H', I', q⟩
  | brk => obtain ⟨σ', H', I, q⟩ := h; exact name_goes (I.unhold ok) hN hi hl fun s' I' => ⟨_, H', I', q⟩
  | cont => obtain ⟨σ', H', I, q⟩ := h; exact name_goes (I.unhold ok) hN hi hl fun s' I' => ⟨_, H', I', q⟩
  | ret u => obtain ⟨v, σ', H', I, r, q⟩ := h; exact name_goes (I.unhold ok) hN hi hl fun s' I' => ⟨v, _, H', I', r, q⟩
theorem ph_cons (hg : Gl X x) (hm : X.mg x = some (.ref C)) (hN : X.N.Nodup) (hi : X.N[i]? = some n) (hl : X.env.scope.names.lookup n = some .local) (hsu : ∀ e, PSs (X.held e) (b0 :: suite) ts) (hrest : PH X hs th) (hdb : (x == ("__debug__" : Str)) = false := by decide) :
    PH X (.ExceptHandler (some (.Name x p)) (some n) (b0 :: suite) pos :: hs) (thCons X.K C i ts th) := by
  intro pins s σ H D e cls I hh q
  refine wpAny_handleBy_cons (codeAny_handlers_test (ld_glob (X := X.held e) (I.hold e) hg hm ?_ hdb)) (by intro z; cases z)
  have LT : Looks (model X.prog X.w) s.heap (typeOf (.ref e)) cls := by
    obtain ⟨oe, vs, he, hc, _⟩ := hh
    rw [← hc]
    exact (Looks.ld he).andThen .now
  rcases q with ⟨no, q⟩ | ⟨c, rfl, yes, q⟩
  · exact (exm_one I.kIn LT no).here (hrest pins s σ H D e cls I hh q)
  · refine (exm_one I.kIn LT yes).here (codeAny_handlers_suite_as (flight_shut hh fun h' k => ?_))
    have I1 : Inv X pins σ H { s with heap := h' } := I.kept (t' := s.toks) k
    have hh1 : Held X pins H { s with heap := h' } e (.ref c) := by
      obtain ⟨oe, vs, z1, z2, z3, z4, z5, z6, z7⟩ := hh
      exact ⟨oe, vs, k _ _ z1, z2, z3, z4, z5, z6, z7.imp_right fun ⟨T, oT, ts, y1, y2, y3, y4, y5⟩ => ⟨T, oT, ts, y1, y2, y3, k _ _ y4, y5⟩⟩
    refine store_ok (X := X.held e) ((I1.track hh1).hold e) hN hi (.inl hl) (show RelV (.ref e) (.ref e) from rfl) (fun s2 I2 => ?_) (.inr hl)
    refine wpAny_mono (hsu e pins s2 _ _ (endAs i D) I2 (q e (by obtain ⟨_, _, _, _, _, _, _, ⟨_, z, _⟩, _⟩ := hh; exact z))) (fun f s3 q3 => ?_) fun _ _ z => False.elim z
    exact SP.goes I.ok hN hi hl q3
end
/-- try, with handlers -/
def tTry (tq : TQ) (th : TH) : TS := fun D σ H => tq σ H (fun cls _ H' => th cls D σ H') fun H' => D.nx σ H'
theorem ps_try {X : Cx} {body : List Stmt} {h0 : ExceptHandler} {hs : List ExceptHandler} {pos : Pos} {tq : TQ} {th : TH} (hb : PSq X body tq) (hh : PH X (h0 :: hs) th) (hst : X.stack = X.env :: X.outer := by rfl) (hf : X.env.frame = some X.env.locals := by rfl) (hex : X.ex = [] := by rfl) :
    PS X (.Try body (h0 :: hs) [] [] pos) (tTry tq th) := by
  intro pins s σ H D I q
  refine wpAny_Try_except (wpAny_mono (hb pins s σ H _ _ I q) (fun f s1 ⟨ef, H1, I1, q1⟩ => ?_) fun v s1 ⟨H1, s0, I0, ea, cls, H', ev, t, qe⟩ => ?_)
  · subst ef
    exact wpAny_execs_nil ⟨σ, H1, I1, q1⟩
  · subst ev
    refine t.noted I0 hst hf fun s3 I3 t3 => ?_
    refine hh pins s3 σ H' D ea cls I3 ?_ qe
    have old : ∀ b, s0.heap.get? b = none → X.s₀.heap.get? b = none ∧ ∀ p ∈ X.pn ++ pins, p.1 ≠ b := fun b z => by
      refine ⟨?_, fun p hp y => ?_⟩
      · cases y : X.s₀.heap.get? b with
        | none => rfl
        | some o =>
          obtain ⟨o', q'⟩ := I0.base.there b o y (by rw [hex]; exact fun z => nomatch z)
          rw [z] at q'; cases q'
      · have := (I0.pin p hp).1
        rw [y, z] at this; cases this
    obtain ⟨oe, vs, z1, z2, z3, z4, z5, z6, z7⟩ := t3.obj
    exact ⟨oe, vs, z1, z2, z3, z4, z5, ⟨(old _ z6.1).1, z6.2, (old _ z6.1).2⟩, z7.imp_right fun ⟨T, oT, ts, y1, y2, y3, y4⟩ => ⟨T, oT, ts, y1, y2, ⟨(old _ y3.1).1, y3.2, (old _ y3.1).2⟩, y4⟩⟩
end L2

set_option Elab.async false
set_option linter.all false
set_option maxRecDepth 100000
namespace L2
open PySem PySem.Spec PySem.W PyProof.Rows
/-! ### the classes of the text: the first is the one that the others lie below -/
def errTab (K : PySem.W.Frag) (l : List Addr) : Bool := (l.all fun c => excAll K c && kitOne K (.ref c) (.type "ValueError") == some true) &&
  (List.range l.length).all fun i => (List.range l.length).all fun j => match l[i]?, l[j]? with
    | some c, some d => kitOne K (.ref c) (.ref d) == some (decide (i = j ∨ j = 0)) && exmOne K (.ref c) (.ref d) == some (decide (i = j ∨ j = 0))
    | _, _ => true
structure ErrAt (K : PySem.W.Frag) (mg : Str → Option Value) (x : Str) (C : Addr) : Prop where
  m : mg x = some (.ref C)
  f : ExcFacts K C
  ve : kitOne K (.ref C) (.type "ValueError") = some true
section
variable {K : PySem.W.Frag} {mg : Str → Option Value} {x : Str} {l : List Addr} {i j : Nat} {c d : Addr}
theorem err_at (h : errTab K l = true) (m : mg x = some (.ref c)) (hi : l[i]? = some c) : ErrAt K mg x c := by
  unfold errTab at h
  have h1 := List.all_eq_true.mp (Bool.and_eq_true_iff.mp h).1 c (List.mem_of_getElem? hi)
  have h2 := Bool.and_eq_true_iff.mp h1
  exact ⟨m, excFacts h2.1, beq_iff_eq.mp h2.2⟩
theorem err_two (h : errTab K l = true) (hi : l[i]? = some c) (hj : l[j]? = some d) : kitOne K (.ref c) (.ref d) = some (decide (i = j ∨ j = 0)) ∧ exmOne K (.ref c) (.ref d) = some (decide (i = j ∨ j = 0)) := by
  unfold errTab at h
  have h1 := List.all_eq_true.mp (Bool.and_eq_true_iff.mp h).2 i (List.mem_range.mpr (List.getElem?_eq_some_iff.mp hi).1)
  have h2 := List.all_eq_true.mp h1 j (List.mem_range.mpr (List.getElem?_eq_some_iff.mp hj).1)
  rw [hi, hj] at h2
  have h3 := Bool.and_eq_true_iff.mp h2
  exact ⟨beq_iff_eq.mp h3.1, beq_iff_eq.mp h3.2⟩
/-- class number i caught by class number j; the answer to isinstance -/
theorem err_exm (h : errTab K l = true) (i j : Nat) (hi : l[i]? = some c) (hj : l[j]? = some d) {b : Bool} (e : decide (i = j ∨ j = 0) = b := by rfl) : exmOne K (.ref c) (.ref d) = some b := e ▸ (err_two h hi hj).2
theorem err_isi (h : errTab K l = true) (i j : Nat) (hi : l[i]? = some c) (hj : l[j]? = some d) {b : Bool} (e : decide (i = j ∨ j = 0) = b := by rfl) : ∀ u, RelV (.ref d) u → kitOne K (.ref c) u = some b := fun u r => by
  cases (show u = Value.ref d from r)
  exact e ▸ (err_two h hi hj).1
theorem err_ve (e : ErrAt K mg x c) : ∀ u, RelV (.ty "ValueError") u → kitOne K (.ref c) u = some true := fun u r => by
  cases (show u = Value.type "ValueError" from r)
  exact e.ve
end
section
variable {X : Cx}
theorem PS.nox {st : Stmt} {t : TS} (h : PS X.nox st t) : PS X st t := fun pins s σ H D I hw =>
  wpAny_mono (h pins s σ H D (I.wish _) hw) (fun _ _ q => q.unwish) fun _ _ z => False.elim z
end
end L2

set_option Elab.async false
set_option linter.all false
set_option maxRecDepth 100000
namespace L2
open PySem PySem.Spec PySem.W PyProof.Rows
/-! ### defs that are called while an exception is held, and never throw -/
structure RoomM (k : Nat) (A : Around) : Prop where
  dp : A.depth + 3 * k + 5 < recursionLimit
  un : A.units + 16 * k + 200 < cLine
theorem Room.m {k : Nat} {A : Around} (r : Room k A) (h : Option Value) : RoomM k (A.mark h) := ⟨r.dp, r.un⟩
theorem RoomM.down {j k : Nat} {A : Around} (r : RoomM k A) (h : j ≤ k) : RoomM j A := ⟨by have := r.dp; omega, by have := r.un; omega⟩
structure FnM (P : Program) (w : World) (K : PySem.W.Frag) (mg : Str → Option Value) (base : Heap) (k : Nat) (f : Addr) (fd : FuncData) (ps : List Str) (sp : Sp) : Prop where
  size : ∀ vs H Q E, sp vs H Q E → vs.length = ps.length
  runs : ∀ (A : Around) (outer : List Env) (s : Shared) (H : Hp) (args : Args) (us : List Value) (vs : List V) (Q : VK), RoomM k A → Env0 P w K mg base A outer s H → BindsTo s fd args (ps.zip us) → Vals vs us → sp vs H Q E0 → codeAny (model P w) A (.call (.ref f) args) (CR CX0 outer P w H s Q E0) s
def HasM (P : Program) (w : World) (K : PySem.W.Frag) (mg : Str → Option Value) (base : Heap) (x : Str) (ps : List Str) (k : Nat) (sp : Sp) : Prop :=
  ∃ f fd, FnM P w K mg base k f fd ps sp ∧ Binds K fd ps [] ∧ PySem.W.keepIn K (.ref f) = true ∧ mg x = some (.ref f)
abbrev cxM (P : Program) (w : World) (K : PySem.W.Frag) (mg : Str → Option Value) (base : Heap) (N : List Str) (qual : Str) (scope : Scope) (f : Addr) (cd : Value) (A : Around) (outer : List Env) (s : Shared) (H : Hp) : Cx := { cxOf CX0 P w K mg base N qual scope f cd A outer s H E0 with calm := false, xe := fun _ _ => False }
theorem DefAt.hasM {P : Program} {w : World} {K : PySem.W.Frag} {mg : Str → Option Value} {base : Heap} {x : Str} {st : Stmt} {ps N : List Str} {k : Nat} {sp : Sp} (D : DefAt K mg x st ps) (S : FnScope N ps (defScope st)) (len : ∀ vs H Q E, sp vs H Q E → vs.length = ps.length)
    (hbody : ∀ (f : Addr) (cdv : Value) (A : Around) (outer : List Env) (s : Shared) (H : Hp) (vs : List V) (Q : VK), RoomM (k + 1) A → sp vs H Q E0 →
      ∃ t, PSs (cxM P w K mg base N x (defScope st) f cdv A outer s H) (defBody st) t ∧ t { nx := fun _ H' => Q .non H', rt := Q } (start N vs) H) : HasM P w K mg base x ps (k + 1) sp := by
  obtain ⟨f, fd, F, b, m⟩ := D
  obtain ⟨oc, od, kV, doc, pm, an, cdv, ct, osl, rfl, lk, hcd⟩ := F.ex
  refine ⟨f, _, ⟨len, fun A outer s H args us vs Q hr e0 hb r hsp => ?_⟩, b, F.kp, m⟩
  have hkeep : ∀ c o, base.get? c = some o → s.heap.get? c = some o := fun c o z => (e0.bs c o z).1
  have kin : K.In s.heap := e0.mod.kin.keeps hkeep
  have hpar : ∀ y ∈ ps.zip us, (defScope st).names.lookup y.1 = some .local ∨ ((defScope st).names.lookup y.1 = some .cell ∧ ((cellsFrom (s.heap.objs.size + 1) (defScope st).names []).lookup y.1).isSome = true) := fun y hy => by
    obtain ⟨n, v⟩ := y
    rcases S.par n (List.of_mem_zip hy).1 with z | z
    · exact Or.inl z
    · exact Or.inr ⟨z, PySem.W.cellsFrom_some _ _ _ (Or.inl z)⟩
  have hdepth : A.depth < recursionLimit := by have := hr.dp; omega
  refine codeAny_call_function (by first | exact hdepth | (have := hr.dp; omega)) (kin _ _ lk) rfl S.co S.gen rfl (PySem.W.codeRec_of kin hcd) (hb _ _ _ _ ?_)
  refine wpAny_newFunctionEnv_cells S.kind hpar fun env he s1 inc => ?_
  subst he
  refine ⟨(e0.mod.nolimit.keeps hkeep).keeps inc.toInCall.keep, codeAny_func ?_⟩
  obtain ⟨t, ht, hq⟩ := hbody f cdv A outer s H vs Q hr hsp
  have e1 : Env0 P w K mg base { A with handled := none } outer s H := ⟨e0.frames, e0.mod, e0.bs, e0.bsz, e0.funs, e0.frf, e0.hok, e0.bare⟩
  have J : Inv (cxOf CX0 P w K mg base N x (defScope st) f cdv { A with handled := none } outer s H E0) [] (start N vs) H s1 := inv_start S rfl e1 (len _ _ _ _ hsp) r inc
  have I : Inv (cxM P w K mg base N x (defScope st) f cdv A outer s H) [] (start N vs) H s1 :=
    ⟨⟨J.ok.mod, J.ok.kind, J.ok.glob, J.ok.blt, J.ok.above, J.ok.inj, J.ok.has, J.ok.cab, fun z => Bool.noConfusion z, Around.frames_deeper e0.frames, J.ok.stk, J.ok.exf, J.ok.bs, J.ok.bsz, J.ok.noex, J.ok.exfs, J.ok.funs, J.ok.frf⟩, J.os, J.bare, J.base, J.loc, J.cell, J.free, J.freeC, J.pin, J.hok, J.len⟩
  refine wpAny_mono (ht [] s1 (start N vs) H _ I hq) (fun fl s' z => ?_) fun e s' z => False.elim z
  cases fl with
  | ret u => obtain ⟨v, σ', H', I', rv, y⟩ := z; exact ⟨v, H', I'.os, I'.bare, I'.base, I'.hok, rv, y⟩
  | next => obtain ⟨σ', H', I', y⟩ := z; exact ⟨V.non, H', I'.os, I'.bare, I'.base, I'.hok, rfl, y⟩
  | brk => obtain ⟨_, _, _, y⟩ := z; exact y.elim
  | cont => obtain ⟨_, _, _, y⟩ := z; exact y.elim
theorem pe_callM {X : Cx} {k k' : Nat} {ps : List Str} {sp : Sp} {x : Str} {p pos : Pos} {e : Expr} {es : List Expr} {t : TA} (h : HasM X.prog X.w X.K X.mg X.base x ps k sp) (hr : RoomM k' X.A) (hg : Gl X x) (ha : PA X (e :: es) t) (hk : k ≤ k' := by omega)
    (hdb : (x == ("__debug__" : Str)) = false := by decide) (he : starEach (e :: es) X.env = (false, eval e X.env) :: starEach es X.env := by rfl) (hpl : (backTo pos (starEach es X.env)).any (·.1) = false := by rfl) :
    PE X (.Call (.Name x p) (e :: es) [] pos) (tCall sp [] E0 t) := by
  intro pins s σ H Q I h0
  obtain ⟨f, fd, F, b, kp, m⟩ := h
  refine wpAny_Call_Name_kw (ld_glob I hg m ?_ hdb)
  refine PySem.W.callWith_K (h₀ := X.base) I.ok.mod.kin kp (thn (ha pos pins s σ H _ I h0) fun us s1 ⟨vs, H1, I1, r, q⟩ => ⟨I1.kIn, ?_⟩) he hpl
  have q : sp vs H1 Q E0 := by
    have q' : sp (vs ++ []) H1 Q E0 := q
    rw [List.append_nil] at q'
    exact q'
  have hl : (us ++ []).length = ps.length := by rw [List.append_nil, ← r.length]; exact F.size _ _ _ _ q
  have hb := b s1 us I1.kIn hl
  rw [List.append_nil] at hb
  refine wpAny_call (codeAny_mono (F.runs X.A X.stack s1 H1 ⟨us, []⟩ us vs Q (hr.down hk) I1.env0 hb r q) fun r s' hq => ?_)
  cases r with
  | error e => exact False.elim hq
  | ok fl =>
    cases fl with
    | ret u => exact I1.after hq
    | next => exact False.elim hq
    | brk => exact False.elim hq
    | cont => exact False.elim hq
/-! ### truths as data -/
theorem all_bools {K : PySem.W.Frag} {H : Hp} : ∀ bs : List Bool, DataAll K H (bs.map .bool) (bs.map V.bl)
  | [] => by simp [DataAll]
  | b :: bs => by
    simp only [List.map_cons, DataAll]
    exact ⟨_, _, rfl, by simp [DataAt], all_bools bs⟩
theorem data_bools {K : PySem.W.Frag} {H : Hp} {p : Addr} {bs : List Bool} (h : SqL K H p (bs.map V.bl)) : DataAt K H (.list (bs.map .bool)) (.ref p) := by
  rw [DataAt]; exact ⟨p, _, rfl, h, all_bools bs⟩
theorem eqv_bools_all : ∀ bs cs : List Bool, PyData.eqvAll (bs.map .bool) (cs.map .bool) = decide (bs = cs)
  | [], [] => by simp [PyData.eqvAll]
  | [], _ :: _ => by simp [PyData.eqvAll]
  | _ :: _, [] => by simp [PyData.eqvAll]
  | b :: r, c :: q => by
    simp only [List.map_cons, PyData.eqvAll, PyData.eqv, eqv_bools_all r q, List.cons.injEq, Bool.decide_and]
    cases b <;> cases c <;> simp
theorem eqv_bools (bs cs : List Bool) : PyData.eqv (.list (bs.map .bool)) (.list (cs.map .bool)) = decide (bs = cs) := by
  rw [PyData.eqv]; exact eqv_bools_all bs cs
theorem lay_bools : ∀ bs : List Bool, PyData.canLayAll0 (bs.map .bool) = true ∧ PyData.depthAll (bs.map .bool) = 0
  | [] => by simp [PyData.canLayAll0, PyData.depthAll]
  | b :: r => by
    have ih := lay_bools r
    simp [PyData.canLayAll0, PyData.depthAll, PyData.canLay0, PyData.depth, ih.1, ih.2]
theorem shaped_bools (bs : List Bool) : SeqAt.shaped (.list (bs.map .bool)) = true := by
  obtain ⟨h1, h2⟩ := lay_bools bs
  simp [SeqAt.shaped, PyData.canLay0, PyData.depth, h1, h2]
/-! ### a text n times, also 0 and 1 -/
section
variable {X : Cx}
def rMulS : R2 := fun x y H Q => ∃ (z : Str) (n : Nat), x = .str z ∧ y = .int n ∧ n ≤ 1000 ∧ z.length ≠ 0 ∧ z.length ≤ 1000 ∧ (repS z n).length ≤ sizeLine ∧ Q (.str (repS z n)) H
theorem op_mulS : OpR X (binaryOp .Mult) rMulS := by
  intro pins s σ H x y v u Q I rx ry h
  obtain ⟨z, n, rfl, rfl, hn, h0, hz, hl, q⟩ := h
  by_cases h2 : 2 ≤ n
  · exact op_mul_str pins s σ H _ _ v u Q I rx ry ⟨z, n, rfl, rfl, h2, hn, h0, hz, hl, q⟩
  obtain ⟨t, rfl⟩ := rx
  obtain ⟨t', rfl⟩ := ry
  have hn01 : n = 0 ∨ n = 1 := by omega
  rcases hn01 with rfl | rfl
  · exact PySem.P.mul_str_none (by decide) (by decide) ⟨.str (repS z 0), H, I.tok _, ⟨s.toks, rfl⟩, q⟩
  · refine PySem.P.mul_str (by decide) (fun _ z1 => absurd z1 (by simp)) (fun _ z1 => absurd z1 (by simp)) ?_
    rw [if_neg (by decide), if_pos (by simp)]
    refine ⟨.str (repS z 1), H, I, ⟨t, ?_⟩, q⟩
    have e : repS z 1 = z := by
      unfold repS
      simp
    rw [e]
end
end L2

set_option Elab.async false
set_option linter.all false
set_option maxRecDepth 100000
namespace L2
open PySem PySem.Spec PySem.W PyProof.Rows Builtin Builtin.Str
/-! ### text.replace(a + "..", b + ".."): both parts are new texts -/
section
variable {X : Cx}
def tPlus (c : Str) (ta : TE) : TE := fun σ H Q => ta σ H fun x H1 => ∃ y, x = .str y ∧ y.length ≠ 0 ∧ c.length ≠ 0 ∧ y.length + c.length ≤ 1000 ∧ Q (.str (y ++ c)) H1
variable {a o e1 e2 : Expr} {ta to t1 t2 : TE} {c : Str} {apos cpos : Pos}
def tRep (to t1 t2 : TE) : TE := fun σ H Q => to σ H fun x H1 => ∃ x', x = .str x' ∧ x'.length ≤ 1000 ∧ t1 σ H1 fun y H2 => t2 σ H2 fun z H3 => ∃ y' z', y = .str y' ∧ z = .str z' ∧ y' ≠ z' ∧ z'.length ≤ 1000 ∧ ∀ r, r = x' ∨ r = Txt.replace x' y' z' → Q (.str r) H3
end
end L2

set_option Elab.async false
set_option linter.all false
set_option maxRecDepth 100000
namespace L2
open PySem PySem.Spec PySem.W PyProof.Rows
section
variable {X : Cx}
/-! ### xs.count(x) of flat items -/
def rCount (K : PySem.W.Frag) : V → List V → Hp → VK → Prop := fun x vs H Q => ∃ p xs y, x = .ref p ∧ vs = [y] ∧ SqL K H p xs ∧ flatV y = true ∧ xs.all flatV = true ∧ Q (.int (xs.countP fun z => eqV z y : Nat)) H
end
end L2

set_option Elab.async false
set_option linter.all false
set_option maxRecDepth 100000
set_option maxHeartbeats 4000000

namespace Toy
open PySem PySem.Spec PyProof.Rows L2
def top (i : Nat) : Stmt := PySem.Challenge.pw_seektree_k18_each_refusal_alone.main.body.getD i (.Pass ⟨0, 0, 0, 0⟩)
abbrev s_is_word : Stmt := top 12
abbrev s_is_rising : Stmt := top 13
abbrev s_are_keys : Stmt := top 14
abbrev s_are_weights : Stmt := top 15
abbrev s_check_keys : Stmt := top 16
abbrev s_check_weights : Stmt := top 17
abbrev s_row_of : Stmt := top 19
abbrev s_check_tree : Stmt := top 20
abbrev s_left_up : Stmt := top 22
abbrev s_right_up : Stmt := top 23
abbrev s_turned_in : Stmt := top 24
abbrev s_turned : Stmt := top 25
abbrev s_whole_weight : Stmt := top 27
abbrev s_parted_worths : Stmt := top 28
abbrev s_worth_table : Stmt := top 29
abbrev s_least_root : Stmt := top 30
abbrev s_root_row : Stmt := top 31
abbrev s_grown : Stmt := top 32
abbrev s_worths : Stmt := top 33
abbrev s_roots : Stmt := top 34
abbrev s_best : Stmt := top 35
abbrev s_halved : Stmt := top 37
abbrev s_even : Stmt := top 38
abbrev s_written : Stmt := top 40
abbrev s_sign_at : Stmt := top 41
abbrev s_behind : Stmt := top 42
abbrev s_word_end : Stmt := top 43
abbrev s_tree_at : Stmt := top 44
abbrev s_shown : Stmt := top 45
abbrev s_read : Stmt := top 46
abbrev s_l_cell_at : Stmt := top 48
abbrev s_l_refuses : Stmt := top 49
abbrev s_l_classes : Stmt := top 50
abbrev s_l_caught : Stmt := top 51
abbrev s_law : Stmt := top 52
theorem sc_is_word : FnScope ["text"] ["text"] (defScope s_is_word) := ⟨rfl, rfl, rfl, by decide +kernel, rfl, by decide +kernel, by decide +kernel⟩
theorem sc_is_rising : FnScope ["words"] ["words"] (defScope s_is_rising) := ⟨rfl, rfl, rfl, by decide +kernel, rfl, by decide +kernel, by decide +kernel⟩
theorem sc_are_keys : FnScope ["words"] ["words"] (defScope s_are_keys) := ⟨rfl, rfl, rfl, by decide +kernel, rfl, by decide +kernel, by decide +kernel⟩
theorem sc_are_weights : FnScope ["numbers", "wanted"] ["numbers", "wanted"] (defScope s_are_weights) := ⟨rfl, rfl, rfl, by decide +kernel, rfl, by decide +kernel, by decide +kernel⟩
theorem sc_check_keys : FnScope ["keys"] ["keys"] (defScope s_check_keys) := ⟨rfl, rfl, rfl, by decide +kernel, rfl, by decide +kernel, by decide +kernel⟩
theorem sc_check_weights : FnScope ["keys", "hits", "misses"] ["keys", "hits", "misses"] (defScope s_check_weights) := ⟨rfl, rfl, rfl, by decide +kernel, rfl, by decide +kernel, by decide +kernel⟩
theorem sc_row_of : FnScope ["tree"] ["tree"] (defScope s_row_of) := ⟨rfl, rfl, rfl, by decide +kernel, rfl, by decide +kernel, by decide +kernel⟩
theorem sc_check_tree : FnScope ["keys", "tree"] ["keys", "tree"] (defScope s_check_tree) := ⟨rfl, rfl, rfl, by decide +kernel, rfl, by decide +kernel, by decide +kernel⟩
theorem sc_left_up : FnScope ["tree", "left"] ["tree"] (defScope s_left_up) := ⟨rfl, rfl, rfl, by decide +kernel, rfl, by decide +kernel, by decide +kernel⟩
theorem sc_right_up : FnScope ["tree", "right"] ["tree"] (defScope s_right_up) := ⟨rfl, rfl, rfl, by decide +kernel, rfl, by decide +kernel, by decide +kernel⟩
theorem sc_turned_in : FnScope ["tree", "word"] ["tree", "word"] (defScope s_turned_in) := ⟨rfl, rfl, rfl, by decide +kernel, rfl, by decide +kernel, by decide +kernel⟩
theorem sc_turned : FnScope ["keys", "tree", "word"] ["keys", "tree", "word"] (defScope s_turned) := ⟨rfl, rfl, rfl, by decide +kernel, rfl, by decide +kernel, by decide +kernel⟩
theorem sc_whole_weight : FnScope ["hits", "misses", "start", "end"] ["hits", "misses", "start", "end"] (defScope s_whole_weight) := ⟨rfl, rfl, rfl, by decide +kernel, rfl, by decide +kernel, by decide +kernel⟩
theorem sc_parted_worths : FnScope ["table", "start", "end"] ["table", "start", "end"] (defScope s_parted_worths) := ⟨rfl, rfl, rfl, by decide +kernel, rfl, by decide +kernel, by decide +kernel⟩
theorem sc_worth_table : FnScope ["hits", "misses", "table", "start", "end", "whole"] ["hits", "misses"] (defScope s_worth_table) := ⟨rfl, rfl, rfl, by decide +kernel, rfl, by decide +kernel, by decide +kernel⟩
theorem sc_least_root : FnScope ["table", "start", "end", "sums"] ["table", "start", "end"] (defScope s_least_root) := ⟨rfl, rfl, rfl, by decide +kernel, rfl, by decide +kernel, by decide +kernel⟩
theorem sc_root_row : FnScope ["table", "start"] ["table", "start"] (defScope s_root_row) := ⟨rfl, rfl, rfl, by decide +kernel, rfl, by decide +kernel, by decide +kernel⟩
theorem sc_grown : FnScope ["keys", "root_rows", "start", "end", "root"] ["keys", "root_rows", "start", "end"] (defScope s_grown) := ⟨rfl, rfl, rfl, by decide +kernel, rfl, by decide +kernel, by decide +kernel⟩
theorem sc_worths : FnScope ["keys", "hits", "misses"] ["keys", "hits", "misses"] (defScope s_worths) := ⟨rfl, rfl, rfl, by decide +kernel, rfl, by decide +kernel, by decide +kernel⟩
theorem sc_roots : FnScope ["keys", "hits", "misses", "table"] ["keys", "hits", "misses"] (defScope s_roots) := ⟨rfl, rfl, rfl, by decide +kernel, rfl, by decide +kernel, by decide +kernel⟩
theorem sc_best : FnScope ["keys", "hits", "misses"] ["keys", "hits", "misses"] (defScope s_best) := ⟨rfl, rfl, rfl, by decide +kernel, rfl, by decide +kernel, by decide +kernel⟩
theorem sc_halved : FnScope ["keys", "middle"] ["keys"] (defScope s_halved) := ⟨rfl, rfl, rfl, by decide +kernel, rfl, by decide +kernel, by decide +kernel⟩
theorem sc_even : FnScope ["keys"] ["keys"] (defScope s_even) := ⟨rfl, rfl, rfl, by decide +kernel, rfl, by decide +kernel, by decide +kernel⟩
theorem sc_written : FnScope ["tree"] ["tree"] (defScope s_written) := ⟨rfl, rfl, rfl, by decide +kernel, rfl, by decide +kernel, by decide +kernel⟩
theorem sc_sign_at : FnScope ["text", "place"] ["text", "place"] (defScope s_sign_at) := ⟨rfl, rfl, rfl, by decide +kernel, rfl, by decide +kernel, by decide +kernel⟩
theorem sc_behind : FnScope ["text", "place", "sign"] ["text", "place", "sign"] (defScope s_behind) := ⟨rfl, rfl, rfl, by decide +kernel, rfl, by decide +kernel, by decide +kernel⟩
theorem sc_word_end : FnScope ["text", "start", "end"] ["text", "start"] (defScope s_word_end) := ⟨rfl, rfl, rfl, by decide +kernel, rfl, by decide +kernel, by decide +kernel⟩
theorem sc_tree_at : FnScope ["text", "place", "left", "start", "end", "right"] ["text", "place"] (defScope s_tree_at) := ⟨rfl, rfl, rfl, by decide +kernel, rfl, by decide +kernel, by decide +kernel⟩
theorem sc_shown : FnScope ["keys", "tree"] ["keys", "tree"] (defScope s_shown) := ⟨rfl, rfl, rfl, by decide +kernel, rfl, by decide +kernel, by decide +kernel⟩
theorem sc_read : FnScope ["text", "found"] ["text"] (defScope s_read) := ⟨rfl, rfl, rfl, by decide +kernel, rfl, by decide +kernel, by decide +kernel⟩
theorem sc_l_cell_at : FnScope ["script", "k"] ["script", "k"] (defScope s_l_cell_at) := ⟨rfl, rfl, rfl, by decide +kernel, rfl, by decide +kernel, by decide +kernel⟩
theorem sc_l_refuses : FnScope ["which", "cell", "tree"] ["which", "cell"] (defScope s_l_refuses) := ⟨rfl, rfl, rfl, by decide +kernel, rfl, by decide +kernel, by decide +kernel⟩
theorem sc_l_classes : FnScope ["e", "found"] ["e"] (defScope s_l_classes) := ⟨rfl, rfl, rfl, by decide +kernel, rfl, by decide +kernel, by decide +kernel⟩
theorem sc_l_caught : FnScope ["which", "cell", "found", "value", "e"] ["which", "cell"] (defScope s_l_caught) := ⟨rfl, rfl, rfl, by decide +kernel, rfl, by decide +kernel, by decide +kernel⟩
theorem sc_law : FnScope ["script", "cell", "k"] ["script"] (defScope s_law) := ⟨rfl, rfl, rfl, by decide +kernel, rfl, by decide +kernel, by decide +kernel⟩

theorem cxOf_K {CX : CXT} {P : Program} {w : World} {K : PySem.W.Frag} {mg : Str → Option Value} {base : Heap} {N : List Str} {qual : Str} {scope : Scope} {f : Addr} {cd : Value} {A : Around} {outer : List Env} {s : Shared} {H : Hp} {E : XK} :
    (cxOf CX P w K mg base N qual scope f cd A outer s H E).K = K := rfl
theorem compCx_K {X : Cx} {scope : Scope} {N : List Str} {cl : List (Str × Addr)} {C : Addr} {s₀ : Shared} {H₀ : Hp} {fp : List Addr} {pn : List (Addr × Obj)} : (compCx X scope N cl C s₀ H₀ fp pn).K = X.K := rfl
structure Blt (mg : Str → Option Value) : Prop where
  len : mg "len" = none
  range : mg "range" = none
  list : mg "list" = none
  str : mg "str" = none
  int : mg "int" = none
  bool : mg "bool" = none
  tuple : mg "tuple" = none
  isinstance : mg "isinstance" = none
  all : mg "all" = none
  sum : mg "sum" = none
  min : mg "min" = none
  max : mg "max" = none
  zip : mg "zip" = none
  reversed : mg "reversed" = none
  ValueError : mg "ValueError" = none

local macro_rules | `(tactic| walk_at "rd") => `(tactic| simp only [L2.start, cxOf_K, compCx_K, tVar, tC, tOp, tUn, tTest, tChain, tB, tAnd, tOr, tNot, tAndV, tOrV, tNotV, tIf, tSeq, tNext, tDrop, tRet, tRetN, tIfS, tFor_rd, gName, gSub, tAsg, tAug, ipI, tCB, tCons, tNil, tTup, tLst, tCall, tBM, tBM0, rI0, rI, rU, rEq, rNe, rIxL, rIxT, rIxS, rSlL, rSlT, tSl, tNoPart, tPart, rCat, rAppend, rExtend, rSetL, iList, iTup, iRng1, iRng2, iRngD, iStr, iZip, tComp, srcσ, rIn, rEqD, rNeD, rIsi, rIsx, tRaise, tTry, tqCall, tqNil, thCons, thNil, endAs, rLen, rList, tMaxD, rJoin, rSCount, rIndex, rMulS, tPlus, tRep, rCount, gTup, gNil, gCons, scal, List.map_cons, List.map_nil, List.length_cons, List.length_nil, List.cons_append, List.nil_append, List.append_nil, List.replicate_succ, List.replicate_zero, List.getElem?_cons_zero, List.getElem?_cons_succ, List.set_cons_zero, List.set_cons_succ, List.cons.injEq, Option.some.injEq, V.int.injEq, V.str.injEq, V.ref.injEq, V.bl.injEq, exists_eq_left', exists_eq_left, exists_and_left, exists_eq_right_right, true_and, and_true, decide_eq_true_eq, Nat.reduceAdd, Nat.reduceSub, Nat.zero_add, Option.bind_some, Option.bind_none, Option.join_some, Option.join_none, Bool.not_eq_true', decide_eq_false_iff_not, reduceCtorEq, false_and, exists_false, and_false])
section
seal L2.PSs L2.PS L2.PE L2.PT L2.PA L2.PSq L2.PH
variable {P : Program} {w : World} {K : PySem.W.Frag} {mg : Str → Option Value} {base : Heap}

/-- whether a text is a word -/
def sp_is_word : Sp := fun vs H Q _ => ∃ x : Str, vs = [.str x] ∧ x.length ≤ 1000 ∧ ∀ H', Same H H' → Q (.bl (wordOk x)) H'
theorem ok_is_word (D : DefAt K mg "is_word" s_is_word ["text"]) (B : Blt mg) (c_MOST_LETTERS : ∃ t, mg "MOST_LETTERS" = some (.int 8 t)) : Has P w K mg base "is_word" ["text"] 1 sp_is_word := by
  refine D.has sc_is_word (fun vs H Q E h => ?_) (fun f cdv A outer s H vs Q E hr h => ?_)
  · obtain ⟨i, rfl, _⟩ := h
    rfl
  obtain ⟨x, rfl, hx, q⟩ := h
  obtain ⟨_, c_MOST_LETTERS⟩ := c_MOST_LETTERS
  refine ⟨_, (pss_one (ps_ret (pe_and (pe_chain op_le op_le pe_int (pe_callB call_len_str rfl B.len PySem.boot_len (pa_cons (pv 0) pa_nil)) (pe_glob (v := .int 8) rfl c_MOST_LETTERS ⟨_, rfl⟩)) (pe_one (pe_callB (call_all_l rfl) rfl B.all PyProof.Rows.boot_all (pa_cons (pe_comp ["sign"] [none] rfl (pi_str (pv 0)) (fun _ _ _ _ _ _ => (pg_name (i := 0) (show (["sign"] : List Str).Nodup by decide +kernel) rfl (Or.inl rfl))) (fun _ _ _ _ _ _ => pts_nil) (fun _ _ _ _ _ _ => (pe_chain op_le_str op_le_str pe_str (pv 0) pe_str)) (defScope s_is_word) ["text"] rfl rfl (by decide +kernel)) pa_nil)))))), ?_⟩
  walk_at "rd"
  refine ⟨Nat.le_of_lt (small1000 hx), ?_⟩
  by_cases h1 : 1 ≤ x.length ∧ x.length ≤ 8
  · rw [if_pos (by omega), if_pos (by omega)]
    refine comp_str (fun c => .bl (decide (97 ≤ c ∧ c ≤ 122))) hx (fun i H2 R hi hs k => ?_) (fun l H' n1 s1 e1 => ?_)
    · walk_at "rd"
      rw [show (Str.ofString "a").cps.toList = [97] by decide +kernel, show (Str.ofString "z").cps.toList = [122] by decide +kernel, one_lt]
      refine ite2 (fun h2 => ?_) (fun h2 => ?_)
      · have h3 : ¬ x.cps.getD i 0 < 97 := fun h => h2 (of_decide_eq_true (by rw [one_lt]; exact decide_eq_true h))
        have e : (!decide (122 < x.cps.getD i 0)) = decide (97 ≤ x.cps.getD i 0 ∧ x.cps.getD i 0 ≤ 122) := by
          by_cases h4 : 122 < x.cps.getD i 0
          · rw [decide_eq_true h4, decide_eq_false (by omega)]; rfl
          · rw [decide_eq_false h4, decide_eq_true (by omega)]; rfl
        rw [e]
        exact k _ Same.rfl'
      · have h3 : x.cps.getD i 0 < 97 := by
          have h4 : ([x.cps.getD i 0] : List Nat) < [97] := Classical.not_not.mp h2
          have h5 := one_lt (x.cps.getD i 0) 97
          rw [decide_eq_true h4] at h5
          exact of_decide_eq_true h5.symm
        have e : decide (97 ≤ x.cps.getD i 0 ∧ x.cps.getD i 0 ≤ 122) = false := decide_eq_false (by omega)
        rw [e] at k
        exact k _ Same.rfl'
    · refine ⟨l, rfl, x.cps.toList.map fun c => decide (97 ≤ c ∧ c ≤ 122), SqL.of (by rw [e1, List.map_map]; rfl), ?_⟩
      have e : ((x.cps.toList.map fun c => decide (97 ≤ c ∧ c ≤ 122)).all id) = wordOk x := by
        rw [wordOk, decide_eq_true h1.1, decide_eq_true h1.2, List.all_map]; rfl
      rw [e]
      exact q _ s1
  · have e : wordOk x = false := by
      rw [wordOk]
      by_cases h2 : 1 ≤ x.length
      · rw [decide_eq_false (show ¬ x.length ≤ 8 by omega)]; simp
      · rw [decide_eq_false h2]; simp
    rw [e] at q
    by_cases h2 : 1 ≤ x.length
    · rw [if_pos (by omega), if_neg (by omega)]; exact q _ Same.rfl'
    · rw [if_neg (by omega), if_neg (fun f => f)]; exact q _ Same.rfl'

theorem atI_strs {ks : List Str} {i : Nat} {z : Int} (h : i < ks.length) (e : z = i := by omega) : atI (ks.map V.str) z = some (.str (ks.getD i ⟨#[]⟩)) := by
  subst e
  exact atI_nat (by rw [List.getElem?_map, List.getElem?_eq_getElem h]; simp [List.getD_eq_getElem?_getD, h])
/-- whether words rise -/
def sp_is_rising (K : PySem.W.Frag) : Sp := fun vs H Q _ => ∃ (a : Addr) (ks : List Str), vs = [.ref a] ∧ SqL K H a (ks.map V.str) ∧ ks.length ≤ 1000 ∧ ∀ H', Same H H' → Q (.bl (risesB ks)) H'
theorem ok_is_rising (D : DefAt K mg "is_rising" s_is_rising ["words"]) (B : Blt mg) : Has P w K mg base "is_rising" ["words"] 1 (sp_is_rising K) := by
  refine D.has sc_is_rising (fun vs H Q E h => ?_) (fun f cdv A outer s H vs Q E hr h => ?_)
  · obtain ⟨a, ks, rfl, _⟩ := h
    rfl
  obtain ⟨a, ks, rfl, hS, hl, q⟩ := h
  refine ⟨_, (pss_one (ps_ret (pe_callB (call_all_l rfl) rfl B.all PyProof.Rows.boot_all (pa_cons (pe_comp ["k", "words"] [none, some 0] rfl (pi_range1 rfl B.range (pa_cons (pe_op op_sub (pe_callB (call_lenK (K := K)) rfl B.len PySem.boot_len (pa_cons (pv 0) pa_nil)) pe_int) pa_nil)) (fun _ _ _ _ _ _ => (pg_name (i := 0) (show (["k", "words"] : List Str).Nodup by decide +kernel) rfl (Or.inl rfl))) (fun _ _ _ _ _ _ => pts_nil) (fun _ _ _ _ _ _ => (pe_cmpR op_lt_str (pe_ix (ix_listK (K := K)) (pv 1) (pv 0) (fun _ _ => rfl)) (pe_ix (ix_listK (K := K)) (pv 1) (pe_op op_add (pv 0) pe_int) (fun _ _ => rfl)) (nomark _))) (defScope s_is_rising) ["words"] rfl rfl (by decide +kernel)) pa_nil)))), ?_⟩
  walk_at "rd"
  refine ⟨_, .inl hS, ?_⟩
  rw [List.length_map]
  refine ⟨by omega, by omega, ?_⟩
  rw [show ((ks.length : Int) - 1).toNat = ks.length - 1 by omega]
  refine comp_range (n := ks.length - 1) (fun k => .bl (strLt (ks.getD k ⟨#[]⟩) (ks.getD (k + 1) ⟨#[]⟩))) (by omega) (fun i H2 R hi hs k => ?_) (fun l H' n1 s1 e1 => ?_)
  · walk_at "rd"
    refine ⟨_, hs.seq hS, _, atI_strs (i := i) (by omega), _, hs.seq hS, _, atI_strs (i := i + 1) (by omega), ?_⟩
    exact ⟨_, rfl, _, rfl, k _ Same.rfl'⟩
  · refine ⟨l, rfl, (List.range (ks.length - 1)).map fun k => strLt (ks.getD k ⟨#[]⟩) (ks.getD (k + 1) ⟨#[]⟩), SqL.of (by rw [e1, List.map_map]; rfl), ?_⟩
    rw [List.all_map]
    exact q _ s1

/-- whether a list is keys -/
def sp_are_keys (K : PySem.W.Frag) : Sp := fun vs H Q _ => ∃ (a : Addr) (ks : List Str), vs = [.ref a] ∧ SqL K H a (ks.map V.str) ∧ ks.length ≤ 1000 ∧ (∀ k ∈ ks, k.length ≤ 1000) ∧ ∀ H', Same H H' → Q (.bl (keysB ks)) H'
theorem ok_are_keys (D : DefAt K mg "are_keys" s_are_keys ["words"]) (B : Blt mg) (c_MOST_KEYS : ∃ t, mg "MOST_KEYS" = some (.int 12 t)) (h_is_word : Has P w K mg base "is_word" ["text"] 1 sp_is_word) (h_is_rising : Has P w K mg base "is_rising" ["words"] 1 (sp_is_rising K)) : Has P w K mg base "are_keys" ["words"] 2 (sp_are_keys K) := by
  refine D.has sc_are_keys (fun vs H Q E h => ?_) (fun f cdv A outer s H vs Q E hr h => ?_)
  · obtain ⟨a, ks, rfl, _⟩ := h
    rfl
  obtain ⟨a, ks, rfl, hS, hl, hw, q⟩ := h
  obtain ⟨_, c_MOST_KEYS⟩ := c_MOST_KEYS
  refine ⟨_, (pss_one (ps_ret (pe_and (pe_cmpR op_le (pe_callB (call_lenK (K := K)) rfl B.len PySem.boot_len (pa_cons (pv 0) pa_nil)) (pe_glob (v := .int 12) rfl c_MOST_KEYS ⟨_, rfl⟩) (nomark _)) (pe_and (pe_callB (call_all_l rfl) rfl B.all PyProof.Rows.boot_all (pa_cons (pe_comp ["word"] [none] rfl (pi_list (pv 0)) (fun _ _ _ _ _ _ => (pg_name (i := 0) (show (["word"] : List Str).Nodup by decide +kernel) rfl (Or.inl rfl))) (fun _ _ _ _ _ _ => pts_nil) (fun _ _ _ _ _ _ => (pe_callH h_is_word hr rfl (pa_cons (pv 0) pa_nil))) (defScope s_are_keys) ["words"] rfl rfl (by decide +kernel)) pa_nil)) (pe_one (pe_callH h_is_rising hr rfl (pa_cons (pv 0) pa_nil))))))), ?_⟩
  walk_at "rd"
  refine ⟨_, .inl hS, ?_⟩
  rw [List.length_map]
  by_cases h1 : ks.length ≤ 12
  · rw [if_pos (by omega)]
    refine ⟨⟨_, hS⟩, comp_list (vs := ks.map V.str) (fun v => match v with | .str x => .bl (wordOk x) | _ => .non) (by rw [List.length_map]; omega) hS (fun i v H2 R hv hs k => ?_) (fun l H' n1 s1 e1 => ?_)⟩
    · rw [List.getElem?_map, Option.map_eq_some_iff] at hv
      obtain ⟨x, hx, rfl⟩ := hv
      walk_at "rd"
      exact ⟨x, rfl, hw x (List.mem_of_getElem? hx), fun H3 s3 => k _ s3⟩
    · refine ⟨l, rfl, ks.map wordOk, SqL.of (by rw [e1, List.map_map, List.map_map]; rfl), ?_⟩
      have e : (ks.map wordOk).all id = ks.all wordOk := by rw [List.all_map]; rfl
      rw [e]
      rw [keysB, decide_eq_true h1, Bool.true_and] at q
      by_cases h2 : ks.all wordOk = true
      · rw [if_pos h2]
        rw [h2, Bool.true_and] at q
        exact ⟨a, ks, rfl, s1.seq hS, hl, fun H3 s3 => q _ (s1.trans s3)⟩
      · rw [if_neg h2]
        rw [Bool.not_eq_true] at h2
        rw [h2, Bool.false_and] at q
        exact q _ s1
  · rw [if_neg (by omega)]
    rw [keysB, decide_eq_false h1, Bool.false_and, Bool.false_and] at q
    exact q _ Same.rfl'

/-- keys are let through, else NoKeys -/
def spx_check_keys (K : PySem.W.Frag) (cK : Addr) : Sp := fun vs H Q E => ∃ (a : Addr) (ks : List Str), vs = [.ref a] ∧ SqL K H a (ks.map V.str) ∧ ks.length ≤ 1000 ∧ (∀ k ∈ ks, k.length ≤ 1000) ∧ ∀ H', Same H H' → (keysB ks = true → Q .non H') ∧ (keysB ks = false → E (.ref cK) none H')
theorem okx_check_keys {c_NoKeys : Addr} (D : DefAt K mg "check_keys" s_check_keys ["keys"]) (B : Blt mg) (e_NoKeys : ErrAt K mg "NoKeys" c_NoKeys) (h_are_keys : Has P w K mg base "are_keys" ["words"] 2 (sp_are_keys K)) : HasX P w K mg base "check_keys" ["keys"] 3 (spx_check_keys K c_NoKeys) := by
  refine D.hasX sc_check_keys (fun vs H Q E h => ?_) (fun f cdv A outer s H vs Q E hr h => ?_)
  · obtain ⟨a, ks, rfl, _⟩ := h
    rfl
  obtain ⟨a, ks, rfl, hS, h1, h2, q⟩ := h
  refine ⟨_, (pss_one (ps_if (pt_not (pt_val (pe_callH h_are_keys hr rfl (pa_cons (pv 0) pa_nil)))) (pss_one (ps_raise passes_of rfl rfl e_NoKeys.m e_NoKeys.f (pa_cons pe_str pa_nil))) pss_nil)), ?_⟩
  walk_at "rd"
  refine ⟨a, ks, rfl, hS, h1, h2, fun H' s' => ⟨_, rfl, ?_⟩⟩
  cases hb : keysB ks with
  | true => rw [if_neg (by decide)]; exact (q _ s').1 hb
  | false => rw [if_pos (by decide)]; exact ⟨by decide, (q _ s').2 hb⟩

/-- the row of a tree: n calls are allowed -/
def sp_row_of (K : PySem.W.Frag) (n : Nat) : Sp := fun vs H Q _ => ∃ (t : Tr) (v : V), vs = [v] ∧ TreeAt H t v ∧ t.depth < n ∧ t.size ≤ 100 ∧ ∀ (r : Addr) (H' : Hp), Same H H' → H r = none → H' r = some (.lst (t.row.map V.str)) → Q (.ref r) H'
theorem ok_row_of (D : DefAt K mg "row_of" s_row_of ["tree"]) (B : Blt mg) : ∀ n, Has P w K mg base "row_of" ["tree"] n (sp_row_of K n)
  | 0 => D.never fun vs H Q E ⟨t, v, _, _, h, _⟩ => absurd h (Nat.not_lt_zero _)
  | n + 1 => by
    have h_row_of := ok_row_of D B n
    refine D.has sc_row_of (fun vs H Q E h => ?_) (fun f cdv A outer s H vs Q E hr h => ?_)
    · obtain ⟨t, v, rfl, _⟩ := h
      rfl
    obtain ⟨t, v, rfl, hT, hd, hs, q⟩ := h
    refine ⟨_, (pss_cons (ps_if (pt_cmpR op_isN (pv 0) pe_non (nomark _)) (pss_one (ps_ret (pe_lst pa_nil))) pss_nil)
      (pss_one (ps_ret (pe_op op_cat (pe_op op_cat (pe_callH h_row_of hr rfl (pa_cons (pe_ix (ix_tupK (K := K)) (pv 0) pe_int (fun _ _ => rfl)) pa_nil)) (pe_lst (pa_cons (pe_ix (ix_tupK (K := K)) (pv 0) pe_int (fun _ _ => rfl)) pa_nil))) (pe_callH h_row_of hr rfl (pa_cons (pe_ix (ix_tupK (K := K)) (pv 0) pe_int (fun _ _ => rfl)) pa_nil)))))), ?_⟩
    walk_at "rd"
    cases t with
    | nil =>
      have e : v = .non := hT
      subst e
      rw [if_pos rfl]
      exact ⟨Nat.zero_le _, fun p hp => q p _ (same_new hp _) hp upd_same⟩
    | node k l r =>
      obtain ⟨p, vl, vr, rfl, hp, hl, hr'⟩ := hT
      rw [if_neg (fun e => nomatch e)]
      simp only [Tr.depth] at hd
      simp only [Tr.size] at hs
      refine ⟨p, rfl, _, SqT.of hp, vl, rfl, l, vl, rfl, hl, by omega, by omega, fun r1 H1 s1 n1 e1 => ?_⟩
      refine ⟨p, rfl, _, SqT.of (s1 _ _ hp), .str k, rfl, by decide, fun p2 hp2 => ?_⟩
      refine ⟨r1, rfl, _, upd_keep e1 hp2, _, upd_same, ?_, fun p3 hp3 => ?_⟩
      · rw [List.length_map, Tr.row_length]
        exact Nat.le_of_lt (small1000 (by simp only [List.length_cons, List.length_nil]; omega))
      have hp23 : p3 ≠ p2 := fun e => by rw [e, upd_same] at hp3; cases hp3
      rw [upd_ne hp23] at hp3
      have s2 : Same H1 (upd (upd H1 p2 (.lst [.str k])) p3 (.lst (l.row.map V.str ++ [.str k]))) := (same_new hp2 _).new hp3
      refine ⟨p, rfl, _, SqT.of (s2 _ _ (s1 _ _ hp)), vr, rfl, r, vr, rfl, (hr'.same s1).same s2, by omega, by omega, fun r4 H4 s4 n4 e4 => ?_⟩
      refine ⟨r4, rfl, _, s4 _ _ upd_same, _, e4, ?_, fun p5 hp5 => ?_⟩
      · rw [List.length_append, List.length_map, List.length_map, Tr.row_length, Tr.row_length]
        exact Nat.le_of_lt (small1000 (by simp only [List.length_cons, List.length_nil]; omega))
      have s5 := s1.trans (s2.trans s4)
      refine q p5 _ (s5.new (s5.none hp5)) (s5.none hp5) ?_
      rw [upd_same, Tr.row, List.map_append, List.map_append]
      rfl

/-- a tree of the keys is let through, else NoTree -/
def spx_check_tree (K : PySem.W.Frag) (cT : Addr) : Sp := fun vs H Q E => ∃ (a : Addr) (ks : List Str) (t : Tr) (v : V), vs = [.ref a, v] ∧ SqL K H a (ks.map V.str) ∧ TreeAt H t v ∧ t.size ≤ 20 ∧ (∀ k ∈ ks, PyData.strOk k = true) ∧ (∀ k ∈ t.row, PyData.strOk k = true) ∧ ∀ H', Same H H' → (t.row = ks → Q .non H') ∧ (t.row ≠ ks → E (.ref cT) none H')
theorem okx_check_tree {c_NoTree : Addr} (D : DefAt K mg "check_tree" s_check_tree ["keys", "tree"]) (B : Blt mg) (e_NoTree : ErrAt K mg "NoTree" c_NoTree) (h_row_of : Has P w K mg base "row_of" ["tree"] 21 (sp_row_of K 21)) : HasX P w K mg base "check_tree" ["keys", "tree"] 22 (spx_check_tree K c_NoTree) := by
  refine D.hasX sc_check_tree (fun vs H Q E h => ?_) (fun f cdv A outer s H vs Q E hr h => ?_)
  · obtain ⟨a, ks, t, v, rfl, _⟩ := h
    rfl
  obtain ⟨a, ks, t, v, rfl, hS, hT, hs, hok, hok2, q⟩ := h
  have hu := hr.units
  refine ⟨_, (pss_one (ps_if (pt_cmpR (op_neDK (K := K) hu) (pe_callH h_row_of hr rfl (pa_cons (pv 1) pa_nil)) (pv 0) (nomark _)) (pss_one (ps_raise passes_of rfl rfl e_NoTree.m e_NoTree.f (pa_cons pe_str pa_nil))) pss_nil)), ?_⟩
  walk_at "rd"
  refine ⟨t, v, rfl, hT, Nat.lt_succ_of_le (Nat.le_trans t.depth_le hs), by omega, fun r H' s1 n1 e1 => ?_⟩
  refine ⟨_, data_strs (SqL.of e1), _, data_strs (s1.seq hS), shaped_strs hok2, shaped_strs hok, ?_⟩
  rw [eqv_strs]
  by_cases e : t.row = ks
  · rw [decide_eq_true e, if_neg (by decide)]
    exact (q _ s1).1 e
  · rw [decide_eq_false e, if_pos (by decide)]
    exact ⟨by decide, (q _ s1).2 e⟩

/-- the sign at a place -/
def sp_sign_at : Sp := fun vs H Q _ => ∃ (x : Str) (p : Nat), vs = [.str x, .int p] ∧ x.length ≤ 5000 ∧ Q (.str (signAt x.cps.toList p)) H
theorem ok_sign_at (D : DefAt K mg "sign_at" s_sign_at ["text", "place"]) (B : Blt mg) : Has P w K mg base "sign_at" ["text", "place"] 1 sp_sign_at := by
  refine D.has sc_sign_at (fun vs H Q E h => ?_) (fun f cdv A outer s H vs Q E hr h => ?_)
  · obtain ⟨x, p, rfl, _⟩ := h
    rfl
  obtain ⟨x, p, rfl, hx, q⟩ := h
  refine ⟨_, (pss_one (ps_ret (pe_slice sl_str (pv 0) (po_some (pv 1)) (po_some (pe_op op_add (pv 1) pe_int))))), ?_⟩
  walk_at "rd"
  refine ⟨by unfold sizeLine; omega, ?_⟩
  rw [slice_sign]
  exact q

/-- the place behind the sign that is asked for, else BadText -/
def spx_behind (cB : Addr) : Sp := fun vs H Q E => ∃ (x s : Str) (p : Nat), vs = [.str x, .int p, .str s] ∧ x.length ≤ 5000 ∧ (signAt x.cps.toList p = s → Q (.int (p + 1 : Nat)) H) ∧ (signAt x.cps.toList p ≠ s → E (.ref cB) none H)
theorem okx_behind {c_BadText : Addr} (D : DefAt K mg "behind" s_behind ["text", "place", "sign"]) (B : Blt mg) (e_BadText : ErrAt K mg "BadText" c_BadText) (h_sign_at : Has P w K mg base "sign_at" ["text", "place"] 1 sp_sign_at) : HasX P w K mg base "behind" ["text", "place", "sign"] 2 (spx_behind c_BadText) := by
  refine D.hasX sc_behind (fun vs H Q E h => ?_) (fun f cdv A outer s H vs Q E hr h => ?_)
  · obtain ⟨x, s, p, rfl, _⟩ := h
    rfl
  obtain ⟨x, y, p, rfl, hx, q1, q2⟩ := h
  refine ⟨_, (pss_cons (ps_if (pt_cmpR op_ne (pe_callH h_sign_at hr rfl (pa_cons (pv 0) (pa_cons (pv 1) pa_nil))) (pv 2) (nomark _)) (pss_one (ps_raise passes_of rfl rfl e_BadText.m e_BadText.f (pa_cons pe_str pa_nil))) pss_nil)
      (pss_one (ps_ret (pe_op op_add (pv 1) pe_int)))), ?_⟩
  walk_at "rd"
  refine ⟨x, p, rfl, hx, rfl, ?_⟩
  by_cases e : signAt x.cps.toList p = y
  · rw [e, if_neg (fun z => z rfl)]
    exact q1 e
  · rw [if_pos (fun z => e (V.str.inj z))]
    exact ⟨by decide, q2 e⟩
/-- where letters end -/
def sp_letters : Sp := fun vs H Q _ => ∃ (x : Str) (a : Nat), vs = [.str x, .int a] ∧ x.length ≤ 5000 ∧ Q (.int (a + ((x.cps.toList.drop a).takeWhile letter).length : Nat)) H
theorem sign_letter {cs : List Nat} {p c : Nat} {r : List Nat} (h : cs.drop p = c :: r) : signAt cs p = ⟨#[c]⟩ := by unfold signAt; rw [h]; rfl
theorem ok_letters (D : DefAt K mg "word_end" s_word_end ["text", "start"]) (B : Blt mg) (h_sign_at : Has P w K mg base "sign_at" ["text", "place"] 1 sp_sign_at) : Has P w K mg base "word_end" ["text", "start"] 2 sp_letters := by
  refine D.has sc_word_end (fun vs H Q E h => ?_) (fun f cdv A outer s H vs Q E hr h => ?_)
  · obtain ⟨x, a, rfl, _⟩ := h
    rfl
  obtain ⟨x, a, rfl, hx, q⟩ := h
  refine ⟨_, (pss_cons (ps_set (i := 2) sc_word_end.nd rfl (Or.inl rfl) (pv 1))
      (pss_cons (ps_while PassesOwn.never (pt_chain op_le_str op_le_str pe_str (pe_callH h_sign_at hr rfl (pa_cons (pv 0) (pa_cons (pv 2) pa_nil))) pe_str) (pss_one (ps_aug (i := 2) sc_word_end.nd rfl (Or.inl rfl) pe_int ip_add)))
      (pss_one (ps_ret (pv 2))))), ?_⟩
  walk_at "rd"
  generalize hw : (x.cps.toList.drop a).takeWhile letter = w' at q
  refine ⟨fun m σ H' => ∃ i : Nat, σ = [some (.str x), some (.int a), some (.int (a + i : Nat))] ∧ H' = H ∧ i ≤ w'.length ∧ m = w'.length - i, ⟨_, 0, rfl, rfl, Nat.zero_le _, rfl⟩, ?_⟩
  rintro m σ H' ⟨i, rfl, rfl, hi, rfl⟩
  walk_at "rd"
  have ea : (Str.ofString "a").cps.toList = [97] := by decide +kernel
  have ez : (Str.ofString "z").cps.toList = [122] := by decide +kernel
  rw [ea, ez]
  refine ⟨x, a + i, rfl, hx, ?_⟩
  have n1 : ∀ c : Nat, (¬ ([c] : List Nat) < [97]) ↔ 97 ≤ c := fun c => by
    have := decide_eq_decide.mp (one_lt c 97)
    rw [this]; omega
  have n2 : ∀ c : Nat, (¬ ([122] : List Nat) < [c]) ↔ c ≤ 122 := fun c => by
    have := decide_eq_decide.mp (one_lt 122 c)
    rw [this]; omega
  have hdd : x.cps.toList.drop (a + i) = w'.drop i ++ (x.cps.toList.drop a).dropWhile letter := by
    have e := while_app letter (x.cps.toList.drop a)
    rw [hw] at e
    rw [← List.drop_drop]
    exact (congrArg (List.drop i) e.symm).trans (List.drop_append_of_le_length hi)
  rcases Nat.lt_or_eq_of_le hi with hlt | heq
  · have hc := of_decide_eq_true (while_all letter (x.cps.toList.drop a) w'[i] (by rw [hw]; exact List.getElem_mem hlt))
    rw [List.drop_eq_getElem_cons hlt, List.cons_append] at hdd
    rw [sign_letter hdd]
    refine ⟨_, rfl, ?_⟩
    rw [if_pos ((n1 _).mpr hc.1)]
    refine ⟨_, rfl, ?_⟩
    rw [if_pos ((n2 _).mpr hc.2)]
    exact ⟨fun σ' H'' => ∃ m', m' < w'.length - i ∧ ∃ i : Nat, σ' = [some (.str x), some (.int a), some (.int (a + i : Nat))] ∧ H'' = H' ∧ i ≤ w'.length ∧ m' = w'.length - i, fun _ _ h => h, w'.length - (i + 1), by omega, i + 1, rfl, rfl, by omega, rfl⟩
  · subst heq
    rw [List.drop_length, List.nil_append] at hdd
    cases e : (x.cps.toList.drop a).dropWhile letter with
    | nil =>
      rw [e] at hdd
      have : signAt x.cps.toList (a + w'.length) = ⟨#[]⟩ := by unfold signAt; rw [hdd]; rfl
      rw [this]
      refine ⟨_, rfl, ?_⟩
      rw [if_neg (fun z => z (List.Lex.nil)), if_neg (fun z => z)]
      exact q
    | cons c r =>
      rw [e] at hdd
      have hl : letter c = false := by
        have := List.head?_dropWhile_not letter (x.cps.toList.drop a)
        rw [e] at this
        exact this
      have hl' := of_decide_eq_false hl
      rw [sign_letter hdd]
      refine ⟨_, rfl, ?_⟩
      by_cases h1 : 97 ≤ c
      · rw [if_pos ((n1 _).mpr h1)]
        refine ⟨_, rfl, ?_⟩
        rw [if_neg (fun z => hl' ⟨h1, (n2 _).mp z⟩)]
        exact q
      · rw [if_neg (fun z => h1 ((n1 _).mp z)), if_neg (fun z => z)]
        exact q
/-- the tree that stands at a place, else BadText: n calls are allowed -/
def spx_tree_at (cB : Addr) (n : Nat) : Sp := fun vs H Q E => ∃ (x : Str) (p : Nat), vs = [.str x, .int p] ∧ x.length ≤ 5000 ∧ (x.cps.toList.drop p).count 40 < n ∧
  ∀ H', Same H H' → (parsT n (x.cps.toList.drop p) = none → E (.ref cB) none H') ∧
    ∀ t, parsT n (x.cps.toList.drop p) = some (t, x.cps.toList.drop (p + (signsT t).length)) → ∀ (r : Addr) (v : V), H' r = some (.tup [v, .int (p + (signsT t).length : Nat)]) → TreeAt H' t v → Q (.ref r) H'
theorem okx_tree_at {c_BadText : Addr} (D : DefAt K mg "tree_at" s_tree_at ["text", "place"]) (B : Blt mg) (h_sign_at : Has P w K mg base "sign_at" ["text", "place"] 1 sp_sign_at) (x_behind : HasX P w K mg base "behind" ["text", "place", "sign"] 2 (spx_behind c_BadText)) (h_word_end : Has P w K mg base "word_end" ["text", "start"] 2 sp_letters) : ∀ n, HasX P w K mg base "tree_at" ["text", "place"] (n + 2) (spx_tree_at c_BadText n)
  | 0 => D.neverX fun vs H Q E ⟨_, _, _, _, h, _⟩ => absurd h (Nat.not_lt_zero _)
  | n + 1 => by
    have x_tree_at := okx_tree_at D B h_sign_at x_behind h_word_end n
    refine D.hasX (k := n + 2) sc_tree_at (fun vs H Q E h => ?_) (fun f cdv A outer s H vs Q E hr h => ?_)
    · obtain ⟨x, p, rfl, _⟩ := h
      rfl
    obtain ⟨x, p, rfl, hx, hc, q⟩ := h
    refine ⟨_, (pss_cons (ps_if (pt_cmpR op_eq (pe_callH h_sign_at hr rfl (pa_cons (pv 0) (pa_cons (pv 1) pa_nil))) pe_str (nomark _)) (pss_one (ps_ret (pe_tup (pa_cons pe_non (pa_cons (pe_op op_add (pv 1) pe_int) pa_nil))))) pss_nil)
      (pss_cons (ps_set (i := 2) sc_tree_at.nd rfl (Or.inl rfl) (pe_callX x_tree_at passes_of hr rfl (pa_cons (pv 0) (pa_cons (pe_callX x_behind passes_of hr rfl (pa_cons (pv 0) (pa_cons (pv 1) (pa_cons pe_str pa_nil)))) pa_nil))))
      (pss_cons (ps_set (i := 3) sc_tree_at.nd rfl (Or.inl rfl) (pe_callX x_behind passes_of hr rfl (pa_cons (pv 0) (pa_cons (pe_ix (ix_tupK (K := K)) (pv 2) pe_int (fun _ _ => rfl)) (pa_cons pe_str pa_nil)))))
      (pss_cons (ps_set (i := 4) sc_tree_at.nd rfl (Or.inl rfl) (pe_callH h_word_end hr rfl (pa_cons (pv 0) (pa_cons (pv 3) pa_nil))))
      (pss_cons (ps_set (i := 5) sc_tree_at.nd rfl (Or.inl rfl) (pe_callX x_tree_at passes_of hr rfl (pa_cons (pv 0) (pa_cons (pe_callX x_behind passes_of hr rfl (pa_cons (pv 0) (pa_cons (pv 4) (pa_cons pe_str pa_nil)))) pa_nil))))
      (pss_one (ps_ret (pe_tup (pa_cons (pe_tup (pa_cons (pe_slice sl_str (pv 0) (po_some (pv 3)) (po_some (pv 4))) (pa_cons (pe_ix (ix_tupK (K := K)) (pv 2) pe_int (fun _ _ => rfl)) (pa_cons (pe_ix (ix_tupK (K := K)) (pv 5) pe_int (fun _ _ => rfl)) pa_nil)))) (pa_cons (pe_callX x_behind passes_of hr rfl (pa_cons (pv 0) (pa_cons (pe_ix (ix_tupK (K := K)) (pv 5) pe_int (fun _ _ => rfl)) (pa_cons pe_str pa_nil)))) pa_nil)))))))))), ?_⟩
    walk_at "rd"
    have em : Str.ofString "-" = ⟨#[45]⟩ := by decide +kernel
    have eo : Str.ofString "(" = ⟨#[40]⟩ := by decide +kernel
    have eb : Str.ofString " " = ⟨#[32]⟩ := by decide +kernel
    have ec : Str.ofString ")" = ⟨#[41]⟩ := by decide +kernel
    rw [em, eo, eb, ec]
    obtain ⟨cs, hcs⟩ : ∃ cs, x.cps.toList = cs := ⟨_, rfl⟩
    rw [hcs] at q hc
    have q' := q
    rw [parsT] at q
    refine ⟨x, p, rfl, hx, rfl, ?_⟩
    rw [hcs]
    cases h45 : after 45 (cs.drop p) with
    | some r =>
      obtain ⟨z1, z2⟩ := after_some h45
      rw [z1, if_pos rfl]
      rw [h45] at q
      refine ⟨by decide, fun p1 n1 => (q _ (same_new n1 _)).2 .nil (by rw [z2]; rfl) p1 .non ?_ rfl⟩
      rw [upd_same]; rfl
    | none =>
      have z1 := after_none h45
      rw [if_neg (fun z => z1 (V.str.inj z))]
      rw [h45] at q
      simp only at q
      refine ⟨x, ⟨#[40]⟩, p, rfl, hx, fun y40 => ?_, fun y40 => ?_⟩
      case refine_2 =>
        rw [hcs] at y40
        cases h40 : after 40 (cs.drop p) with
        | some r => exact absurd (after_some h40).1 y40
        | none => rw [h40] at q; exact (q _ Same.rfl').1 rfl
      rw [hcs] at y40
      cases h40 : after 40 (cs.drop p) with
      | none => exact absurd y40 (after_none h40)
      | some r =>
      obtain ⟨_, rfl⟩ := after_some h40
      rw [h40] at q
      simp only [Option.bind_some] at q
      have hc40 : (cs.drop (p + 1)).count 40 < n := by
        have e := after_eq h40
        rw [e, List.count_cons_self] at hc
        omega
      refine ⟨x, p + 1, rfl, hx, by rw [hcs]; exact hc40, fun H1 s1 => ⟨fun hno => ?_, fun tl htl rl vl e1 t1 => ?_⟩⟩
      · rw [hcs] at hno
        rw [hno] at q
        exact (q _ s1).1 rfl
      rw [hcs] at htl
      rw [htl] at q
      simp only [Option.bind_some] at q
      have ct1 := parsT_count htl
      generalize hp1 : p + 1 + (signsT tl).length = p1 at q htl e1 ct1
      refine ⟨rl, rfl, _, SqT.of e1, _, atI_nat (j := 1) rfl, ?_⟩
      refine ⟨x, ⟨#[32]⟩, p1, rfl, hx, fun y32 => ?_, fun y32 => ?_⟩
      case refine_2 =>
        rw [hcs] at y32
        cases h32 : after 32 (cs.drop p1) with
        | some r => exact absurd (after_some h32).1 y32
        | none => rw [h32] at q; exact (q _ s1).1 rfl
      rw [hcs] at y32
      cases h32 : after 32 (cs.drop p1) with
      | none => exact absurd y32 (after_none h32)
      | some r =>
      obtain ⟨_, rfl⟩ := after_some h32
      rw [h32] at q
      simp only [Option.bind_some] at q
      have ct2 := after_count h32
      refine ⟨x, p1 + 1, rfl, hx, ?_⟩
      rw [hcs]
      have hdw := drop_while letter (cs.drop (p1 + 1))
      have hdc := drop_count letter (cs.drop (p1 + 1))
      rw [List.drop_drop] at hdw
      have htw := take_while letter (cs.drop (p1 + 1))
      generalize hkk : (cs.drop (p1 + 1)).takeWhile letter = kk at q hdw htw
      generalize hp2 : p1 + 1 + kk.length = p2 at hdw
      rw [← hdw] at q hdc
      refine ⟨x, ⟨#[32]⟩, p2, rfl, hx, fun z32 => ?_, fun z32 => ?_⟩
      case refine_2 =>
        rw [hcs] at z32
        cases g32 : after 32 (cs.drop p2) with
        | some r => exact absurd (after_some g32).1 z32
        | none => rw [g32] at q; exact (q _ s1).1 rfl
      rw [hcs] at z32
      cases g32 : after 32 (cs.drop p2) with
      | none => exact absurd z32 (after_none g32)
      | some r =>
      obtain ⟨_, rfl⟩ := after_some g32
      rw [g32] at q
      simp only [Option.bind_some] at q
      have ct3 := after_count g32
      refine ⟨x, p2 + 1, rfl, hx, by rw [hcs]; omega, fun H2 s2 => ⟨fun hno => ?_, fun tr htr rr vr e2 t2 => ?_⟩⟩
      · rw [hcs] at hno
        rw [hno] at q
        exact (q _ (s1.trans s2)).1 rfl
      rw [hcs] at htr
      rw [htr] at q
      simp only [Option.bind_some] at q
      generalize hp3 : p2 + 1 + (signsT tr).length = p3 at q htr e2
      refine ⟨_, rfl, _, rfl, by unfold sizeLine; omega, rl, rfl, _, SqT.of (s2 _ _ e1), vl, atI_nat (j := 0) rfl, rr, rfl, _, SqT.of e2, vr, atI_nat (j := 0) rfl, by decide, fun p4 n4 => ?_⟩
      have hk : Txt.slice x (some ((p1 + 1 : Nat) : Int)) (some ((p2 : Nat) : Int)) = ⟨kk.toArray⟩ := by
        apply str_ext
        rw [slice_signs, hcs, ← hp2, show p1 + 1 + kk.length - (p1 + 1) = kk.length by omega, htw]
      rw [hk]
      have s4 := same_new n4 (.tup [.str ⟨kk.toArray⟩, vl, vr])
      refine ⟨rr, rfl, _, SqT.of (s4 _ _ e2), _, atI_nat (j := 1) rfl, ?_⟩
      refine ⟨x, ⟨#[41]⟩, p3, rfl, hx, fun y41 => ?_, fun y41 => ?_⟩
      case refine_2 =>
        rw [hcs] at y41
        cases h41 : after 41 (cs.drop p3) with
        | some r => exact absurd (after_some h41).1 y41
        | none => rw [h41] at q; exact (q _ ((s1.trans s2).trans s4)).1 rfl
      rw [hcs] at y41
      cases h41 : after 41 (cs.drop p3) with
      | none => exact absurd y41 (after_none h41)
      | some r =>
      obtain ⟨_, rfl⟩ := after_some h41
      rw [h41] at q
      simp only [Option.bind_some] at q
      refine ⟨by decide, fun p5 n5 => ?_⟩
      have s5 := same_new n5 (.tup [.ref p4, .int (p3 + 1 : Nat)])
      have s25 := s4.trans s5
      have hlen : p + (signsT (.node ⟨kk.toArray⟩ tl tr)).length = p3 + 1 := by
        simp only [signsT, List.length_cons, List.length_append, List.length_nil]
        omega
      refine (q _ (s1.trans (s2.trans s25))).2 (.node ⟨kk.toArray⟩ tl tr) (by rw [hlen]) p5 (.ref p4) ?_ ⟨p4, vl, vr, rfl, upd_keep upd_same n5, (t1.same s2).same s25, t2.same s25⟩
      rw [upd_same, hlen]
/-- a text is read, or BadText -/
def spx_read (cB : Addr) : Sp := fun vs H Q E => ∃ x : Str, vs = [.str x] ∧ x.length ≤ 900 ∧ ∀ H', Same H H' → (readT x.cps.toList = none → E (.ref cB) none H') ∧ ∀ t, readT x.cps.toList = some t → ∀ v, TreeAt H' t v → Q v H'
theorem okx_read {c_BadText : Addr} (D : DefAt K mg "read" s_read ["text"]) (B : Blt mg) (c_MOST_KEYS : ∃ t, mg "MOST_KEYS" = some (.int 12 t)) (e_BadText : ErrAt K mg "BadText" c_BadText) (x_tree_at : HasX P w K mg base "tree_at" ["text", "place"] 15 (spx_tree_at c_BadText 13)) (h_row_of : Has P w K mg base "row_of" ["tree"] 21 (sp_row_of K 21)) (h_are_keys : Has P w K mg base "are_keys" ["words"] 2 (sp_are_keys K)) : HasX P w K mg base "read" ["text"] 22 (spx_read c_BadText) := by
  refine D.hasX sc_read (fun vs H Q E h => ?_) (fun f cdv A outer s H vs Q E hr h => ?_)
  · obtain ⟨x, rfl, _⟩ := h
    rfl
  obtain ⟨x, rfl, hx, q⟩ := h
  obtain ⟨_, c_MOST_KEYS⟩ := c_MOST_KEYS
  refine ⟨_, (pss_cons (ps_if (pt_cmpR op_gt (pe_bm PySem.F.plainAttrs_str PySem.F.slot_str_count PySem.F.type_str_count mt_scount (pv 0) (pa_cons pe_str pa_nil)) (pe_glob (v := .int 12) rfl c_MOST_KEYS ⟨_, rfl⟩) (nomark _)) (pss_one (ps_raise passes_of rfl rfl e_BadText.m e_BadText.f (pa_cons pe_str pa_nil))) pss_nil)
      (pss_cons (ps_set (i := 1) sc_read.nd rfl (Or.inl rfl) (pe_callX x_tree_at passes_of hr rfl (pa_cons (pv 0) (pa_cons pe_int pa_nil))))
      (pss_cons (ps_if (pt_cmpR op_ne (pe_ix (ix_tupK (K := K)) (pv 1) pe_int (fun _ _ => rfl)) (pe_callB call_len_str rfl B.len PySem.boot_len (pa_cons (pv 0) pa_nil)) (nomark _)) (pss_one (ps_raise passes_of rfl rfl e_BadText.m e_BadText.f (pa_cons pe_str pa_nil))) pss_nil)
      (pss_cons (ps_if (pt_not (pt_val (pe_callH h_are_keys hr rfl (pa_cons (pe_callH h_row_of hr rfl (pa_cons (pe_ix (ix_tupK (K := K)) (pv 1) pe_int (fun _ _ => rfl)) pa_nil)) pa_nil)))) (pss_one (ps_raise passes_of rfl rfl e_BadText.m e_BadText.f (pa_cons pe_str pa_nil))) pss_nil)
      (pss_one (ps_ret (pe_ix (ix_tupK (K := K)) (pv 1) pe_int (fun _ _ => rfl)))))))), ?_⟩
  walk_at "rd"
  have hlen : x.cps.toList.length = x.length := Array.length_toList
  refine ⟨rfl, ?_⟩
  rw [show Str.ofString "(" = ⟨#[40]⟩ by decide +kernel, count_sign]
  unfold readT at q
  by_cases h12 : 12 < x.cps.toList.count 40
  · rw [if_pos (by omega)]
    rw [if_pos h12] at q
    exact ⟨by decide, (q _ Same.rfl').1 rfl⟩
  rw [if_neg (by omega)]
  rw [if_neg h12] at q
  refine ⟨x, 0, rfl, by omega, by rw [List.drop_zero]; omega, fun H1 s1 => ⟨fun hno => ?_, fun t ht r v e1 t1 => ?_⟩⟩
  · rw [List.drop_zero] at hno
    rw [hno] at q
    exact (q _ s1).1 rfl
  rw [List.drop_zero, Nat.zero_add] at ht
  rw [Nat.zero_add] at e1
  rw [ht] at q
  obtain ⟨hsg, hlt⟩ := parsT_signs ht
  have hct := parsT_count ht
  have hdl := t.depth_le
  refine ⟨r, rfl, _, SqT.of e1, _, atI_nat (j := 1) rfl, by unfold sizeLine; omega, rfl, ?_⟩
  have hall : (signsT t).length + (x.cps.toList.drop (signsT t).length).length = x.length := by
    rw [← hlen]
    have := congrArg List.length hsg
    rw [List.length_append] at this
    omega
  cases hrest : x.cps.toList.drop (signsT t).length with
  | cons c rest =>
    rw [hrest] at q hall
    rw [if_pos (fun z => by have := V.int.inj z; rw [List.length_cons] at hall; omega)]
    exact ⟨by decide, (q _ s1).1 rfl⟩
  | nil =>
    rw [hrest] at q hall
    simp only at q
    rw [if_neg (fun z => z (by rw [List.length_nil] at hall; exact congrArg V.int (by omega)))]
    refine ⟨r, rfl, _, SqT.of e1, v, atI_nat (j := 0) rfl, t, v, rfl, t1, by omega, by omega, fun r2 H2 s2 n2 e2 => ?_⟩
    have hrl := t.row_length
    refine ⟨r2, t.row, rfl, SqL.of e2, by omega, fun k hk => Nat.le_trans (t.row_signs k hk) (by omega), fun H3 s3 => ⟨_, rfl, ?_⟩⟩
    have s23 := s2.trans s3
    cases hb : keysB t.row with
    | true =>
      rw [if_neg (by decide)]
      refine ⟨r, rfl, _, SqT.of (s23 _ _ e1), v, atI_nat (j := 0) rfl, (q H3 (s1.trans s23)).2 t ?_ v (t1.same s23)⟩
      rw [if_pos hb]
    | false =>
      rw [if_pos (by decide)]
      refine ⟨by decide, (q H3 (s1.trans s23)).1 ?_⟩
      rw [hb, if_neg (by decide)]

/-- whether a list is weights -/
def sp_are_weights (K : PySem.W.Frag) : Sp := fun vs H Q _ => ∃ (a : Addr) (ns : List Int) (n : Nat), vs = [.ref a, .int n] ∧ SqL K H a (ns.map V.int) ∧ ns.length ≤ 1000 ∧ ∀ H', Same H H' → Q (.bl (weightsB ns n)) H'
theorem ok_are_weights (D : DefAt K mg "are_weights" s_are_weights ["numbers", "wanted"]) (B : Blt mg) (c_MOST_WEIGHT : ∃ t, mg "MOST_WEIGHT" = some (.int 1000000 t)) : Has P w K mg base "are_weights" ["numbers", "wanted"] 1 (sp_are_weights K) := by
  refine D.has sc_are_weights (fun vs H Q E h => ?_) (fun f cdv A outer s H vs Q E hr h => ?_)
  · obtain ⟨a, ns, n, rfl, _⟩ := h
    rfl
  obtain ⟨a, ns, n, rfl, hS, hl, q⟩ := h
  obtain ⟨_, c_MOST_WEIGHT⟩ := c_MOST_WEIGHT
  refine ⟨_, (pss_one (ps_ret (pe_and (pe_cmpR op_eq (pe_callB (call_lenK (K := K)) rfl B.len PySem.boot_len (pa_cons (pv 0) pa_nil)) (pv 1) (nomark _)) (pe_one (pe_callB (call_all_l rfl) rfl B.all PyProof.Rows.boot_all (pa_cons (pe_comp ["number"] [none] rfl (pi_list (pv 0)) (fun _ _ _ _ _ _ => (pg_name (i := 0) (show (["number"] : List Str).Nodup by decide +kernel) rfl (Or.inl rfl))) (fun _ _ _ _ _ _ => pts_nil) (fun _ _ _ _ _ _ => (pe_chain op_le op_le pe_int (pv 0) (pe_glob (v := .int 1000000) rfl c_MOST_WEIGHT ⟨_, rfl⟩))) (defScope s_are_weights) ["numbers", "wanted"] rfl rfl (by decide +kernel)) pa_nil)))))), ?_⟩
  walk_at "rd"
  refine ⟨_, .inl hS, ?_⟩
  rw [List.length_map]
  by_cases h1 : ns.length = n
  · rw [if_pos (by omega)]
    refine ⟨⟨_, hS⟩, comp_list (vs := ns.map V.int) (fun v => match v with | .int x => .bl (decide (0 ≤ x ∧ x ≤ 1000000)) | _ => .non) (by rw [List.length_map]; omega) hS (fun i v H2 R hv hs k => ?_) (fun l H' n1 s1 e1 => ?_)⟩
    · rw [List.getElem?_map, Option.map_eq_some_iff] at hv
      obtain ⟨x, hx, rfl⟩ := hv
      walk_at "rd"
      refine ite2 (fun h2 => ?_) (fun h2 => ?_)
      · have e : decide (0 ≤ x ∧ x ≤ 1000000) = decide (x ≤ 1000000) := decide_eq_decide.mpr ⟨fun h => h.2, fun h => ⟨h2, h⟩⟩
        rw [← e]
        exact k _ Same.rfl'
      · have e : decide (0 ≤ x ∧ x ≤ 1000000) = false := decide_eq_false fun h => h2 h.1
        rw [← e]
        exact k _ Same.rfl'
    · refine ⟨l, rfl, ns.map fun x => decide (0 ≤ x ∧ x ≤ 1000000), SqL.of (by rw [e1, List.map_map, List.map_map]; rfl), ?_⟩
      have e : ((ns.map fun x => decide (0 ≤ x ∧ x ≤ 1000000)).all id) = weightsB ns n := by
        rw [weightsB, decide_eq_true h1, Bool.true_and, List.all_map]; rfl
      rw [e]
      exact q _ s1
  · rw [if_neg (by omega)]
    rw [weightsB, decide_eq_false h1, Bool.false_and] at q
    exact q _ Same.rfl'

/-- the whole weight of a stretch -/
def sp_whole_weight (K : PySem.W.Frag) : Sp := fun vs H Q _ => ∃ (b c : Addr) (hs ms : List Int) (i n : Nat), vs = [.ref b, .ref c, .int i, .int (i + n : Nat)] ∧ SqL K H b (hs.map V.int) ∧ SqL K H c (ms.map V.int) ∧ i + n ≤ hs.length ∧ ms.length = hs.length + 1 ∧
  ∀ H', Same H H' → Q (.int (wt (fun k => hs.getD k 0) (fun k => ms.getD k 0) i n)) H'
theorem ok_whole_weight (D : DefAt K mg "whole_weight" s_whole_weight ["hits", "misses", "start", "end"]) (B : Blt mg) : Has P w K mg base "whole_weight" ["hits", "misses", "start", "end"] 1 (sp_whole_weight K) := by
  refine D.has sc_whole_weight (fun vs H Q E h => ?_) (fun f cdv A outer s H vs Q E hr h => ?_)
  · obtain ⟨b, c, hs, ms, i, n, rfl, _⟩ := h
    rfl
  obtain ⟨b, c, hs, ms, i, n, rfl, hB, hC, hn, hl, q⟩ := h
  refine ⟨_, (pss_one (ps_ret (pe_op op_add (pe_callB (call_sum_l rfl) rfl B.sum PyProof.Rows.boot_sum (pa_cons (pe_slice (sl_listK (K := K)) (pv 0) (po_some (pv 2)) (po_some (pv 3))) pa_nil)) (pe_callB (call_sum_l rfl) rfl B.sum PyProof.Rows.boot_sum (pa_cons (pe_slice (sl_listK (K := K)) (pv 1) (po_some (pv 2)) (po_some (pe_op op_add (pv 3) pe_int))) pa_nil))))), ?_⟩
  walk_at "rd"
  refine ⟨_, hB, fun p1 n1 => ?_⟩
  rw [cut_midM V.int hs i (i + n) (by omega) (by omega)]
  refine ⟨_, SqL.of upd_same, _, (same_new n1 _).seq hC, fun p2 n2 => ?_⟩
  rw [cut_midM V.int ms i (i + n + 1) (by omega) (by omega)]
  refine ⟨_, SqL.of upd_same, ?_⟩
  have sx := (same_new n1 (.lst (((hs.drop i).take (i + n - i)).map V.int))).trans (same_new n2 (.lst (((ms.drop i).take (i + n + 1 - i)).map V.int)))
  have e1 := sum_cut hs n i (by omega)
  have e2 := sum_cut ms (n + 1) i (by omega)
  rw [show n = i + n - i by omega] at e1
  rw [show n + 1 = i + n + 1 - i by omega] at e2
  rw [e1, e2, show i + n - i = n by omega, show i + n + 1 - i = n + 1 by omega]
  rw [show i + n - i = n by omega, show i + n + 1 - i = n + 1 by omega] at sx
  exact q _ sx

/-- the two sides together, for each root -/
def partedL (rs : List (List Int)) (i n : Nat) : List Int := (List.range n).map fun r => (rs.getD i []).getD r 0 + (rs.getD (i + r + 1) []).getD (n - 1 - r) 0
def sp_parted_worths (K : PySem.W.Frag) : Sp := fun vs H Q _ => ∃ (H0 : Hp) (a : Addr) (rs : List (List Int)) (i n : Nat), vs = [.ref a, .int i, .int (i + n : Nat)] ∧ NewTab H0 H a rs ∧ n ≤ 1000 ∧ i ≤ 1000 ∧ i + n < rs.length ∧ (∀ r, r < n → r < (rs.getD i []).length ∧ n - 1 - r < (rs.getD (i + r + 1) []).length) ∧
  ∀ (l : Addr) (H' : Hp), Same H H' → H l = none → H' l = some (.lst ((partedL rs i n).map V.int)) → Q (.ref l) H'
theorem ok_parted_worths (D : DefAt K mg "parted_worths" s_parted_worths ["table", "start", "end"]) (B : Blt mg) : Has P w K mg base "parted_worths" ["table", "start", "end"] 1 (sp_parted_worths K) := by
  refine D.has sc_parted_worths (fun vs H Q E h => ?_) (fun f cdv A outer s H vs Q E hr h => ?_)
  · obtain ⟨H0, a, rs, i, n, rfl, _⟩ := h
    rfl
  obtain ⟨H0, a, rs, i, n, rfl, hT, hn, hi, hlen, hrows, q⟩ := h
  refine ⟨_, (pss_one (ps_ret (pe_comp ["root", "table", "start", "end"] [none, some 0, some 1, some 2] rfl (pi_range2 rfl B.range (pa_cons (pv 1) (pa_cons (pv 2) pa_nil))) (fun _ _ _ _ _ _ => (pg_name (i := 0) (show (["root", "table", "start", "end"] : List Str).Nodup by decide +kernel) rfl (Or.inl rfl))) (fun _ _ _ _ _ _ => pts_nil) (fun _ _ _ _ _ _ => (pe_op op_add (pe_ix (ix_listK (K := K)) (pe_ix (ix_listK (K := K)) (pv 1) (pv 2) (fun _ _ => rfl)) (pe_op op_sub (pv 0) (pv 2)) (fun _ _ => rfl)) (pe_ix (ix_listK (K := K)) (pe_ix (ix_listK (K := K)) (pv 1) (pe_op op_add (pv 0) pe_int) (fun _ _ => rfl)) (pe_op op_sub (pe_op op_sub (pv 3) (pv 0)) pe_int) (fun _ _ => rfl)))) (defScope s_parted_worths) ["table", "start", "end"] rfl rfl (by decide +kernel)))), ?_⟩
  walk_at "rd"
  refine ⟨_, _, ⟨rfl, rfl⟩, by omega, ?_⟩
  rw [show (((i + n : Nat) : Int) - (i : Int)).toNat = n by omega]
  refine comp_range (n := n) (fun r => .int ((rs.getD i []).getD r 0 + (rs.getD (i + r + 1) []).getD (n - 1 - r) 0)) (by omega) (fun r H2 R hr' hs k => ?_) (fun l H' n1 s1 e1 => q l H' s1 n1 (by rw [e1, partedL, List.map_map]; rfl))
  walk_at "rd"
  obtain ⟨ps, ha, hpl, hrow⟩ := (hT.same hs).top
  obtain ⟨p1, x1, y1⟩ := hrow i i (by omega) rfl
  obtain ⟨p2, x2, y2⟩ := hrow (i + r + 1) ((i : Int) + (r : Int) + 1) (by omega) (by omega)
  obtain ⟨z1, z2⟩ := hrows r hr'
  exact ⟨_, SqL.of ha, _, x1, p1, rfl, _, SqL.of y1, _, atI_int (i := r) z1, _, SqL.of ha, _, x2, p2, rfl, _, SqL.of y2, _, atI_int (i := n - 1 - r) z2, _, rfl, _, rfl, k _ Same.rfl'⟩

/-- the table as far as it has grown: all of the rows behind i0, e + 1 worths of the row i0 -/
def tabF (h m : Nat → Int) (n i0 e : Nat) : List (List Int) := (List.range (n + 1)).map fun i => if i0 < i then (List.range (n + 1 - i)).map (fun k => worth h m k i) else if i = i0 then (List.range (e + 1)).map (fun k => worth h m k i) else [0]
theorem tabF_len (h m : Nat → Int) (n i0 e : Nat) : (tabF h m n i0 e).length = n + 1 := by simp [tabF]
theorem tabF_at (h m : Nat → Int) {n i0 e i : Nat} (hi : i ≤ n) : (tabF h m n i0 e).getD i [] = if i0 < i then (List.range (n + 1 - i)).map (fun k => worth h m k i) else if i = i0 then (List.range (e + 1)).map (fun k => worth h m k i) else [0] := by
  rw [tabF, List.getD_eq_getElem?_getD, List.getElem?_map, List.getElem?_range (by omega)]; rfl
theorem tabF_next (h m : Nat → Int) {n k : Nat} (hk : k < n) : tabF h m n (n - k) k = tabF h m n (n - 1 - k) 0 := by
  unfold tabF
  apply List.map_congr_left
  intro i hi
  rw [List.mem_range] at hi
  by_cases c1 : n - k < i
  · rw [if_pos c1, if_pos (by omega)]
  · rw [if_neg c1]
    by_cases c2 : i = n - k
    · rw [if_pos c2, if_pos (by omega), show n + 1 - i = k + 1 by omega]
    · rw [if_neg c2]
      by_cases c3 : i = n - 1 - k
      · rw [if_neg (by omega), if_pos c3]; simp [worth_zero]
      · rw [if_neg (by omega), if_neg c3]
theorem tabF_end (h m : Nat → Int) {n k : Nat} (hk : k < n) : tabF h m n (n - 1 - k) (k + 1) = tabF h m n (n - (k + 1)) (k + 1) := by rw [show n - 1 - k = n - (k + 1) by omega]
theorem tabF_all (h m : Nat → Int) (n : Nat) : tabF h m n 0 n = worthsL h m n := by
  unfold tabF worthsL
  apply List.map_congr_left
  intro i hi
  rw [List.mem_range] at hi
  by_cases c1 : 0 < i
  · rw [if_pos c1]
  · rw [if_neg c1, if_pos (by omega), show n + 1 - i = n + 1 by omega]
theorem tabF_put (h m : Nat → Int) {n i0 e : Nat} (hi : i0 ≤ n) : (tabF h m n i0 e).set i0 ((List.range (e + 1)).map (fun k => worth h m k i0) ++ [worth h m (e + 1) i0]) = tabF h m n i0 (e + 1) := by
  apply List.ext_getElem?
  intro j
  by_cases hj : j = i0
  · subst hj
    rw [List.getElem?_set_self (by rw [tabF_len]; omega), tabF, List.getElem?_map, List.getElem?_range (by omega)]
    simp only [Option.map_some, Nat.lt_irrefl, if_false, if_true]
    rw [List.range_succ (n := e + 1), List.map_append]; rfl
  · rw [List.getElem?_set_ne (fun z => hj z.symm)]
    unfold tabF
    rw [List.getElem?_map, List.getElem?_map]
    by_cases hj2 : j < n + 1
    · rw [List.getElem?_range hj2]
      simp only [Option.map_some]
      by_cases c : i0 < j
      · rw [if_pos c, if_pos c]
      · rw [if_neg c, if_neg c, if_neg hj, if_neg hj]
    · rw [List.getElem?_eq_none (by rw [List.length_range]; omega)]; rfl
theorem tabF_start (h m : Nat → Int) {n i : Nat} (hi : i ≤ n) : (tabF h m n n 0).getD i [] = [0] := by
  rw [tabF_at h m hi, if_neg (by omega)]
  by_cases c : i = n
  · rw [if_pos c]; simp [worth_zero]
  · rw [if_neg c]
theorem parted_tab (h m : Nat → Int) {n i e : Nat} (hi : i + e + 1 ≤ n) : partedL (tabF h m n i e) i (e + 1) = sides h m (e + 1) i := by
  unfold partedL sides partsOf
  apply List.map_congr_left
  intro r hr
  rw [List.mem_range] at hr
  rw [tabF_at h m (show i ≤ n by omega), tabF_at h m (show i + r + 1 ≤ n by omega), if_neg (Nat.lt_irrefl _), if_pos rfl, if_pos (by omega)]
  congr 1
  · rw [List.getD_eq_getElem?_getD, List.getElem?_map, List.getElem?_range hr]; rfl
  · rw [List.getD_eq_getElem?_getD, List.getElem?_map, List.getElem?_range (by omega)]; rfl
/-- the table of worths -/
def sp_worth_table (K : PySem.W.Frag) : Sp := fun vs H Q _ => ∃ (b c : Addr) (hs ms : List Int), vs = [.ref b, .ref c] ∧ SqL K H b (hs.map V.int) ∧ SqL K H c (ms.map V.int) ∧ hs.length ≤ 100 ∧ ms.length = hs.length + 1 ∧
  ∀ (a : Addr) (H' : Hp), Same H H' → NewTab H H' a (worthsL (fun k => hs.getD k 0) (fun k => ms.getD k 0) hs.length) → Q (.ref a) H'
theorem ok_worth_table (D : DefAt K mg "worth_table" s_worth_table ["hits", "misses"]) (B : Blt mg) (h_whole_weight : Has P w K mg base "whole_weight" ["hits", "misses", "start", "end"] 1 (sp_whole_weight K)) (h_parted_worths : Has P w K mg base "parted_worths" ["table", "start", "end"] 1 (sp_parted_worths K)) : Has P w K mg base "worth_table" ["hits", "misses"] 2 (sp_worth_table K) := by
  refine D.has sc_worth_table (fun vs H Q E h => ?_) (fun f cdv A outer s H vs Q E hr h => ?_)
  · obtain ⟨b, c, hs, ms, rfl, _⟩ := h
    rfl
  obtain ⟨b, c, hs, ms, rfl, hB, hC, h100, hlen, q⟩ := h
  refine ⟨_, (pss_cons (ps_setComp (i := 2) ["miss"] [none] rfl sc_worth_table.nd rfl (Or.inl rfl) (pi_list (pv 1)) (fun _ _ _ _ _ _ => (pg_name (i := 0) (show (["miss"] : List Str).Nodup by decide +kernel) rfl (Or.inl rfl))) (fun _ _ _ _ _ _ => pts_nil) (fun _ _ _ _ _ _ => (pe_lst (pa_cons pe_int pa_nil))) (defScope s_worth_table) ["hits", "misses", "table", "start", "end", "whole"] rfl rfl (by decide +kernel) (by rfl))
      (pss_cons (ps_for PassesOwn.never rfl (pi_rangeD rfl B.range (pa_cons (pe_op op_sub (pe_callB (call_lenK (K := K)) rfl B.len PySem.boot_len (pa_cons (pv 0) pa_nil)) pe_int) (pa_cons (pe_un un_neg pe_int) (pa_cons (pe_un un_neg pe_int) pa_nil)))) (pg_name (i := 3) sc_worth_table.nd rfl (Or.inl rfl)) (pss_one (ps_for PassesOwn.never rfl (pi_range2 rfl B.range (pa_cons (pe_op op_add (pv 3) pe_int) (pa_cons (pe_op op_add (pe_callB (call_lenK (K := K)) rfl B.len PySem.boot_len (pa_cons (pv 0) pa_nil)) pe_int) pa_nil))) (pg_name (i := 4) sc_worth_table.nd rfl (Or.inl rfl)) (pss_cons (ps_set (i := 5) sc_worth_table.nd rfl (Or.inl rfl) (pe_callH h_whole_weight hr rfl (pa_cons (pv 0) (pa_cons (pv 1) (pa_cons (pv 3) (pa_cons (pv 4) pa_nil))))))
      (pss_one (ps_expr (pe_bm PySem.F.plainAttrs_list PySem.F.slot_list_append PySem.F.type_list_append mt_append (pe_ix (ix_listK (K := K)) (pv 2) (pv 3) (fun _ _ => rfl)) (pa_cons (pe_op op_add (pv 5) (pe_callB (call_min_l rfl) rfl B.min PyProof.Rows.boot_min (pa_cons (pe_callH h_parted_worths hr rfl (pa_cons (pv 2) (pa_cons (pv 3) (pa_cons (pv 4) pa_nil)))) pa_nil))) pa_nil))))))))
      (pss_one (ps_ret (pv 2))))), ?_⟩
  walk_at "rd"
  refine ⟨⟨_, hC⟩, comp_rowsL (vs := ms.map V.int) (fun _ => [.int 0]) (by rw [List.length_map]; omega) hC (fun i v H2 R hv hs' k => ?_) (fun a ps H1 n1 s1 e1 hpl hnd hrows => ?_)⟩
  · walk_at "rd"
    exact ⟨by decide, fun p hp => k p _ (same_new hp _) hp upd_same⟩
  rw [List.length_map] at hpl
  obtain ⟨n, hn⟩ : ∃ n, hs.length = n := ⟨_, rfl⟩
  refine ⟨_, .inl (s1.seq hB), _, _, ⟨rfl, rfl⟩, ?_, ?_⟩
  · rw [List.length_map]; omega
  rw [List.length_map, hn, show ((n : Int) - 1 - -1).toNat = n by omega]
  refine for_down (n := n) (fun k σ H' => ∃ o3 o4 o5, σ = [some (.ref b), some (.ref c), some (.ref a), o3, o4, o5] ∧ Same H H' ∧ TabOf H H' a ps (tabF (fun k => hs.getD k 0) (fun k => ms.getD k 0) n (n - k) k)) ⟨_, _, _, rfl, s1, ?_⟩ ?_ ?_
  · refine ⟨n1, e1, by rw [tabF_len]; omega, hnd, fun i p hp => ?_⟩
    obtain ⟨x, y, z⟩ := hrows i p hp
    have hi : i < ps.length := (List.getElem?_eq_some_iff.mp hp).1
    refine ⟨x, y, ?_⟩
    rw [Nat.sub_zero, tabF_start _ _ (by omega)]
    exact z
  · rintro k σ H' hk ⟨o3, o4, o5, rfl, hs', hT⟩
    walk_at "rd"
    obtain ⟨i0, hi0⟩ : ∃ i0, i0 = n - 1 - k := ⟨_, rfl⟩
    rw [show ((n : Int) - 1 - (k : Int)) = (i0 : Int) by omega]
    rw [tabF_next _ _ hk, ← hi0] at hT
    refine ⟨_, .inl (hs'.seq hB), _, _, ⟨rfl, rfl⟩, ?_, ?_⟩
    · rw [List.length_map]; omega
    rw [List.length_map, hn, show ((n : Int) + 1 - ((i0 : Int) + 1)).toNat = k + 1 by omega]
    refine for_range (n := k + 1) (fun e σ H' => ∃ o4 o5, σ = [some (.ref b), some (.ref c), some (.ref a), some (.int i0), o4, o5] ∧ Same H H' ∧ TabOf H H' a ps (tabF (fun k => hs.getD k 0) (fun k => ms.getD k 0) n i0 e)) ⟨_, _, rfl, hs', hT⟩ ?_ ?_
    · rintro e σ H' he ⟨o4, o5, rfl, hs', hT⟩
      walk_at "rd"
      rw [show ((i0 : Int) + 1 + (e : Int)) = ((i0 + (e + 1) : Nat) : Int) by omega]
      refine ⟨b, c, hs, ms, i0, e + 1, rfl, hs'.seq hB, hs'.seq hC, by omega, hlen, fun H2 s2 => ?_⟩
      have hT2 := hT.same s2
      obtain ⟨p, hp1, hp2, hp3⟩ := hT2.row (i := i0) (z := (i0 : Int)) (by rw [tabF_len]; omega)
      have erow : (tabF (fun k => hs.getD k 0) (fun k => ms.getD k 0) n i0 e).getD i0 [] = (List.range (e + 1)).map (fun j => worth (fun k => hs.getD k 0) (fun k => ms.getD k 0) j i0) := by
        rw [tabF_at _ _ (by omega), if_neg (Nat.lt_irrefl _), if_pos rfl]
      rw [erow] at hp3
      refine ⟨_, SqL.of hT2.2.1, _, hp2, .inl ⟨rfl, _, SqL.of hp3⟩, ?_⟩
      refine ⟨H, a, _, i0, e + 1, rfl, ⟨ps, hT2⟩, by omega, by omega, by rw [tabF_len]; omega, fun r hr' => ?_, fun l H3 s3 n3 e3 => ?_⟩
      · rw [erow, tabF_at _ _ (show i0 + r + 1 ≤ n by omega), if_pos (by omega)]
        simp only [List.length_map, List.length_range]
        omega
      rw [parted_tab _ _ (by omega)] at e3
      refine ⟨l, rfl, _, SqL.of e3, by rw [sides_length]; omega, fun M hM hmin => ?_⟩
      have hM' := minL_unique hM hmin
      have hw := worth_pos (fun k => hs.getD k 0) (fun k => ms.getD k 0) (n := e + 1) (by omega) i0
      refine ⟨_, rfl, p, rfl, _, s3 _ _ hp3, ?_, ?_⟩
      · rw [List.length_map, List.length_map, List.length_range]; exact small1000 (by omega)
      have hT3 := (hT2.same s3).put hp1 ((List.range (e + 1)).map (fun j => worth (fun k => hs.getD k 0) (fun k => ms.getD k 0) j i0) ++ [worth (fun k => hs.getD k 0) (fun k => ms.getD k 0) (e + 1) i0])
      rw [tabF_put _ _ (by omega), List.map_append, hw, ← hM'] at hT3
      exact ⟨_, _, ⟨rfl, rfl⟩, ((hs'.trans s2).trans s3).new (hT2.2.2.2.2 i0 p hp1).1, hT3⟩
    · rintro σ H' ⟨o4, o5, rfl, hs', hT⟩
      rw [hi0, tabF_end _ _ hk] at hT
      exact ⟨_, _, _, rfl, hs', hT⟩
  · rintro σ H' ⟨o3, o4, o5, rfl, hs', hT⟩
    walk_at "rd"
    rw [Nat.sub_self, tabF_all, ← hn] at hT
    exact q a H' hs' ⟨ps, hT⟩

theorem worthsL_row (h m : Nat → Int) {n i : Nat} (hi : i ≤ n) : (worthsL h m n).getD i [] = (List.range (n + 1 - i)).map fun k => worth h m k i := by
  rw [worthsL, List.getD_eq_getElem?_getD, List.getElem?_map, List.getElem?_range (by omega)]; rfl
theorem worthsL_at (h m : Nat → Int) {n i k : Nat} (hi : i + k ≤ n) : ((worthsL h m n).getD i []).getD k 0 = worth h m k i := by
  rw [worthsL_row h m (by omega), List.getD_eq_getElem?_getD, List.getElem?_map, List.getElem?_range (by omega)]; rfl
theorem worthsL_len (h m : Nat → Int) (n : Nat) : (worthsL h m n).length = n + 1 := by simp [worthsL]
theorem worthsL_rlen (h m : Nat → Int) {n i : Nat} (hi : i ≤ n) : ((worthsL h m n).getD i []).length = n + 1 - i := by
  rw [worthsL_row h m hi, List.length_map, List.length_range]
theorem parted_all (h m : Nat → Int) {N n i : Nat} (hi : i + n ≤ N) : partedL (worthsL h m N) i n = sides h m n i := by
  unfold partedL sides partsOf
  apply List.map_congr_left
  intro r hr
  rw [List.mem_range] at hr
  rw [worthsL_at h m (by omega), worthsL_at h m (by omega)]

/-- the least place of a root -/
def sp_least_root (K : PySem.W.Frag) : Sp := fun vs H Q _ => ∃ (H0 : Hp) (a : Addr) (h m : Nat → Int) (N i n : Nat), vs = [.ref a, .int i, .int (i + n : Nat)] ∧ NewTab H0 H a (worthsL h m N) ∧ N ≤ 100 ∧ 0 < n ∧ i + n ≤ N ∧
  ∀ H' : Hp, Same H H' → Q (.int (i + rootI h m n i : Nat)) H'
theorem ok_least_root (D : DefAt K mg "least_root" s_least_root ["table", "start", "end"]) (B : Blt mg) (h_parted_worths : Has P w K mg base "parted_worths" ["table", "start", "end"] 1 (sp_parted_worths K)) : Has P w K mg base "least_root" ["table", "start", "end"] 2 (sp_least_root K) := by
  refine D.has sc_least_root (fun vs H Q E h => ?_) (fun f cdv A outer s H vs Q E hr h => ?_)
  · obtain ⟨H0, a, h, m, N, i, n, rfl, _⟩ := h
    rfl
  obtain ⟨H0, a, h, m, N, i, n, rfl, hT, hN, hn, hi, q⟩ := h
  refine ⟨_, (pss_cons (ps_set (i := 3) sc_least_root.nd rfl (Or.inl rfl) (pe_callH h_parted_worths hr rfl (pa_cons (pv 0) (pa_cons (pv 1) (pa_cons (pv 2) pa_nil)))))
      (pss_one (ps_ret (pe_op op_add (pv 1) (pe_bm PySem.F.plainAttrs_list PySem.F.slot_list_index PySem.F.type_list_index mt_index (pv 3) (pa_cons (pe_callB (call_min_l rfl) rfl B.min PyProof.Rows.boot_min (pa_cons (pv 3) pa_nil)) pa_nil)))))), ?_⟩
  walk_at "rd"
  refine ⟨H0, a, _, i, n, rfl, hT, by omega, by omega, by rw [worthsL_len]; omega, fun r hr' => ?_, fun l H1 s1 n1 e1 => ?_⟩
  · rw [worthsL_rlen _ _ (by omega), worthsL_rlen _ _ (by omega)]; omega
  rw [parted_all _ _ hi] at e1
  refine ⟨.inl ⟨rfl, _, SqL.of e1⟩, l, rfl, _, SqL.of e1, by rw [sides_length]; omega, fun M hM hmin => ?_⟩
  have hM' := minL_unique hM hmin
  subst hM'
  have hlt := rootI_lt h m (n := n) (by omega) i
  have hsl := sides_length h m n i
  have hat : ∀ r, r < n → ((sides h m n i).map V.int)[r]? = some (.int (worth h m r i + worth h m (n - 1 - r) (i + r + 1))) := fun r hr => by rw [List.getElem?_map, sides_at h m hr]; rfl
  refine ⟨l, rfl, _, SqL.of e1, rfl, ?_, rootI h m n i, by rw [List.length_map]; omega, ⟨_, hat _ hlt, ?_⟩, fun r z hr' hz => ?_, ?_⟩
  · rw [List.all_map]; exact List.all_eq_true.mpr fun _ _ => rfl
  · rw [rootI_at h m (by omega) i]; simp [eqV]
  · rw [hat r (by omega)] at hz
    cases hz
    have := rootI_first h m i hr' (by omega)
    simp only [eqV]
    exact beq_false_of_ne (by omega)
  · exact q _ s1

/-- the roots of the stretches from one place on -/
def rootsRow (h m : Nat → Int) (N i : Nat) : List Int := (List.range (N - i)).map fun k => ((i + rootI h m (k + 1) i : Nat) : Int)
def sp_root_row (K : PySem.W.Frag) : Sp := fun vs H Q _ => ∃ (H0 : Hp) (a : Addr) (h m : Nat → Int) (N i : Nat), vs = [.ref a, .int i] ∧ NewTab H0 H a (worthsL h m N) ∧ N ≤ 100 ∧ i ≤ N ∧
  ∀ (l : Addr) (H' : Hp), Same H H' → H l = none → H' l = some (.lst ((rootsRow h m N i).map V.int)) → Q (.ref l) H'
theorem ok_root_row (D : DefAt K mg "root_row" s_root_row ["table", "start"]) (B : Blt mg) (h_least_root : Has P w K mg base "least_root" ["table", "start", "end"] 2 (sp_least_root K)) : Has P w K mg base "root_row" ["table", "start"] 3 (sp_root_row K) := by
  refine D.has sc_root_row (fun vs H Q E h => ?_) (fun f cdv A outer s H vs Q E hr h => ?_)
  · obtain ⟨H0, a, h, m, N, i, rfl, _⟩ := h
    rfl
  obtain ⟨H0, a, h, m, N, i, rfl, hT, hN, hi, q⟩ := h
  refine ⟨_, (pss_one (ps_ret (pe_comp ["end", "table", "start"] [none, some 0, some 1] rfl (pi_range2 rfl B.range (pa_cons (pe_op op_add (pv 1) pe_int) (pa_cons (pe_callB (call_lenK (K := K)) rfl B.len PySem.boot_len (pa_cons (pv 0) pa_nil)) pa_nil))) (fun _ _ _ _ _ _ => (pg_name (i := 0) (show (["end", "table", "start"] : List Str).Nodup by decide +kernel) rfl (Or.inl rfl))) (fun _ _ _ _ _ _ => pts_nil) (fun _ _ _ _ _ _ => (pe_callH h_least_root hr rfl (pa_cons (pv 1) (pa_cons (pv 2) (pa_cons (pv 0) pa_nil))))) (defScope s_root_row) ["table", "start"] rfl rfl (by decide +kernel)))), ?_⟩
  walk_at "rd"
  obtain ⟨ps, ha, hpl, hrow⟩ := hT.top
  rw [worthsL_len] at hpl
  refine ⟨_, .inl (SqL.of ha), _, _, ⟨rfl, rfl⟩, ?_, ?_⟩
  · rw [List.length_map]; omega
  rw [List.length_map, hpl, show (((N + 1 : Nat) : Int) - ((i : Int) + 1)).toNat = N - i by omega]
  refine comp_range (n := N - i) (fun k => .int (i + rootI h m (k + 1) i : Nat)) (by omega) (fun k H2 R hk hs go => ?_) (fun l H' n1 s1 e1 => q l H' s1 n1 (by rw [e1, rootsRow, List.map_map]; rfl))
  walk_at "rd"
  rw [show ((i : Int) + 1 + (k : Int)) = ((i + (k + 1) : Nat) : Int) by omega]
  exact ⟨H0, a, h, m, N, i, k + 1, rfl, hT.same hs, hN, by omega, by omega, fun H3 s3 => go _ s3⟩

theorem rootsL_row (h m : Nat → Int) {n i : Nat} (hi : i < n) : (rootsL h m n).getD i [] = rootsRow h m n i := by
  rw [rootsL, List.getD_eq_getElem?_getD, List.getElem?_map, List.getElem?_range hi]; rfl
theorem rootsL_len (h m : Nat → Int) (n : Nat) : (rootsL h m n).length = n := by simp [rootsL]
theorem rootsRow_len (h m : Nat → Int) (N i : Nat) : (rootsRow h m N i).length = N - i := by simp [rootsRow]
theorem rootsRow_at (h m : Nat → Int) {N i k : Nat} (hk : k < N - i) : (rootsRow h m N i).getD k 0 = ((i + rootI h m (k + 1) i : Nat) : Int) := by
  rw [rootsRow, List.getD_eq_getElem?_getD, List.getElem?_map, List.getElem?_range hk]; rfl

theorem bestT_fuel (h m : Nat → Int) (key : Nat → Str) : ∀ f g n i : Nat, n ≤ f → n ≤ g → bestT h m key f n i = bestT h m key g n i
  | 0, 0, n, i, _, _ => rfl
  | 0, g + 1, n, i, h1, _ => by rw [bestT, bestT, if_pos (by omega)]
  | f + 1, 0, n, i, _, h2 => by rw [bestT, bestT, if_pos (by omega)]
  | f + 1, g + 1, n, i, h1, h2 => by
    rw [bestT, bestT]
    by_cases hn : n = 0
    · rw [if_pos hn, if_pos hn]
    · have hlt := rootI_lt h m hn i
      rw [if_neg hn, if_neg hn, bestT_fuel h m key f g _ _ (by omega) (by omega), bestT_fuel h m key f g _ _ (by omega) (by omega)]
/-- the tree that the roots tell: n calls are allowed -/
def sp_grown (K : PySem.W.Frag) (d : Nat) : Sp := fun vs H Q _ => ∃ (H0 : Hp) (a b : Addr) (ks : List Str) (h m : Nat → Int) (i n : Nat), vs = [.ref a, .ref b, .int i, .int (i + n : Nat)] ∧ SqL K H a (ks.map V.str) ∧ NewTab H0 H b (rootsL h m ks.length) ∧ ks.length ≤ 100 ∧ i + n ≤ ks.length ∧ n < d ∧
  ∀ (v : V) (H' : Hp), Same H H' → TreeAt H' (bestT h m (fun k => ks.getD k ⟨#[]⟩) n n i) v → Q v H'
theorem ok_grown (D : DefAt K mg "grown" s_grown ["keys", "root_rows", "start", "end"]) (B : Blt mg) : ∀ d, Has P w K mg base "grown" ["keys", "root_rows", "start", "end"] d (sp_grown K d)
  | 0 => D.never fun vs H Q E ⟨_, _, _, _, _, _, _, _, _, _, _, _, _, h, _⟩ => absurd h (Nat.not_lt_zero _)
  | d + 1 => by
    have h_grown := ok_grown D B d
    refine D.has sc_grown (fun vs H Q E h => ?_) (fun f cdv A outer s H vs Q E hr h => ?_)
    · obtain ⟨H0, a, b, ks, h, m, i, n, rfl, _⟩ := h
      rfl
    obtain ⟨H0, a, b, ks, h, m, i, n, rfl, hA, hT, h100, hi, hd, q⟩ := h
    refine ⟨_, (pss_cons (ps_if (pt_cmpR op_eq (pv 2) (pv 3) (nomark _)) (pss_one (ps_ret pe_non)) pss_nil)
      (pss_cons (ps_set (i := 4) sc_grown.nd rfl (Or.inl rfl) (pe_ix (ix_listK (K := K)) (pe_ix (ix_listK (K := K)) (pv 1) (pv 2) (fun _ _ => rfl)) (pe_op op_sub (pe_op op_sub (pv 3) (pv 2)) pe_int) (fun _ _ => rfl)))
      (pss_one (ps_ret (pe_tup (pa_cons (pe_ix (ix_listK (K := K)) (pv 0) (pv 4) (fun _ _ => rfl)) (pa_cons (pe_callH h_grown hr rfl (pa_cons (pv 0) (pa_cons (pv 1) (pa_cons (pv 2) (pa_cons (pv 4) pa_nil))))) (pa_cons (pe_callH h_grown hr rfl (pa_cons (pv 0) (pa_cons (pv 1) (pa_cons (pe_op op_add (pv 4) pe_int) (pa_cons (pv 3) pa_nil))))) pa_nil)))))))), ?_⟩
    walk_at "rd"
    by_cases hn : n = 0
    · subst hn
      rw [if_pos (by omega)]
      exact q .non H Same.rfl' rfl
    · rw [if_neg (by omega)]
      have hlt := rootI_lt h m hn i
      obtain ⟨ps, ha, hpl, hrow⟩ := hT.top
      obtain ⟨p, x1, y1⟩ := hrow i i (by rw [rootsL_len]; omega) rfl
      rw [rootsL_row _ _ (by omega)] at y1
      refine ⟨_, SqL.of ha, _, x1, p, rfl, _, SqL.of y1, .int (i + rootI h m n i : Nat), ?_, ?_⟩
      · rw [atI_int (i := n - 1) (by rw [rootsRow_len]; omega), rootsRow_at _ _ (by omega), show n - 1 + 1 = n by omega]
      refine ⟨_, _, rfl, hA, .str (ks.getD (i + rootI h m n i) ⟨#[]⟩), atI_strs (i := i + rootI h m n i) (by omega) rfl, ?_⟩
      refine ⟨H0, a, b, ks, h, m, i, rootI h m n i, rfl, hA, hT, h100, by omega, by omega, fun vl H1 s1 t1 => ⟨_, rfl, ?_⟩⟩
      refine ⟨H0, a, b, ks, h, m, i + rootI h m n i + 1, n - 1 - rootI h m n i, ?_, s1.seq hA, hT.same s1, h100, by omega, by omega, fun vr H2 s2 t2 => ⟨by decide, fun p3 n3 => ?_⟩⟩
      · rw [show i + rootI h m n i + 1 + (n - 1 - rootI h m n i) = i + n by omega]; rfl
      have s3 := same_new n3 (.tup [.str (ks.getD (i + rootI h m n i) ⟨#[]⟩), vl, vr])
      refine q _ _ ((s1.trans s2).trans s3) ?_
      obtain ⟨n', rfl⟩ : ∃ n', n = n' + 1 := ⟨n - 1, by omega⟩
      rw [bestT, if_neg hn]
      refine ⟨p3, vl, vr, rfl, upd_same, ?_, ?_⟩
      · rw [bestT_fuel h m _ n' (rootI h m (n' + 1) i) _ _ (by omega) (by omega)]
        exact (t1.same s2).same s3
      · rw [bestT_fuel h m _ n' (n' + 1 - 1 - rootI h m (n' + 1) i) _ _ (by omega) (by omega)]
        exact t2.same s3

/-- weights are let through, else NoWeights -/
def spx_check_weights (K : PySem.W.Frag) (cW : Addr) : Sp := fun vs H Q E => ∃ (a b c : Addr) (ks : List Str) (hs ms : List Int), vs = [.ref a, .ref b, .ref c] ∧ SqL K H a (ks.map V.str) ∧ SqL K H b (hs.map V.int) ∧ SqL K H c (ms.map V.int) ∧ hs.length ≤ 1000 ∧ ms.length ≤ 1000 ∧
  ∀ H', Same H H' → (weightsB hs ks.length = true → weightsB ms (ks.length + 1) = true → Q .non H') ∧ ((weightsB hs ks.length && weightsB ms (ks.length + 1)) = false → E (.ref cW) none H')
theorem okx_check_weights {c_NoWeights : Addr} (D : DefAt K mg "check_weights" s_check_weights ["keys", "hits", "misses"]) (B : Blt mg) (e_NoWeights : ErrAt K mg "NoWeights" c_NoWeights) (h_are_weights : Has P w K mg base "are_weights" ["numbers", "wanted"] 1 (sp_are_weights K)) : HasX P w K mg base "check_weights" ["keys", "hits", "misses"] 2 (spx_check_weights K c_NoWeights) := by
  refine D.hasX sc_check_weights (fun vs H Q E h => ?_) (fun f cdv A outer s H vs Q E hr h => ?_)
  · obtain ⟨a, b, c, ks, hs, ms, rfl, _⟩ := h
    rfl
  obtain ⟨a, b, c, ks, hs, ms, rfl, hA, hB, hC, h1, h2, q⟩ := h
  refine ⟨_, (pss_cons (ps_if (pt_not (pt_val (pe_callH h_are_weights hr rfl (pa_cons (pv 1) (pa_cons (pe_callB (call_lenK (K := K)) rfl B.len PySem.boot_len (pa_cons (pv 0) pa_nil)) pa_nil))))) (pss_one (ps_raise passes_of rfl rfl e_NoWeights.m e_NoWeights.f (pa_cons pe_str pa_nil))) pss_nil)
      (pss_one (ps_if (pt_not (pt_val (pe_callH h_are_weights hr rfl (pa_cons (pv 2) (pa_cons (pe_op op_add (pe_callB (call_lenK (K := K)) rfl B.len PySem.boot_len (pa_cons (pv 0) pa_nil)) pe_int) pa_nil))))) (pss_one (ps_raise passes_of rfl rfl e_NoWeights.m e_NoWeights.f (pa_cons pe_str pa_nil))) pss_nil))), ?_⟩
  walk_at "rd"
  refine ⟨_, .inl hA, b, hs, ks.length, by rw [List.length_map], hB, h1, fun H1 s1 => ⟨_, rfl, ?_⟩⟩
  cases hb : weightsB hs ks.length with
  | false =>
    rw [if_pos (by decide)]
    exact ⟨by decide, (q _ s1).2 (by rw [hb]; rfl)⟩
  | true =>
    rw [if_neg (by decide)]
    refine ⟨_, .inl (s1.seq hA), c, ms, ks.length + 1, by rw [List.length_map]; rfl, s1.seq hC, h2, fun H2 s2 => ⟨_, rfl, ?_⟩⟩
    cases hm : weightsB ms (ks.length + 1) with
    | false =>
      rw [if_pos (by decide)]
      exact ⟨by decide, (q _ (s1.trans s2)).2 (by rw [hb, hm]; rfl)⟩
    | true =>
      rw [if_neg (by decide)]
      exact (q _ (s1.trans s2)).1 hb hm
/-- keys, then weights are asked for; R tells what comes back -/
def spx_asked3 (K : PySem.W.Frag) (cK cW : Addr) (R : List Str → List Int → List Int → Hp → Hp → V → Prop) : Sp := fun vs H Q E => ∃ (a b c : Addr) (ks : List Str) (hs ms : List Int), vs = [.ref a, .ref b, .ref c] ∧ SqL K H a (ks.map V.str) ∧ SqL K H b (hs.map V.int) ∧ SqL K H c (ms.map V.int) ∧ ks.length ≤ 1000 ∧ (∀ k ∈ ks, k.length ≤ 1000) ∧ hs.length ≤ 1000 ∧ ms.length ≤ 1000 ∧
  ∀ H', Same H H' → (keysB ks = false → E (.ref cK) none H') ∧ (keysB ks = true → (weightsB hs ks.length && weightsB ms (ks.length + 1)) = false → E (.ref cW) none H') ∧
    (keysB ks = true → weightsB hs ks.length = true → weightsB ms (ks.length + 1) = true → ∀ v, R ks hs ms H H' v → Q v H')
def rWorths (ks : List Str) (hs ms : List Int) (H H' : Hp) (v : V) : Prop := ∃ l, v = .ref l ∧ NewTab H H' l (worthsL (wf hs) (wf ms) ks.length)
def rRoots (ks : List Str) (hs ms : List Int) (H H' : Hp) (v : V) : Prop := ∃ l, v = .ref l ∧ NewTab H H' l (rootsL (wf hs) (wf ms) ks.length)
def bestOf (ks : List Str) (hs ms : List Int) : Tr := bestT (wf hs) (wf ms) (fun k => ks.getD k ⟨#[]⟩) ks.length ks.length 0
def rBest (ks : List Str) (hs ms : List Int) (_ H' : Hp) (v : V) : Prop := TreeAt H' (bestOf ks hs ms) v
theorem okx_worths {c_NoKeys c_NoWeights : Addr} (D : DefAt K mg "worths" s_worths ["keys", "hits", "misses"]) (B : Blt mg) (x_check_keys : HasX P w K mg base "check_keys" ["keys"] 3 (spx_check_keys K c_NoKeys)) (x_check_weights : HasX P w K mg base "check_weights" ["keys", "hits", "misses"] 2 (spx_check_weights K c_NoWeights)) (h_worth_table : Has P w K mg base "worth_table" ["hits", "misses"] 2 (sp_worth_table K)) : HasX P w K mg base "worths" ["keys", "hits", "misses"] 4 (spx_asked3 K c_NoKeys c_NoWeights rWorths) := by
  refine D.hasX sc_worths (fun vs H Q E h => ?_) (fun f cdv A outer s H vs Q E hr h => ?_)
  · obtain ⟨a, b, c, ks, hs, ms, rfl, _⟩ := h
    rfl
  obtain ⟨a, b, c, ks, hs, ms, rfl, hA, hB, hC, h1, h2, h3, h4, q⟩ := h
  refine ⟨_, (pss_cons (ps_expr (pe_callX x_check_keys passes_of hr rfl (pa_cons (pv 0) pa_nil)))
      (pss_cons (ps_expr (pe_callX x_check_weights passes_of hr rfl (pa_cons (pv 0) (pa_cons (pv 1) (pa_cons (pv 2) pa_nil)))))
      (pss_one (ps_ret (pe_callH h_worth_table hr rfl (pa_cons (pv 1) (pa_cons (pv 2) pa_nil))))))), ?_⟩
  walk_at "rd"
  refine ⟨a, ks, rfl, hA, h1, h2, fun H1 s1 => ⟨fun k1 => ?_, fun k1 => (q _ s1).1 k1⟩⟩
  refine ⟨a, b, c, ks, hs, ms, rfl, s1.seq hA, s1.seq hB, s1.seq hC, h3, h4, fun H2 s2 => ⟨fun w1 w2 => ?_, fun z => (q _ (s1.trans s2)).2.1 k1 z⟩⟩
  have s12 := s1.trans s2
  have h12 := (keys_of k1).many
  have lh := (weights_of w1).len
  have lm := (weights_of w2).len
  refine ⟨b, c, hs, ms, rfl, s12.seq hB, s12.seq hC, by omega, by omega, fun l H3 s3 hT => ?_⟩
  rw [lh] at hT
  exact (q _ (s12.trans s3)).2.2 k1 w1 w2 _ ⟨l, rfl, hT.base s12⟩
theorem okx_roots {c_NoKeys c_NoWeights : Addr} (D : DefAt K mg "roots" s_roots ["keys", "hits", "misses"]) (B : Blt mg) (x_worths : HasX P w K mg base "worths" ["keys", "hits", "misses"] 4 (spx_asked3 K c_NoKeys c_NoWeights rWorths)) (h_root_row : Has P w K mg base "root_row" ["table", "start"] 3 (sp_root_row K)) : HasX P w K mg base "roots" ["keys", "hits", "misses"] 5 (spx_asked3 K c_NoKeys c_NoWeights rRoots) := by
  refine D.hasX sc_roots (fun vs H Q E h => ?_) (fun f cdv A outer s H vs Q E hr h => ?_)
  · obtain ⟨a, b, c, ks, hs, ms, rfl, _⟩ := h
    rfl
  obtain ⟨a, b, c, ks, hs, ms, rfl, hA, hB, hC, h1, h2, h3, h4, q⟩ := h
  refine ⟨_, (pss_cons (ps_set (i := 3) sc_roots.nd rfl (Or.inr rfl) (pe_callX x_worths passes_of hr rfl (pa_cons (pv 0) (pa_cons (pv 1) (pa_cons (pv 2) pa_nil)))))
      (pss_one (ps_ret (pe_comp ["start", "table"] [none, some 3] rfl (pi_range1 rfl B.range (pa_cons (pe_callB (call_lenK (K := K)) rfl B.len PySem.boot_len (pa_cons (pv 0) pa_nil)) pa_nil)) (fun _ _ _ _ _ _ => (pg_name (i := 0) (show (["start", "table"] : List Str).Nodup by decide +kernel) rfl (Or.inl rfl))) (fun _ _ _ _ _ _ => pts_nil) (fun _ _ _ _ _ _ => (pe_callH h_root_row hr rfl (pa_cons (pv 1) (pa_cons (pv 0) pa_nil)))) (defScope s_roots) ["keys", "hits", "misses", "table"] rfl rfl (by decide +kernel))))), ?_⟩
  walk_at "rd"
  refine ⟨a, b, c, ks, hs, ms, rfl, hA, hB, hC, h1, h2, h3, h4, fun H1 s1 => ⟨fun k1 => (q _ s1).1 k1, fun k1 z => (q _ s1).2.1 k1 z, fun k1 w1 w2 v hR => ?_⟩⟩
  obtain ⟨l, rfl, hT⟩ := hR
  have h12 := (keys_of k1).many
  refine ⟨_, .inl (s1.seq hA), ?_⟩
  rw [List.length_map]
  refine ⟨by omega, by omega, ?_⟩
  rw [Int.toNat_natCast]
  refine comp_rowsR (n := ks.length) (fun i => (rootsRow (wf hs) (wf ms) ks.length i).map V.int) (by omega) (fun i H2 R hi hs' go => ?_) (fun l2 ps H2 n2 s2 e2 hpl hnd hrows => ?_)
  · walk_at "rd"
    rw [Int.zero_add]
    exact ⟨H, l, _, _, ks.length, i, rfl, hT.same hs', by omega, by omega, fun p H3 s3 n3 e3 => go p H3 s3 n3 e3⟩
  · refine (q H2 (s1.trans s2)).2.2 k1 w1 w2 _ ⟨l2, rfl, ps, s1.none n2, e2, by rw [rootsL_len]; exact hpl, hnd, fun i p hp => ?_⟩
    obtain ⟨x, y, z⟩ := hrows i p hp
    have hi : i < ps.length := (List.getElem?_eq_some_iff.mp hp).1
    exact ⟨s1.none x, y, by rw [rootsL_row _ _ (by omega)]; exact z⟩
theorem okx_best {c_NoKeys c_NoWeights : Addr} (D : DefAt K mg "best" s_best ["keys", "hits", "misses"]) (B : Blt mg) (x_roots : HasX P w K mg base "roots" ["keys", "hits", "misses"] 5 (spx_asked3 K c_NoKeys c_NoWeights rRoots)) (h_grown : Has P w K mg base "grown" ["keys", "root_rows", "start", "end"] 13 (sp_grown K 13)) : HasX P w K mg base "best" ["keys", "hits", "misses"] 14 (spx_asked3 K c_NoKeys c_NoWeights rBest) := by
  refine D.hasX sc_best (fun vs H Q E h => ?_) (fun f cdv A outer s H vs Q E hr h => ?_)
  · obtain ⟨a, b, c, ks, hs, ms, rfl, _⟩ := h
    rfl
  obtain ⟨a, b, c, ks, hs, ms, rfl, hA, hB, hC, h1, h2, h3, h4, q⟩ := h
  refine ⟨_, (pss_one (ps_ret (pe_callH h_grown hr rfl (pa_cons (pv 0) (pa_cons (pe_callX x_roots passes_of hr rfl (pa_cons (pv 0) (pa_cons (pv 1) (pa_cons (pv 2) pa_nil)))) (pa_cons pe_int (pa_cons (pe_callB (call_lenK (K := K)) rfl B.len PySem.boot_len (pa_cons (pv 0) pa_nil)) pa_nil))))))), ?_⟩
  walk_at "rd"
  refine ⟨a, b, c, ks, hs, ms, rfl, hA, hB, hC, h1, h2, h3, h4, fun H1 s1 => ⟨fun k1 => (q _ s1).1 k1, fun k1 z => (q _ s1).2.1 k1 z, fun k1 w1 w2 v hR => ?_⟩⟩
  obtain ⟨l, rfl, hT⟩ := hR
  have h12 := (keys_of k1).many
  refine ⟨_, .inl (s1.seq hA), ?_⟩
  rw [List.length_map]
  exact ⟨H, a, l, ks, wf hs, wf ms, 0, ks.length, by rw [Nat.zero_add]; rfl, s1.seq hA, hT, by omega, by omega, by omega, fun v H2 s2 t2 => (q _ (s1.trans s2)).2.2 k1 w1 w2 v t2⟩

theorem str_len_append (x y : Str) : (x ++ y).length = x.length + y.length := by
  show (x.cps ++ y.cps).size = x.cps.size + y.cps.size
  exact Array.size_append

/-- the tree by halves -/
def halfT : Nat → List Str → Tr
  | 0, _ => .nil
  | f + 1, ks => if ks = [] then .nil else .node (ks.getD (ks.length / 2) ⟨#[]⟩) (halfT f (ks.take (ks.length / 2))) (halfT f (ks.drop (ks.length / 2 + 1)))
theorem halfT_fuel : ∀ (f g : Nat) (ks : List Str), ks.length ≤ f → ks.length ≤ g → halfT f ks = halfT g ks
  | 0, 0, ks, _, _ => rfl
  | 0, g + 1, ks, h, _ => by
    have : ks = [] := List.eq_nil_of_length_eq_zero (by omega)
    subst this; simp [halfT]
  | f + 1, 0, ks, _, h => by
    have : ks = [] := List.eq_nil_of_length_eq_zero (by omega)
    subst this; simp [halfT]
  | f + 1, g + 1, ks, h1, h2 => by
    rw [halfT, halfT]
    by_cases hk : ks = []
    · rw [if_pos hk, if_pos hk]
    · have hn : ks.length ≠ 0 := fun z => hk (List.eq_nil_of_length_eq_zero z)
      rw [if_neg hk, if_neg hk, halfT_fuel f g (ks.take (ks.length / 2)) (by rw [List.length_take]; omega) (by rw [List.length_take]; omega), halfT_fuel f g (ks.drop (ks.length / 2 + 1)) (by rw [List.length_drop]; omega) (by rw [List.length_drop]; omega)]
/-- by halves: n calls are allowed -/
def sp_halved (K : PySem.W.Frag) (n : Nat) : Sp := fun vs H Q _ => ∃ (a : Addr) (ks : List Str), vs = [.ref a] ∧ SqL K H a (ks.map V.str) ∧ ks.length < n ∧ ks.length ≤ 100 ∧ ∀ (v : V) (H' : Hp), Same H H' → TreeAt H' (halfT ks.length ks) v → Q v H'
theorem ok_halved (D : DefAt K mg "halved" s_halved ["keys"]) (B : Blt mg) : ∀ n, Has P w K mg base "halved" ["keys"] n (sp_halved K n)
  | 0 => D.never fun vs H Q E ⟨_, _, _, _, h, _⟩ => absurd h (Nat.not_lt_zero _)
  | n + 1 => by
    have h_halved := ok_halved D B n
    refine D.has sc_halved (fun vs H Q E h => ?_) (fun f cdv A outer s H vs Q E hr h => ?_)
    · obtain ⟨a, ks, rfl, _⟩ := h
      rfl
    obtain ⟨a, ks, rfl, hS, hn, h100, q⟩ := h
    refine ⟨_, (pss_cons (ps_if (pt_cmpR op_eq (pe_callB (call_lenK (K := K)) rfl B.len PySem.boot_len (pa_cons (pv 0) pa_nil)) pe_int (nomark _)) (pss_one (ps_ret pe_non)) pss_nil)
      (pss_cons (ps_set (i := 1) sc_halved.nd rfl (Or.inl rfl) (pe_op op_fdiv (pe_callB (call_lenK (K := K)) rfl B.len PySem.boot_len (pa_cons (pv 0) pa_nil)) pe_int))
      (pss_one (ps_ret (pe_tup (pa_cons (pe_ix (ix_listK (K := K)) (pv 0) (pv 1) (fun _ _ => rfl)) (pa_cons (pe_callH h_halved hr rfl (pa_cons (pe_slice (sl_listK (K := K)) (pv 0) po_none (po_some (pv 1))) pa_nil)) (pa_cons (pe_callH h_halved hr rfl (pa_cons (pe_slice (sl_listK (K := K)) (pv 0) (po_some (pe_op op_add (pv 1) pe_int)) po_none) pa_nil)) pa_nil)))))))), ?_⟩
    walk_at "rd"
    refine ⟨_, .inl hS, ?_⟩
    rw [List.length_map]
    by_cases hk : ks = []
    · subst hk
      rw [if_pos (show ((([] : List Str).length : Nat) : Int) = 0 from rfl)]
      exact q .non H Same.rfl' rfl
    have hn0 : ks.length ≠ 0 := fun z => hk (List.eq_nil_of_length_eq_zero z)
    rw [if_neg (by omega)]
    refine ⟨_, .inl hS, ⟨by decide, by decide⟩, ?_⟩
    rw [List.length_map, show ((ks.length : Int) / 2) = ((ks.length / 2 : Nat) : Int) by omega]
    refine ⟨_, hS, _, atI_strs (ks := ks) (i := ks.length / 2) (by omega), _, hS, fun p1 n1 => ?_⟩
    rw [cut_toM V.str _ (ks.length / 2)]
    have s1 := same_new n1 (.lst ((ks.take (ks.length / 2)).map V.str))
    have lt : (ks.take (ks.length / 2)).length = ks.length / 2 := by rw [List.length_take]; omega
    have ld : (ks.drop (ks.length / 2 + 1)).length = ks.length - (ks.length / 2 + 1) := List.length_drop
    refine ⟨p1, ks.take (ks.length / 2), rfl, SqL.of upd_same, by omega, by omega, fun vl H2 s2 t2 => ?_⟩
    have s12 := s1.trans s2
    refine ⟨_, s12.seq hS, fun p3 n3 => ?_⟩
    rw [cut_fromM V.str _ (ks.length / 2 + 1) (by omega)]
    have s3 := same_new n3 (.lst ((ks.drop (ks.length / 2 + 1)).map V.str))
    refine ⟨p3, ks.drop (ks.length / 2 + 1), rfl, SqL.of upd_same, by omega, by omega, fun vr H4 s4 t4 => ⟨by decide, fun p5 n5 => ?_⟩⟩
    have s34 := s3.trans s4
    have s5 := same_new n5 (.tup [.str (ks.getD (ks.length / 2) ⟨#[]⟩), vl, vr])
    refine q _ _ ((s12.trans s34).trans s5) ?_
    obtain ⟨f, hf⟩ : ∃ f, ks.length = f + 1 := ⟨ks.length - 1, by omega⟩
    have e : halfT ks.length ks = .node (ks.getD (ks.length / 2) ⟨#[]⟩) (halfT (ks.take (ks.length / 2)).length (ks.take (ks.length / 2))) (halfT (ks.drop (ks.length / 2 + 1)).length (ks.drop (ks.length / 2 + 1))) := by
      conv => lhs; rw [hf, halfT, if_neg hk]
      rw [halfT_fuel f (ks.take (ks.length / 2)).length _ (by omega) (Nat.le_refl _), halfT_fuel f (ks.drop (ks.length / 2 + 1)).length _ (by omega) (Nat.le_refl _)]
    rw [e]
    exact ⟨p5, vl, vr, rfl, upd_same, (t2.same s34).same s5, t4.same s5⟩

/-- a tree written: n calls are allowed -/
def sp_written (n : Nat) : Sp := fun vs H Q _ => ∃ (t : Tr) (v : V), vs = [v] ∧ TreeAt H t v ∧ t.depth < n ∧ t.size ≤ 100 ∧ (∀ k ∈ t.row, k.length ≤ 8) ∧ Q (.str (textT t)) H
theorem ok_written (D : DefAt K mg "written" s_written ["tree"]) (B : Blt mg) : ∀ n, Has P w K mg base "written" ["tree"] n (sp_written n)
  | 0 => D.never fun vs H Q E ⟨_, _, _, _, h, _⟩ => absurd h (Nat.not_lt_zero _)
  | n + 1 => by
    have h_written := ok_written D B n
    refine D.has sc_written (fun vs H Q E h => ?_) (fun f cdv A outer s H vs Q E hr h => ?_)
    · obtain ⟨t, v, rfl, _⟩ := h
      rfl
    obtain ⟨t, v, rfl, hT, hd, hsz, hk, q⟩ := h
    refine ⟨_, (pss_cons (ps_if (pt_cmpR op_isN (pv 0) pe_non (nomark _)) (pss_one (ps_ret pe_str)) pss_nil)
      (pss_one (ps_ret (pe_op op_add_str (pe_op op_add_str (pe_op op_add_str (pe_op op_add_str (pe_op op_add_str (pe_op op_add_str pe_str (pe_callH h_written hr rfl (pa_cons (pe_ix (ix_tupK (K := K)) (pv 0) pe_int (fun _ _ => rfl)) pa_nil))) pe_str) (pe_ix (ix_tupK (K := K)) (pv 0) pe_int (fun _ _ => rfl))) pe_str) (pe_callH h_written hr rfl (pa_cons (pe_ix (ix_tupK (K := K)) (pv 0) pe_int (fun _ _ => rfl)) pa_nil))) pe_str)))), ?_⟩
    walk_at "rd"
    cases t with
    | nil =>
      have e : v = .non := hT
      subst e
      rw [if_pos rfl]
      exact q
    | node k l r =>
      obtain ⟨p, vl, vr, rfl, hp, hl, hr'⟩ := hT
      rw [if_neg (fun e => nomatch e)]
      simp only [Tr.depth] at hd
      simp only [Tr.size] at hsz
      have hkl : ∀ x ∈ l.row, x.length ≤ 8 := fun x hx => hk x (by simp [Tr.row, hx])
      have hkr : ∀ x ∈ r.row, x.length ≤ 8 := fun x hx => hk x (by simp [Tr.row, hx])
      have hkk := hk k (by simp [Tr.row])
      have len : ∀ t : Tr, (textT t).length = (signsT t).length := fun t => by rw [← textT_signs]; exact Array.length_toList.symm
      have f1 := signsT_few l hkl
      have f2 := signsT_few r hkr
      have e1 : (Str.ofString "(").length = 1 := by decide +kernel
      have e2 : (Str.ofString " ").length = 1 := by decide +kernel
      have e3 : (Str.ofString ")").length = 1 := by decide +kernel
      refine ⟨p, rfl, _, SqT.of hp, vl, atI_nat (j := 1) rfl, l, vl, rfl, hl, by omega, by omega, hkl, ?_⟩
      have l1 := len l
      have l2 := len r
      refine ⟨_, rfl, ?_, ?_, p, rfl, _, SqT.of hp, _, atI_nat (j := 0) rfl, k, rfl, ?_, ?_, p, rfl, _, SqT.of hp, vr, atI_nat (j := 2) rfl, r, vr, rfl, hr', by omega, by omega, hkr, _, rfl, ?_, ?_, q⟩
      all_goals simp only [str_len_append, e1, e2, e3]
      all_goals (unfold sizeLine; omega)

/-- the root of the left tree goes up -/
def sp_left_up : Sp := fun vs H Q _ => ∃ (k q : Str) (a b r : Tr) (v : V), vs = [v] ∧ TreeAt H (.node k (.node q a b) r) v ∧ ∀ (u : V) (H' : Hp), Same H H' → TreeAt H' (.node q a (.node k b r)) u → Q u H'
theorem ok_left_up (D : DefAt K mg "left_up" s_left_up ["tree"]) (B : Blt mg) : Has P w K mg base "left_up" ["tree"] 1 sp_left_up := by
  refine D.has sc_left_up (fun vs H Q E h => ?_) (fun f cdv A outer s H vs Q E hr h => ?_)
  · obtain ⟨k, q, a, b, r, v, rfl, _⟩ := h
    rfl
  obtain ⟨k, qq, a, b, r, v, rfl, hT, q⟩ := h
  obtain ⟨p, vl, vr, rfl, hp, ⟨p2, va, vb, rfl, hp2, ha, hb⟩, hr'⟩ := hT
  refine ⟨_, (pss_cons (ps_set (i := 1) sc_left_up.nd rfl (Or.inl rfl) (pe_ix (ix_tupK (K := K)) (pv 0) pe_int (fun _ _ => rfl)))
      (pss_one (ps_ret (pe_tup (pa_cons (pe_ix (ix_tupK (K := K)) (pv 1) pe_int (fun _ _ => rfl)) (pa_cons (pe_ix (ix_tupK (K := K)) (pv 1) pe_int (fun _ _ => rfl)) (pa_cons (pe_tup (pa_cons (pe_ix (ix_tupK (K := K)) (pv 0) pe_int (fun _ _ => rfl)) (pa_cons (pe_ix (ix_tupK (K := K)) (pv 1) pe_int (fun _ _ => rfl)) (pa_cons (pe_ix (ix_tupK (K := K)) (pv 0) pe_int (fun _ _ => rfl)) pa_nil)))) pa_nil))))))), ?_⟩
  walk_at "rd"
  refine ⟨_, SqT.of hp, _, atI_nat (j := 1) rfl, p2, rfl, _, SqT.of hp2, _, atI_nat (j := 0) rfl, p2, rfl, _, SqT.of hp2, _, atI_nat (j := 1) rfl, _, SqT.of hp, _, atI_nat (j := 0) rfl, p2, rfl, _, SqT.of hp2, _, atI_nat (j := 2) rfl, _, SqT.of hp, _, atI_nat (j := 2) rfl, by decide, fun p3 n3 => ⟨by decide, fun p4 n4 => ?_⟩⟩
  have s3 := same_new n3 (.tup [.str k, vb, vr])
  have s4 := same_new n4 (.tup [.str qq, va, .ref p3])
  exact q _ _ (s3.trans s4) ⟨p4, va, .ref p3, rfl, upd_same, (ha.same s3).same s4, p3, vb, vr, rfl, upd_keep upd_same n4, (hb.same s3).same s4, (hr'.same s3).same s4⟩
/-- the root of the right tree goes up -/
def sp_right_up : Sp := fun vs H Q _ => ∃ (k q : Str) (l a b : Tr) (v : V), vs = [v] ∧ TreeAt H (.node k l (.node q a b)) v ∧ ∀ (u : V) (H' : Hp), Same H H' → TreeAt H' (.node q (.node k l a) b) u → Q u H'
theorem ok_right_up (D : DefAt K mg "right_up" s_right_up ["tree"]) (B : Blt mg) : Has P w K mg base "right_up" ["tree"] 1 sp_right_up := by
  refine D.has sc_right_up (fun vs H Q E h => ?_) (fun f cdv A outer s H vs Q E hr h => ?_)
  · obtain ⟨k, q, l, a, b, v, rfl, _⟩ := h
    rfl
  obtain ⟨k, qq, l, a, b, v, rfl, hT, q⟩ := h
  obtain ⟨p, vl, vr, rfl, hp, hl, ⟨p2, va, vb, rfl, hp2, ha, hb⟩⟩ := hT
  refine ⟨_, (pss_cons (ps_set (i := 1) sc_right_up.nd rfl (Or.inl rfl) (pe_ix (ix_tupK (K := K)) (pv 0) pe_int (fun _ _ => rfl)))
      (pss_one (ps_ret (pe_tup (pa_cons (pe_ix (ix_tupK (K := K)) (pv 1) pe_int (fun _ _ => rfl)) (pa_cons (pe_tup (pa_cons (pe_ix (ix_tupK (K := K)) (pv 0) pe_int (fun _ _ => rfl)) (pa_cons (pe_ix (ix_tupK (K := K)) (pv 0) pe_int (fun _ _ => rfl)) (pa_cons (pe_ix (ix_tupK (K := K)) (pv 1) pe_int (fun _ _ => rfl)) pa_nil)))) (pa_cons (pe_ix (ix_tupK (K := K)) (pv 1) pe_int (fun _ _ => rfl)) pa_nil))))))), ?_⟩
  walk_at "rd"
  refine ⟨_, SqT.of hp, _, atI_nat (j := 2) rfl, p2, rfl, _, SqT.of hp2, _, atI_nat (j := 0) rfl, _, SqT.of hp, _, atI_nat (j := 0) rfl, _, SqT.of hp, _, atI_nat (j := 1) rfl, p2, rfl, _, SqT.of hp2, _, atI_nat (j := 1) rfl, by decide, fun p3 n3 => ?_⟩
  have s3 := same_new n3 (.tup [.str k, vl, va])
  refine ⟨p2, rfl, _, SqT.of (s3 _ _ hp2), _, atI_nat (j := 2) rfl, by decide, fun p4 n4 => ?_⟩
  have s4 := same_new n4 (.tup [.str qq, .ref p3, vb])
  exact q _ _ (s3.trans s4) ⟨p4, .ref p3, vb, rfl, upd_same, ⟨p3, vl, va, rfl, upd_keep upd_same n4, (hl.same s3).same s4, (ha.same s3).same s4⟩, (hb.same s3).same s4⟩

/-- turned up in the tree: n calls are allowed -/
def sp_turned_in (n : Nat) : Sp := fun vs H Q _ => ∃ (t : Tr) (v : V) (x : Str), vs = [v, .str x] ∧ TreeAt H t v ∧ Rising t.row ∧ x ∈ t.row ∧ t.isRoot x = false ∧ t.depth < n ∧ ∀ (u : V) (H' : Hp), Same H H' → TreeAt H' (turnT t x) u → Q u H'
theorem ok_turned_in (D : DefAt K mg "turned_in" s_turned_in ["tree", "word"]) (B : Blt mg) (h_left_up : Has P w K mg base "left_up" ["tree"] 1 sp_left_up) (h_right_up : Has P w K mg base "right_up" ["tree"] 1 sp_right_up) : ∀ n, Has P w K mg base "turned_in" ["tree", "word"] (n + 1) (sp_turned_in n)
  | 0 => D.never fun vs H Q E ⟨_, _, _, _, _, _, _, _, h, _⟩ => absurd h (Nat.not_lt_zero _)
  | n + 1 => by
    have h_turned_in := ok_turned_in D B h_left_up h_right_up n
    refine D.has (k := n + 1) sc_turned_in (fun vs H Q E h => ?_) (fun f cdv A outer s H vs Q E hr h => ?_)
    · obtain ⟨t, v, x, rfl, _⟩ := h
      rfl
    obtain ⟨t, v, x, rfl, hT, hR, hm, h0, hd, q⟩ := h
    refine ⟨_, (pss_cons (ps_if (pt_cmpR op_lt_str (pv 1) (pe_ix (ix_tupK (K := K)) (pv 0) pe_int (fun _ _ => rfl)) (nomark _)) (pss_cons (ps_if (pt_cmpR op_eq (pe_ix (ix_tupK (K := K)) (pe_ix (ix_tupK (K := K)) (pv 0) pe_int (fun _ _ => rfl)) pe_int (fun _ _ => rfl)) (pv 1) (nomark _)) (pss_one (ps_ret (pe_callH h_left_up hr rfl (pa_cons (pv 0) pa_nil)))) pss_nil)
      (pss_one (ps_ret (pe_tup (pa_cons (pe_ix (ix_tupK (K := K)) (pv 0) pe_int (fun _ _ => rfl)) (pa_cons (pe_callH h_turned_in hr rfl (pa_cons (pe_ix (ix_tupK (K := K)) (pv 0) pe_int (fun _ _ => rfl)) (pa_cons (pv 1) pa_nil))) (pa_cons (pe_ix (ix_tupK (K := K)) (pv 0) pe_int (fun _ _ => rfl)) pa_nil))))))) pss_nil)
      (pss_cons (ps_if (pt_cmpR op_eq (pe_ix (ix_tupK (K := K)) (pe_ix (ix_tupK (K := K)) (pv 0) pe_int (fun _ _ => rfl)) pe_int (fun _ _ => rfl)) (pv 1) (nomark _)) (pss_one (ps_ret (pe_callH h_right_up hr rfl (pa_cons (pv 0) pa_nil)))) pss_nil)
      (pss_one (ps_ret (pe_tup (pa_cons (pe_ix (ix_tupK (K := K)) (pv 0) pe_int (fun _ _ => rfl)) (pa_cons (pe_ix (ix_tupK (K := K)) (pv 0) pe_int (fun _ _ => rfl)) (pa_cons (pe_callH h_turned_in hr rfl (pa_cons (pe_ix (ix_tupK (K := K)) (pv 0) pe_int (fun _ _ => rfl)) (pa_cons (pv 1) pa_nil))) pa_nil)))))))), ?_⟩
    walk_at "rd"
    cases t with
    | nil => simp [Tr.row] at hm
    | node k l r =>
      have hk : k ≠ x := fun z => by rw [Tr.isRoot, decide_eq_true z] at h0; cases h0
      obtain ⟨r1, r2, r3, r4⟩ := rising_node hR
      simp only [Tr.depth] at hd
      have hT' := hT
      obtain ⟨p, vl, vr, rfl, hp, hl, hr'⟩ := hT
      refine ⟨p, rfl, _, SqT.of hp, .str k, rfl, k, rfl, ?_⟩
      rw [turnT] at q
      rcases side_of hR hm hk with ⟨c, hml⟩ | ⟨c, hmr⟩
      · rw [if_pos (of_decide_eq_true c)]
        rw [if_pos c] at q
        cases l with
        | nil => simp [Tr.row] at hml
        | node kl ll lr =>
          have hl' := hl
          obtain ⟨p2, va, vb, rfl, hp2, ha, hb⟩ := hl
          refine ⟨p, rfl, _, SqT.of hp, _, atI_nat (j := 1) rfl, p2, rfl, _, SqT.of hp2, _, atI_nat (j := 0) rfl, rfl, ?_⟩
          by_cases e : kl = x
          · rw [if_pos (by rw [e])]
            rw [Tr.isRoot, decide_eq_true e, if_pos rfl] at q
            exact ⟨k, kl, ll, lr, r, .ref p, rfl, hT', fun u H' s' t' => q u H' s' t'⟩
          · rw [if_neg (fun z => e (V.str.inj z))]
            have hroot : (Tr.node kl ll lr).isRoot x = false := decide_eq_false e
            rw [hroot, if_neg (by decide)] at q
            refine ⟨p, rfl, _, SqT.of hp, .str k, rfl, p, rfl, _, SqT.of hp, _, atI_nat (j := 1) rfl, .node kl ll lr, .ref p2, x, rfl, hl', r1, hml, hroot, by omega, fun u H1 s1 t1 => ?_⟩
            refine ⟨p, rfl, _, SqT.of (s1 _ _ hp), _, atI_nat (j := 2) rfl, by decide, fun p3 n3 => ?_⟩
            have s3 := same_new n3 (.tup [.str k, u, vr])
            exact q _ _ (s1.trans s3) ⟨p3, u, vr, rfl, upd_same, t1.same s3, (hr'.same s1).same s3⟩
      · rw [if_neg (fun z => c (decide_eq_true z))]
        rw [if_neg c] at q
        cases r with
        | nil => simp [Tr.row] at hmr
        | node kr rl rr =>
          have hr'' := hr'
          obtain ⟨p2, va, vb, rfl, hp2, ha, hb⟩ := hr'
          refine ⟨p, rfl, _, SqT.of hp, _, atI_nat (j := 2) rfl, p2, rfl, _, SqT.of hp2, _, atI_nat (j := 0) rfl, rfl, ?_⟩
          by_cases e : kr = x
          · rw [if_pos (by rw [e])]
            rw [Tr.isRoot, decide_eq_true e, if_pos rfl] at q
            exact ⟨k, kr, l, rl, rr, .ref p, rfl, hT', fun u H' s' t' => q u H' s' t'⟩
          · rw [if_neg (fun z => e (V.str.inj z))]
            have hroot : (Tr.node kr rl rr).isRoot x = false := decide_eq_false e
            rw [hroot, if_neg (by decide)] at q
            refine ⟨p, rfl, _, SqT.of hp, .str k, rfl, p, rfl, _, SqT.of hp, _, atI_nat (j := 1) rfl, p, rfl, _, SqT.of hp, _, atI_nat (j := 2) rfl, .node kr rl rr, .ref p2, x, rfl, hr'', r2, hmr, hroot, by omega, fun u H1 s1 t1 => ⟨by decide, fun p3 n3 => ?_⟩⟩
            have s3 := same_new n3 (.tup [.str k, vl, u])
            exact q _ _ (s1.trans s3) ⟨p3, vl, u, rfl, upd_same, (hl.same s1).same s3, t1.same s3⟩

/-- turned, or refused -/
def spx_turned (K : PySem.W.Frag) (cK cT cN cR : Addr) : Sp := fun vs H Q E => ∃ (a : Addr) (ks : List Str) (t : Tr) (v : V) (x : Str), vs = [.ref a, v, .str x] ∧ SqL K H a (ks.map V.str) ∧ TreeAt H t v ∧ ks.length ≤ 1000 ∧ (∀ k ∈ ks, k.length ≤ 1000) ∧ t.size ≤ 20 ∧ (∀ k ∈ t.row, PyData.strOk k = true) ∧
  ∀ H', Same H H' → (keysB ks = false → E (.ref cK) none H') ∧ (keysB ks = true → t.row ≠ ks → E (.ref cT) none H') ∧ (keysB ks = true → t.row = ks → x ∉ ks → E (.ref cN) none H') ∧ (keysB ks = true → t.row = ks → x ∈ ks → t.isRoot x = true → E (.ref cR) none H') ∧
    (keysB ks = true → t.row = ks → x ∈ ks → t.isRoot x = false → ∀ u, TreeAt H' (turnT t x) u → Q u H')
theorem okx_turned {c_NoKeys c_NoTree c_NoKey c_AtRoot : Addr} (D : DefAt K mg "turned" s_turned ["keys", "tree", "word"]) (B : Blt mg) (e_NoKey : ErrAt K mg "NoKey" c_NoKey) (e_AtRoot : ErrAt K mg "AtRoot" c_AtRoot) (x_check_keys : HasX P w K mg base "check_keys" ["keys"] 3 (spx_check_keys K c_NoKeys)) (x_check_tree : HasX P w K mg base "check_tree" ["keys", "tree"] 22 (spx_check_tree K c_NoTree)) (h_turned_in : Has P w K mg base "turned_in" ["tree", "word"] 14 (sp_turned_in 13)) :
    HasX P w K mg base "turned" ["keys", "tree", "word"] 23 (spx_turned K c_NoKeys c_NoTree c_NoKey c_AtRoot) := by
  refine D.hasX sc_turned (fun vs H Q E h => ?_) (fun f cdv A outer s H vs Q E hr h => ?_)
  · obtain ⟨a, ks, t, v, x, rfl, _⟩ := h
    rfl
  obtain ⟨a, ks, t, v, x, rfl, hS, hT, h1, h2, h3, h4, q⟩ := h
  have hu := hr.units
  refine ⟨_, (pss_cons (ps_expr (pe_callX x_check_keys passes_of hr rfl (pa_cons (pv 0) pa_nil)))
      (pss_cons (ps_expr (pe_callX x_check_tree passes_of hr rfl (pa_cons (pv 0) (pa_cons (pv 1) pa_nil))))
      (pss_cons (ps_if (pt_cmpR (op_notIn_seqK (K := K)) (pv 2) (pv 0) (by with_unfolding_all rfl)) (pss_one (ps_raise passes_of rfl rfl e_NoKey.m e_NoKey.f (pa_cons pe_str pa_nil))) pss_nil)
      (pss_cons (ps_if (pt_cmpR op_eq (pe_ix (ix_tupK (K := K)) (pv 1) pe_int (fun _ _ => rfl)) (pv 2) (nomark _)) (pss_one (ps_raise passes_of rfl rfl e_AtRoot.m e_AtRoot.f (pa_cons pe_str pa_nil))) pss_nil)
      (pss_one (ps_ret (pe_callH h_turned_in hr rfl (pa_cons (pv 1) (pa_cons (pv 2) pa_nil))))))))), ?_⟩
  walk_at "rd"
  refine ⟨a, ks, rfl, hS, h1, h2, fun H1 s1 => ⟨fun k1 => ?_, fun k1 => (q _ s1).1 k1⟩⟩
  have hK := keys_of k1
  refine ⟨a, ks, t, v, rfl, s1.seq hS, hT.same s1, h3, fun k hk => wordOk_strOk (hK.words k hk), h4, fun H2 s2 => ⟨fun k2 => ?_, fun k2 => (q _ (s1.trans s2)).2.1 k1 k2⟩⟩
  obtain ⟨_, _, q3, q4, q5⟩ := q _ (s1.trans s2)
  refine ⟨_, .inl ((s1.trans s2).seq hS), rfl, flat_strs _, ?_⟩
  rw [if_pos trivial, inV_strs]
  by_cases hx : x ∈ ks
  · rw [decide_eq_true hx, if_neg (by decide)]
    have hT2 := hT.same (s1.trans s2)
    cases t with
    | nil => rw [← k2] at hx; cases hx
    | node k l r =>
      have hT3 := hT2
      obtain ⟨p, vl, vr, rfl, hp, hl, hr'⟩ := hT2
      refine ⟨p, rfl, _, SqT.of hp, _, atI_nat (j := 0) rfl, rfl, ?_⟩
      by_cases e : k = x
      · rw [if_pos (by rw [e])]
        exact ⟨by decide, q4 k1 k2 hx (decide_eq_true e)⟩
      · rw [if_neg (fun z => e (V.str.inj z))]
        have hd := (Tr.node k l r).depth_le
        have hl2 := (Tr.node k l r).row_length
        have h12 := hK.many
        rw [k2] at hl2
        refine ⟨.node k l r, .ref p, x, rfl, hT3, by rw [k2]; exact hK.rising, by rw [k2]; exact hx, decide_eq_false e, by omega, fun u H3 s3 t3 => ?_⟩
        exact (q _ ((s1.trans s2).trans s3)).2.2.2.2 k1 k2 hx (decide_eq_false e) u t3
  · rw [decide_eq_false hx, if_pos (by decide)]
    exact ⟨by decide, q3 k1 k2 hx⟩

/-- an even tree, or NoKeys -/
def spx_even (K : PySem.W.Frag) (cK : Addr) : Sp := fun vs H Q E => ∃ (a : Addr) (ks : List Str), vs = [.ref a] ∧ SqL K H a (ks.map V.str) ∧ ks.length ≤ 1000 ∧ (∀ k ∈ ks, k.length ≤ 1000) ∧ ∀ H', Same H H' → (keysB ks = false → E (.ref cK) none H') ∧ (keysB ks = true → ∀ v, TreeAt H' (halfT ks.length ks) v → Q v H')
theorem okx_even {c_NoKeys : Addr} (D : DefAt K mg "even" s_even ["keys"]) (B : Blt mg) (x_check_keys : HasX P w K mg base "check_keys" ["keys"] 3 (spx_check_keys K c_NoKeys)) (h_halved : Has P w K mg base "halved" ["keys"] 13 (sp_halved K 13)) : HasX P w K mg base "even" ["keys"] 14 (spx_even K c_NoKeys) := by
  refine D.hasX sc_even (fun vs H Q E h => ?_) (fun f cdv A outer s H vs Q E hr h => ?_)
  · obtain ⟨a, ks, rfl, _⟩ := h
    rfl
  obtain ⟨a, ks, rfl, hS, h1, h2, q⟩ := h
  refine ⟨_, (pss_cons (ps_expr (pe_callX x_check_keys passes_of hr rfl (pa_cons (pv 0) pa_nil)))
      (pss_one (ps_ret (pe_callH h_halved hr rfl (pa_cons (pv 0) pa_nil))))), ?_⟩
  walk_at "rd"
  refine ⟨a, ks, rfl, hS, h1, h2, fun H1 s1 => ⟨fun k1 => ?_, fun k1 => (q _ s1).1 k1⟩⟩
  have h12 := (keys_of k1).many
  exact ⟨a, ks, rfl, s1.seq hS, by omega, by omega, fun v H2 s2 t2 => (q _ (s1.trans s2)).2 k1 v t2⟩

/-- keys, then the tree are asked for; R tells what comes back -/
def spx_asked2 (K : PySem.W.Frag) (cK cT : Addr) (R : List Str → Tr → Hp → V → Prop) : Sp := fun vs H Q E => ∃ (a : Addr) (ks : List Str) (t : Tr) (v : V), vs = [.ref a, v] ∧ SqL K H a (ks.map V.str) ∧ TreeAt H t v ∧ ks.length ≤ 1000 ∧ (∀ k ∈ ks, k.length ≤ 1000) ∧ t.size ≤ 20 ∧ (∀ k ∈ t.row, PyData.strOk k = true) ∧
  ∀ H', Same H H' → (keysB ks = false → E (.ref cK) none H') ∧ (keysB ks = true → t.row ≠ ks → E (.ref cT) none H') ∧ (keysB ks = true → t.row = ks → ∀ u, R ks t H' u → Q u H')
def rShown (_ : List Str) (t : Tr) (_ : Hp) (u : V) : Prop := u = .str (textT t)
theorem okx_shown {c_NoKeys c_NoTree : Addr} (D : DefAt K mg "shown" s_shown ["keys", "tree"]) (B : Blt mg) (x_check_keys : HasX P w K mg base "check_keys" ["keys"] 3 (spx_check_keys K c_NoKeys)) (x_check_tree : HasX P w K mg base "check_tree" ["keys", "tree"] 22 (spx_check_tree K c_NoTree)) (h_written : Has P w K mg base "written" ["tree"] 13 (sp_written 13)) : HasX P w K mg base "shown" ["keys", "tree"] 23 (spx_asked2 K c_NoKeys c_NoTree rShown) := by
  refine D.hasX sc_shown (fun vs H Q E h => ?_) (fun f cdv A outer s H vs Q E hr h => ?_)
  · obtain ⟨a, ks, t, v, rfl, _⟩ := h
    rfl
  obtain ⟨a, ks, t, v, rfl, hS, hT, h1, h2, h3, h4, q⟩ := h
  refine ⟨_, (pss_cons (ps_expr (pe_callX x_check_keys passes_of hr rfl (pa_cons (pv 0) pa_nil)))
      (pss_cons (ps_expr (pe_callX x_check_tree passes_of hr rfl (pa_cons (pv 0) (pa_cons (pv 1) pa_nil))))
      (pss_one (ps_ret (pe_callH h_written hr rfl (pa_cons (pv 1) pa_nil)))))), ?_⟩
  walk_at "rd"
  refine ⟨a, ks, rfl, hS, h1, h2, fun H1 s1 => ⟨fun k1 => ?_, fun k1 => (q _ s1).1 k1⟩⟩
  have hK := keys_of k1
  refine ⟨a, ks, t, v, rfl, s1.seq hS, hT.same s1, h3, fun k hk => wordOk_strOk (hK.words k hk), h4, fun H2 s2 => ⟨fun k2 => ?_, fun k2 => (q _ (s1.trans s2)).2.1 k1 k2⟩⟩
  have s12 := s1.trans s2
  have h12 := hK.many
  have hrl := t.row_length
  have hdl := t.depth_le
  rw [k2] at hrl
  exact ⟨t, v, rfl, hT.same s12, by omega, by omega, fun k hk => (wordOk_len (hK.words k (k2 ▸ hk))).2, (q _ s12).2.2 k1 k2 _ rfl⟩

/-! ### what each of the six calls is handed -/
theorem bad0 : ∀ j, j < 8 → keysB [Str.ofString "b", Txt.slice (Str.ofString "abcdefgh") none (some (1 + ((j : Nat) : Int)))] = false ∧ (Txt.slice (Str.ofString "abcdefgh") none (some (1 + ((j : Nat) : Int)))).length ≤ 1000 := by decide +kernel
theorem bad2 : ∀ j, j < 7 → keysB [Str.ofString "b", Str.ofString "c" ++ repS (Str.ofString "x") j] = true ∧ (Str.ofString "c" ++ repS (Str.ofString "x") j).length ≤ 1000 ∧ (repS (Str.ofString "x") j).length ≤ 900 ∧ (Str.ofString "c").length + (repS (Str.ofString "x") j).length ≤ 900 := by decide +kernel
theorem bad3 : ∀ j, j < 8 → repS (Str.ofString "c") (1 + j) ∉ [Str.ofString "b"] ∧ (repS (Str.ofString "c") (1 + j)).length ≤ 1000 := by decide +kernel
theorem bad5 : ∀ j, j < 9 → readT (Str.ofString "(- " ++ repS (Str.ofString "b") (9 + j) ++ Str.ofString " -)").cps.toList = none ∧ (Str.ofString "(- " ++ repS (Str.ofString "b") (9 + j) ++ Str.ofString " -)").length ≤ 900 ∧ (Str.ofString "(- " ++ repS (Str.ofString "b") (9 + j)).length + (Str.ofString " -)").length ≤ 900 ∧ (Str.ofString "(- ").length + (repS (Str.ofString "b") (9 + j)).length ≤ 900 ∧ (repS (Str.ofString "b") (9 + j)).length ≤ 900 := by decide +kernel
theorem bad1 (c : Nat) : (weightsB [((c : Int) % 1000)] 1 && weightsB [((c : Int) % 1000), (1000001 + (c : Int))] 2) = false := by
  have e : weightsB [((c : Int) % 1000), (1000001 + (c : Int))] 2 = false := by
    unfold weightsB
    simp
    intro _ _
    omega
  rw [e, Bool.and_false]
theorem bad1' (c : Nat) (w1 : weightsB [((c : Int) % 1000)] 1 = true) (w2 : weightsB [((c : Int) % 1000), (1000001 + (c : Int))] 2 = true) : False := by
  have z := bad1 c
  rw [w1, w2] at z
  cases z
theorem root_b : (Tr.node (Str.ofString "b") .nil .nil).isRoot (Str.ofString "b") = true := by decide +kernel
theorem keys_b : keysB [Str.ofString "b"] = true := by decide +kernel
/-- the class of refusal i -/
def cls18 (cK cW cT cN cR cB : Addr) : List Addr := [cK, cW, cT, cN, cR, cB]
/-- refusal i is brought about -/
def spx_refuses (cs : List Addr) : Sp := fun vs H Q E => ∃ (i c : Nat) (C : Addr), vs = [.int i, .int c] ∧ i < 6 ∧ c < 1000000 ∧ cs[i]? = some C ∧ ∀ H', Same H H' → E (.ref C) none H'

theorem okx_refuses {c_NoKeys c_NoWeights c_NoTree c_NoKey c_AtRoot c_BadText : Addr} (D : DefAt K mg "_law_refuses" s_l_refuses ["which", "cell"]) (B : Blt mg) (x_even : HasX P w K mg base "even" ["keys"] 14 (spx_even K c_NoKeys)) (x_best : HasX P w K mg base "best" ["keys", "hits", "misses"] 14 (spx_asked3 K c_NoKeys c_NoWeights rBest)) (x_shown : HasX P w K mg base "shown" ["keys", "tree"] 23 (spx_asked2 K c_NoKeys c_NoTree rShown)) (x_turned : HasX P w K mg base "turned" ["keys", "tree", "word"] 23 (spx_turned K c_NoKeys c_NoTree c_NoKey c_AtRoot)) (x_read : HasX P w K mg base "read" ["text"] 22 (spx_read c_BadText)) :
    HasX P w K mg base "_law_refuses" ["which", "cell"] 24 (spx_refuses (cls18 c_NoKeys c_NoWeights c_NoTree c_NoKey c_AtRoot c_BadText)) := by
  refine D.hasX sc_l_refuses (fun vs H Q E h => ?_) (fun f cdv A outer s H vs Q E hr h => ?_)
  · obtain ⟨i, c, C, rfl, _⟩ := h
    rfl
  obtain ⟨i, c, C, rfl, hi, hc, hC, q⟩ := h
  refine ⟨_, (pss_cons (ps_set (i := 2) sc_l_refuses.nd rfl (Or.inl rfl) (pe_tup (pa_cons pe_str (pa_cons pe_non (pa_cons pe_non pa_nil)))))
      (pss_cons (ps_if (pt_cmpR op_eq (pv 0) pe_int (nomark _)) (pss_one (ps_expr (pe_callX x_even passes_of hr rfl (pa_cons (pe_lst (pa_cons pe_str (pa_cons (pe_slice sl_str pe_str po_none (po_some (pe_op op_add pe_int (pe_op op_mod (pv 1) pe_int)))) pa_nil))) pa_nil)))) pss_nil)
      (pss_cons (ps_if (pt_cmpR op_eq (pv 0) pe_int (nomark _)) (pss_one (ps_expr (pe_callX x_best passes_of hr rfl (pa_cons (pe_lst (pa_cons pe_str pa_nil)) (pa_cons (pe_lst (pa_cons (pe_op op_mod (pv 1) pe_int) pa_nil)) (pa_cons (pe_lst (pa_cons (pe_op op_mod (pv 1) pe_int) (pa_cons (pe_op op_add pe_int (pv 1)) pa_nil))) pa_nil)))))) pss_nil)
      (pss_cons (ps_if (pt_cmpR op_eq (pv 0) pe_int (nomark _)) (pss_one (ps_expr (pe_callX x_shown passes_of hr rfl (pa_cons (pe_lst (pa_cons pe_str (pa_cons (pe_op op_add_str pe_str (pe_op op_mulS pe_str (pe_op op_mod (pv 1) pe_int))) pa_nil))) (pa_cons (pv 2) pa_nil))))) pss_nil)
      (pss_cons (ps_if (pt_cmpR op_eq (pv 0) pe_int (nomark _)) (pss_one (ps_expr (pe_callX x_turned passes_of hr rfl (pa_cons (pe_lst (pa_cons pe_str pa_nil)) (pa_cons (pv 2) (pa_cons (pe_op op_mulS pe_str (pe_op op_add pe_int (pe_op op_mod (pv 1) pe_int))) pa_nil)))))) pss_nil)
      (pss_cons (ps_if (pt_cmpR op_eq (pv 0) pe_int (nomark _)) (pss_one (ps_expr (pe_callX x_turned passes_of hr rfl (pa_cons (pe_lst (pa_cons pe_str pa_nil)) (pa_cons (pv 2) (pa_cons pe_str pa_nil)))))) pss_nil)
      (pss_one (ps_if (pt_cmpR op_eq (pv 0) pe_int (nomark _)) (pss_one (ps_expr (pe_callX x_read passes_of hr rfl (pa_cons (pe_op op_add_str (pe_op op_add_str pe_str (pe_op op_mulS pe_str (pe_op op_add pe_int (pe_op op_mod (pv 1) pe_int)))) pe_str) pa_nil)))) pss_nil)))))))), ?_⟩
  walk_at "rd"
  refine ⟨by rw [sizeLine_eq]; decide, fun p n1 => ?_⟩
  have tT : TreeAt (upd H p (.tup [.str (Str.ofString "b"), .non, .non])) (.node (Str.ofString "b") .nil .nil) (.ref p) := ⟨p, .non, .non, rfl, upd_same, rfl, rfl⟩
  have s1 := same_new n1 (HO.tup [.str (Str.ofString "b"), .non, .non])
  generalize upd H p (HO.tup [.str (Str.ofString "b"), .non, .non]) = H1 at tT s1 ⊢
  have hok : ∀ k ∈ (Tr.node (Str.ofString "b") .nil .nil).row, PyData.strOk k = true := by decide +kernel
  obtain rfl | rfl | rfl | rfl | rfl | rfl : i = 0 ∨ i = 1 ∨ i = 2 ∨ i = 3 ∨ i = 4 ∨ i = 5 := by omega
  · obtain rfl : c_NoKeys = C := Option.some.inj hC
    rw [if_pos (by decide)]
    obtain ⟨j, hj⟩ := Int.eq_ofNat_of_zero_le (Int.emod_nonneg (c : Int) (show (8 : Int) ≠ 0 by decide))
    have hj8 := Int.emod_lt_of_pos (c : Int) (show (0 : Int) < 8 by decide)
    rw [hj] at hj8 ⊢
    obtain ⟨b1, b2⟩ := bad0 j (by omega)
    refine ⟨by decide, by decide +kernel, by rw [sizeLine_eq]; decide, fun p2 n2 => ?_⟩
    exact ⟨p2, [_, _], rfl, SqL.of upd_same, by show 2 ≤ 1000; decide, fun k hk => by
      rcases List.mem_cons.mp hk with rfl | hk
      · decide +kernel
      · rw [List.mem_singleton.mp hk]; exact b2, fun H2 s2 => ⟨fun _ => q _ ((s1.trans (same_new n2 _)).trans s2), fun z => absurd (b1.symm.trans z) (by decide)⟩⟩
  · obtain rfl : c_NoWeights = C := Option.some.inj hC
    rw [if_neg (by decide), if_pos (by decide)]
    refine ⟨by rw [sizeLine_eq]; decide, fun p2 n2 => ⟨by decide, by rw [sizeLine_eq]; decide, fun p3 n3 => ⟨by decide, by rw [sizeLine_eq]; decide, fun p4 n4 => ?_⟩⟩⟩
    exact ⟨p2, p3, p4, [_], [_], [_, _], rfl, SqL.of (upd_keep (upd_keep upd_same n3) n4), SqL.of (upd_keep upd_same n4), SqL.of upd_same, by decide, by decide +kernel, by show 1 ≤ 1000; decide, by show 2 ≤ 1000; decide, fun H2 s2 => ⟨fun z => absurd (keys_b.symm.trans z) (by decide), fun _ _ => q _ ((((s1.trans (same_new n2 _)).trans (same_new n3 _)).trans (same_new n4 _)).trans s2), fun _ w1 w2 => (bad1' c w1 w2).elim⟩⟩
  · obtain rfl : c_NoTree = C := Option.some.inj hC
    rw [if_neg (by decide), if_neg (by decide), if_pos (by decide)]
    obtain ⟨j, hj⟩ := Int.eq_ofNat_of_zero_le (Int.emod_nonneg (c : Int) (show (7 : Int) ≠ 0 by decide))
    have hj8 := Int.emod_lt_of_pos (c : Int) (show (0 : Int) < 7 by decide)
    rw [hj] at hj8
    obtain ⟨b1, b2, b3, b4⟩ := bad2 j (by omega)
    refine ⟨by decide, j, hj, by omega, by decide +kernel, by decide +kernel, by rw [sizeLine_eq]; omega, by rw [sizeLine_eq]; omega, by rw [sizeLine_eq]; decide, fun p2 n2 => ?_⟩
    exact ⟨p2, [_, _], .node (Str.ofString "b") .nil .nil, .ref p, rfl, SqL.of upd_same, tT.same (same_new n2 _), by show 2 ≤ 1000; decide, fun k hk => by
      rcases List.mem_cons.mp hk with rfl | hk
      · decide +kernel
      · rw [List.mem_singleton.mp hk]; exact b2, by decide, hok, fun H2 s2 => ⟨fun z => absurd (b1.symm.trans z) (by decide), fun _ _ => q _ ((s1.trans (same_new n2 _)).trans s2), fun _ z => absurd (show (1 : Nat) = 2 from congrArg List.length z) (by decide)⟩⟩
  · obtain rfl : c_NoKey = C := Option.some.inj hC
    rw [if_neg (by decide), if_neg (by decide), if_neg (by decide), if_pos (by decide)]
    obtain ⟨j, hj⟩ := Int.eq_ofNat_of_zero_le (Int.emod_nonneg (c : Int) (show (8 : Int) ≠ 0 by decide))
    have hj8 := Int.emod_lt_of_pos (c : Int) (show (0 : Int) < 8 by decide)
    rw [hj] at hj8
    obtain ⟨b1, b2⟩ := bad3 j (by omega)
    refine ⟨by rw [sizeLine_eq]; decide, fun p2 n2 => ⟨by decide, 1 + j, by rw [hj]; omega, by omega, by decide +kernel, by decide +kernel, by rw [sizeLine_eq]; omega, ?_⟩⟩
    exact ⟨p2, [Str.ofString "b"], .node (Str.ofString "b") .nil .nil, .ref p, _, rfl, SqL.of upd_same, tT.same (same_new n2 _), by decide, by decide +kernel, by decide, hok, fun H2 s2 => ⟨fun z => absurd (keys_b.symm.trans z) (by decide), fun _ z => absurd rfl z, fun _ _ _ => q _ ((s1.trans (same_new n2 _)).trans s2), fun _ _ z => absurd z b1, fun _ _ z => absurd z b1⟩⟩
  · obtain rfl : c_AtRoot = C := Option.some.inj hC
    rw [if_neg (by decide), if_neg (by decide), if_neg (by decide), if_neg (by decide), if_pos (by decide)]
    refine ⟨by rw [sizeLine_eq]; decide, fun p2 n2 => ?_⟩
    exact ⟨p2, [Str.ofString "b"], .node (Str.ofString "b") .nil .nil, .ref p, _, rfl, SqL.of upd_same, tT.same (same_new n2 _), by decide, by decide +kernel, by decide, hok, fun H2 s2 => ⟨fun z => absurd (keys_b.symm.trans z) (by decide), fun _ z => absurd rfl z, fun _ _ z => absurd (List.mem_singleton.mpr rfl) z, fun _ _ _ _ => q _ ((s1.trans (same_new n2 _)).trans s2), fun _ _ _ z => absurd (root_b.symm.trans z) (by decide)⟩⟩
  · obtain rfl : c_BadText = C := Option.some.inj hC
    rw [if_neg (by decide), if_neg (by decide), if_neg (by decide), if_neg (by decide), if_neg (by decide), if_pos (by decide)]
    obtain ⟨j, hj⟩ := Int.eq_ofNat_of_zero_le (Int.emod_nonneg (c : Int) (show (9 : Int) ≠ 0 by decide))
    have hj8 := Int.emod_lt_of_pos (c : Int) (show (0 : Int) < 9 by decide)
    rw [hj] at hj8
    obtain ⟨b1, b2, b3, b4, b5⟩ := bad5 j (by omega)
    refine ⟨by decide, 9 + j, by rw [hj]; omega, by omega, by decide +kernel, by decide +kernel, by rw [sizeLine_eq]; omega, by rw [sizeLine_eq]; omega, by rw [sizeLine_eq]; omega, ?_⟩
    exact ⟨_, rfl, b2, fun H2 s2 => ⟨fun _ => q _ (s1.trans s2), fun t z => nomatch b1.symm.trans z⟩⟩

theorem err_f {K : PySem.W.Frag} {l : List Addr} {i : Nat} {C : Addr} (tab : errTab K l = true) (hi : l[i]? = some C) : ErrAt K (fun _ => some (.ref C)) "" C := err_at tab rfl hi
/-- which of the six classes an exception in hand is -/
def sp_classes (cs : List Addr) : Sp := fun vs H Q _ => ∃ (e C : Addr) (i : Nat), vs = [.ref e] ∧ H e = some (ExcO e C) ∧ cs[i]? = some C ∧ i < 6 ∧ ∀ (r : Addr) (H' : Hp), Same H H' → H r = none → H' r = some (.lst (((List.range 6).map fun k => decide (k = i)).map V.bl)) → Q (.ref r) H'
theorem ok_classes {c_SeekError c_NoKeys c_NoWeights c_NoTree c_NoKey c_AtRoot c_BadText : Addr} (D : DefAt K mg "_law_classes" s_l_classes ["e"]) (B : Blt mg) (tab : errTab K [c_SeekError, c_NoKeys, c_NoWeights, c_NoTree, c_NoKey, c_AtRoot, c_BadText] = true)
    (e_NoKeys : ErrAt K mg "NoKeys" c_NoKeys) (e_NoWeights : ErrAt K mg "NoWeights" c_NoWeights) (e_NoTree : ErrAt K mg "NoTree" c_NoTree) (e_NoKey : ErrAt K mg "NoKey" c_NoKey) (e_AtRoot : ErrAt K mg "AtRoot" c_AtRoot) (e_BadText : ErrAt K mg "BadText" c_BadText) :
    HasM P w K mg base "_law_classes" ["e"] 1 (sp_classes (cls18 c_NoKeys c_NoWeights c_NoTree c_NoKey c_AtRoot c_BadText)) := by
  refine D.hasM sc_l_classes (fun vs H Q E h => ?_) (fun f cdv A outer s H vs Q hr h => ?_)
  · obtain ⟨e, C, i, rfl, _⟩ := h
    rfl
  obtain ⟨e, C, i, rfl, he, hC, hi, q⟩ := h
  have hC' : [c_SeekError, c_NoKeys, c_NoWeights, c_NoTree, c_NoKey, c_AtRoot, c_BadText][i + 1]? = some C := hC
  have hf := (err_f tab hC').f
  refine ⟨_, (pss_cons (ps_set (i := 1) sc_l_classes.nd rfl (Or.inl rfl) (pe_lst (pa_cons (pe_callB (call_isxK (K := K)) rfl B.isinstance PyProof.Rows.boot_isinstance (pa_cons (pv 0) (pa_cons (pe_glob (v := .ref c_NoKeys) rfl e_NoKeys.m rfl) pa_nil))) (pa_cons (pe_callB (call_isxK (K := K)) rfl B.isinstance PyProof.Rows.boot_isinstance (pa_cons (pv 0) (pa_cons (pe_glob (v := .ref c_NoWeights) rfl e_NoWeights.m rfl) pa_nil))) (pa_cons (pe_callB (call_isxK (K := K)) rfl B.isinstance PyProof.Rows.boot_isinstance (pa_cons (pv 0) (pa_cons (pe_glob (v := .ref c_NoTree) rfl e_NoTree.m rfl) pa_nil))) (pa_cons (pe_callB (call_isxK (K := K)) rfl B.isinstance PyProof.Rows.boot_isinstance (pa_cons (pv 0) (pa_cons (pe_glob (v := .ref c_NoKey) rfl e_NoKey.m rfl) pa_nil))) pa_nil))))))
      (pss_one (ps_ret (pe_op op_cat (pv 1) (pe_lst (pa_cons (pe_callB (call_isxK (K := K)) rfl B.isinstance PyProof.Rows.boot_isinstance (pa_cons (pv 0) (pa_cons (pe_glob (v := .ref c_AtRoot) rfl e_AtRoot.m rfl) pa_nil))) (pa_cons (pe_callB (call_isxK (K := K)) rfl B.isinstance PyProof.Rows.boot_isinstance (pa_cons (pv 0) (pa_cons (pe_glob (v := .ref c_BadText) rfl e_BadText.m rfl) pa_nil))) pa_nil))))))), ?_⟩
  walk_at "rd"
  refine ⟨e, C, _, ⟨rfl, rfl⟩, he, hf, _, err_isi tab (i + 1) 1 hC' rfl rfl, e, C, _, ⟨rfl, rfl⟩, he, hf, _, err_isi tab (i + 1) 2 hC' rfl rfl, e, C, _, ⟨rfl, rfl⟩, he, hf, _, err_isi tab (i + 1) 3 hC' rfl rfl, e, C, _, ⟨rfl, rfl⟩, he, hf, _, err_isi tab (i + 1) 4 hC' rfl rfl, ?_⟩
  refine ⟨by rw [sizeLine_eq]; decide, fun p n1 => ?_⟩
  have he1 := upd_keep (o := HO.lst [V.bl (decide (i + 1 = 1 ∨ 1 = 0)), V.bl (decide (i + 1 = 2 ∨ 2 = 0)), V.bl (decide (i + 1 = 3 ∨ 3 = 0)), V.bl (decide (i + 1 = 4 ∨ 4 = 0))]) he n1
  refine ⟨e, C, _, ⟨rfl, rfl⟩, he1, hf, _, err_isi tab (i + 1) 5 hC' rfl rfl, e, C, _, ⟨rfl, rfl⟩, he1, hf, _, err_isi tab (i + 1) 6 hC' rfl rfl, ?_⟩
  refine ⟨by rw [sizeLine_eq]; decide, fun p2 n2 => ⟨_, upd_keep upd_same n2, _, upd_same, by rw [sizeLine_eq]; show 6 ≤ 16777216; decide, fun p3 n3 => ?_⟩⟩
  have s12 := (same_new n1 (HO.lst [V.bl (decide (i + 1 = 1 ∨ 1 = 0)), V.bl (decide (i + 1 = 2 ∨ 2 = 0)), V.bl (decide (i + 1 = 3 ∨ 3 = 0)), V.bl (decide (i + 1 = 4 ∨ 4 = 0))])).trans (same_new n2 (HO.lst [V.bl (decide (i + 1 = 5 ∨ 5 = 0)), V.bl (decide (i + 1 = 6 ∨ 6 = 0))]))
  refine q p3 _ (s12.trans (same_new n3 _)) (s12.none n3) ?_
  rw [upd_same]
  have e : ∀ i, i < 6 → [decide (i + 1 = 1 ∨ 1 = 0), decide (i + 1 = 2 ∨ 2 = 0), decide (i + 1 = 3 ∨ 3 = 0), decide (i + 1 = 4 ∨ 4 = 0), decide (i + 1 = 5 ∨ 5 = 0), decide (i + 1 = 6 ∨ 6 = 0)] = (List.range 6).map fun k => decide (k = i) := by decide
  rw [← e i hi]
  rfl

/-- a refusal is caught, and of its class alone -/
def sp_caught : Sp := fun vs H Q _ => ∃ i c : Nat, vs = [.int i, .int c] ∧ i < 6 ∧ c < 1000000 ∧ ∀ H', Same H H' → Q (.bl true) H'
theorem ok_caught {c_SeekError c_NoKeys c_NoWeights c_NoTree c_NoKey c_AtRoot c_BadText : Addr} (D : DefAt K mg "_law_caught" s_l_caught ["which", "cell"]) (B : Blt mg) (tab : errTab K [c_SeekError, c_NoKeys, c_NoWeights, c_NoTree, c_NoKey, c_AtRoot, c_BadText] = true) (e_SeekError : ErrAt K mg "SeekError" c_SeekError)
    (x_l_refuses : HasX P w K mg base "_law_refuses" ["which", "cell"] 24 (spx_refuses (cls18 c_NoKeys c_NoWeights c_NoTree c_NoKey c_AtRoot c_BadText))) (m_l_classes : HasM P w K mg base "_law_classes" ["e"] 1 (sp_classes (cls18 c_NoKeys c_NoWeights c_NoTree c_NoKey c_AtRoot c_BadText))) : Has P w K mg base "_law_caught" ["which", "cell"] 25 sp_caught := by
  refine D.has sc_l_caught (fun vs H Q E h => ?_) (fun f cdv A outer s H vs Q E hr h => ?_)
  · obtain ⟨i, c, rfl, _⟩ := h
    rfl
  obtain ⟨i, c, rfl, hi, hc, q⟩ := h
  have hu := hr.units
  obtain ⟨C, hC⟩ : ∃ C, (cls18 c_NoKeys c_NoWeights c_NoTree c_NoKey c_AtRoot c_BadText)[i]? = some C := ⟨_, List.getElem?_eq_getElem (show i < (cls18 c_NoKeys c_NoWeights c_NoTree c_NoKey c_AtRoot c_BadText).length from hi)⟩
  have hC' : [c_SeekError, c_NoKeys, c_NoWeights, c_NoTree, c_NoKey, c_AtRoot, c_BadText][i + 1]? = some C := hC
  have hf := err_f tab hC'
  refine ⟨_, (pss_cons (ps_set (i := 2) sc_l_caught.nd rfl (Or.inl rfl) (pe_lst pa_nil))
      (pss_cons (ps_set (i := 3) sc_l_caught.nd rfl (Or.inl rfl) pe_bl)
      (pss_cons (ps_try (psq_call x_l_refuses hr rfl (pa_cons (pv 0) (pa_cons (pv 1) pa_nil)) psq_nil) (ph_cons (i := 4) rfl e_SeekError.m sc_l_caught.nd rfl rfl (fun _ => (pss_cons (ps_set (i := 2) sc_l_caught.nd rfl (Or.inl rfl) (pe_callM m_l_classes (hr.m _) rfl (pa_cons (pv 4) pa_nil)))
      (pss_one (ps_set (i := 3) sc_l_caught.nd rfl (Or.inl rfl) (pe_callB (call_isxK (K := K)) rfl B.isinstance PyProof.Rows.boot_isinstance (pa_cons (pv 4) (pa_cons (pe_bltn (v := .ty "ValueError") rfl B.ValueError PyProof.Rows.Boot.«ValueError» rfl) pa_nil))))))) ph_nil))
      (pss_one (ps_ret (pe_and (pv 3) (pe_one (pe_cmpR (op_eqDK (K := K) hu) (pv 2) (pe_comp ["k", "which"] [none, some 0] rfl (pi_range1 rfl B.range (pa_cons pe_int pa_nil)) (fun _ _ _ _ _ _ => (pg_name (i := 0) (show (["k", "which"] : List Str).Nodup by decide +kernel) rfl (Or.inl rfl))) (fun _ _ _ _ _ _ => pts_nil) (fun _ _ _ _ _ _ => (pe_cmpR op_eq (pv 0) (pv 1) (nomark _))) (defScope s_l_caught) ["which", "cell", "found", "value", "e"] rfl rfl (by decide +kernel)) (nomark _))))))))), ?_⟩
  walk_at "rd"
  refine ⟨Nat.zero_le _, fun p n1 => ⟨i, c, C, rfl, hi, hc, hC, fun H1 s1 => .inr ⟨C, rfl, err_exm tab (i + 1) 0 hC' rfl (by simp), fun e n2 => ?_⟩⟩⟩
  refine ⟨e, C, i, rfl, upd_same, hC, hi, fun r H2 s2 n3 e3 => ?_⟩
  refine ⟨e, C, _, ⟨rfl, rfl⟩, s2 _ _ upd_same, hf.f, true, err_ve hf, ?_⟩
  rw [if_pos rfl]
  refine ⟨by decide, by decide, comp_range (n := 6) (fun k => .bl (decide (0 + (k : Int) = i))) (by decide) (fun k H3 R hk hs go => ?_) (fun l H3 n4 s4 e4 => ?_)⟩
  · walk_at "rd"
    exact go _ Same.rfl'
  · have es : (List.range 6).map (fun k : Nat => V.bl (decide (0 + (k : Int) = i))) = ((List.range 6).map fun k => decide (k = i)).map V.bl := by
      rw [List.map_map]
      apply List.map_congr_left
      intro k _
      show V.bl _ = V.bl _
      congr 1
      exact decide_eq_decide.mpr (by omega)
    rw [es] at e4
    refine ⟨_, data_bools (SqL.of (s4 _ _ e3)), _, data_bools (SqL.of e4), shaped_bools _, shaped_bools _, ?_⟩
    rw [eqv_bools, decide_eq_true rfl]
    exact q _ ((((same_new n1 (HO.lst [])).trans s1).trans (same_new n2 (ExcO e C))).trans (s2.trans s4))

/-- the script's cell k -/
def sp_l_cell_at (K : PySem.W.Frag) : Sp := fun vs H Q _ => ∃ (a : Addr) (ns : List Int) (k : Nat), vs = [.ref a, .int k] ∧ SqL K H a (ns.map V.int) ∧ ns.length ≤ 63 ∧ Q (.int (ns.getD k 0)) H
theorem atI_ints {ns : List Int} {k : Nat} (h : k < ns.length) : atI (ns.map V.int) (k : Int) = some (.int (ns.getD k 0)) :=
  atI_nat (by rw [List.getElem?_map, List.getElem?_eq_getElem h]; simp [List.getD_eq_getElem?_getD, h])
theorem ok_l_cell_at (D : DefAt K mg "_law_cell_at" s_l_cell_at ["script", "k"]) (B : Blt mg) : Has P w K mg base "_law_cell_at" ["script", "k"] 1 (sp_l_cell_at K) := by
  refine D.has sc_l_cell_at (fun vs H Q E h => ?_) (fun f cdv A outer s H vs Q E hr h => ?_)
  · obtain ⟨a, ns, k, rfl, _⟩ := h
    rfl
  obtain ⟨a, ns, k, rfl, hS, h63, q⟩ := h
  refine ⟨_, (pss_cons (ps_if (pt_cmpR op_lt (pv 1) (pe_callB (call_lenK (K := K)) rfl B.len PySem.boot_len (pa_cons (pv 0) pa_nil)) (nomark _)) (pss_one (ps_ret (pe_ix (ix_listK (K := K)) (pv 0) (pv 1) (fun _ _ => rfl)))) pss_nil)
      (pss_one (ps_ret pe_int))), ?_⟩
  walk_at "rd"
  refine ⟨_, .inl hS, ?_⟩
  rw [List.length_map]
  refine ite2 (fun c => ⟨_, hS, _, atI_ints (by omega), q⟩) (fun c => ?_)
  have e : ns.getD k 0 = 0 := by simp [List.getD_eq_getElem?_getD, List.getElem?_eq_none (show ns.length ≤ k by omega)]
  rw [← e]
  exact q

/-- what law(script) promises -/
def sp_law (K : PySem.W.Frag) : Sp := fun vs H Q _ => ∃ (a : Addr) (ns : List Int), vs = [.ref a] ∧ SqL K H a (ns.map V.int) ∧ ns.length ≤ 63 ∧ ∀ H', Q (.bl true) H'

theorem ok_law {e : Addr} {ed : FuncData} (F : Fun K "law" "law" s_law e ed) (B : Blt mg) (h_l_cell_at : Has P w K mg base "_law_cell_at" ["script", "k"] 1 (sp_l_cell_at K)) (h_l_caught : Has P w K mg base "_law_caught" ["which", "cell"] 25 sp_caught) : FnOk P w K mg base CX0 30 e ed ["script"] (sp_law K) := by
  refine F.ok sc_law (fun vs H Q E h => ?_) (fun cdv A outer s H vs Q E hr h => ?_)
  · obtain ⟨a, ns, rfl, _⟩ := h
    rfl
  obtain ⟨a, ns, rfl, hS, h63, q⟩ := h
  refine ⟨_, (pss_cons (ps_set (i := 1) sc_law.nd rfl (Or.inl rfl) (pe_op op_mod (pe_callH h_l_cell_at hr rfl (pa_cons (pv 0) (pa_cons pe_int pa_nil))) pe_int))
      (pss_cons (ps_for PassesOwn.never rfl (pi_range1 rfl B.range (pa_cons pe_int pa_nil)) (pg_name (i := 2) sc_law.nd rfl (Or.inl rfl)) (pss_one (ps_if (pt_not (pt_val (pe_callH h_l_caught hr rfl (pa_cons (pe_op op_mod (pe_op op_add (pe_callH h_l_cell_at hr rfl (pa_cons (pv 0) (pa_cons pe_int pa_nil))) (pv 2)) pe_int) (pa_cons (pv 1) pa_nil))))) (pss_one (ps_ret pe_bl)) pss_nil)))
      (pss_one (ps_ret pe_bl)))), ?_⟩
  walk_at "rd"
  have c0 := Int.emod_nonneg (ns.getD 1 0) (show (999983 : Int) ≠ 0 by decide)
  have c1 := Int.emod_lt_of_pos (ns.getD 1 0) (show (0 : Int) < 999983 by decide)
  obtain ⟨c, hc⟩ := Int.eq_ofNat_of_zero_le c0
  refine ⟨a, ns, 1, rfl, hS, h63, _, rfl, by decide, by decide, by decide, for_range (n := 6) (fun i σ H' => ∃ o2, σ = [some (.ref a), some (.int c), o2] ∧ Same H H') ⟨_, by rw [hc], Same.rfl'⟩ ?_ ?_⟩
  · rintro i σ H' hi ⟨o2, rfl, hs⟩
    walk_at "rd"
    have d0 := Int.emod_nonneg (ns.getD 0 0 + (0 + (i : Int))) (show (6 : Int) ≠ 0 by decide)
    have d1 := Int.emod_lt_of_pos (ns.getD 0 0 + (0 + (i : Int))) (show (0 : Int) < 6 by decide)
    obtain ⟨j, hj⟩ := Int.eq_ofNat_of_zero_le d0
    refine ⟨a, ns, 0, rfl, hs.seq hS, h63, _, rfl, by decide, j, c, by rw [hj], by omega, by omega, fun H2 s2 => ⟨_, rfl, ?_⟩⟩
    rw [if_neg (by decide)]
    exact hs.trans s2
  · rintro σ H' ⟨o2, rfl, hs⟩
    walk_at "rd"
    exact q _

end

theorem all_mk {l : PySem.W.OpenLaw} {w : World} {K : PySem.W.Frag} {h : Heap} {mg : Str → Option Value} {fa : Addr} (X : K.In h) (G : h.Ns mainGlobals mg) (hfa : mg "law" = some (.ref fa))
    {f0 f1 f2 f3 f4 f5 f6 f7 f8 f9 f10 f11 f12 f13 f14 f15 f16 f17 f18 f19 f20 f21 f22 f23 f24 f25 f26 f27 f28 f29 f30 f31 f32 f33 f34 : Addr} {od0 an0 od1 an1 od2 an2 od3 an3 od4 an4 od5 an5 od6 an6 od7 an7 od8 an8 od9 an9 od10 an10 od11 an11 od12 an12 od13 an13 od14 an14 od15 an15 od16 an16 od17 an17 od18 an18 od19 an19 od20 an20 od21 an21 od22 an22 od23 an23 od24 an24 od25 an25 od26 an26 od27 an27 od28 an28 od29 an29 od30 an30 od31 an31 od32 an32 od33 an33 od34 an34 : Option Addr} {sl0 sl1 sl2 sl3 sl4 sl5 sl6 sl7 sl8 sl9 sl10 sl11 sl12 sl13 sl14 sl15 sl16 sl17 sl18 sl19 sl20 sl21 sl22 sl23 sl24 sl25 sl26 sl27 sl28 sl29 sl30 sl31 sl32 sl33 sl34 : Array (Option Value)} {oc0 kV0 dc0 pm0 cd0 ct0 oc1 kV1 dc1 pm1 cd1 ct1 oc2 kV2 dc2 pm2 cd2 ct2 oc3 kV3 dc3 pm3 cd3 ct3 oc4 kV4 dc4 pm4 cd4 ct4 oc5 kV5 dc5 pm5 cd5 ct5 oc6 kV6 dc6 pm6 cd6 ct6 oc7 kV7 dc7 pm7 cd7 ct7 oc8 kV8 dc8 pm8 cd8 ct8 oc9 kV9 dc9 pm9 cd9 ct9 oc10 kV10 dc10 pm10 cd10 ct10 oc11 kV11 dc11 pm11 cd11 ct11 oc12 kV12 dc12 pm12 cd12 ct12 oc13 kV13 dc13 pm13 cd13 ct13 oc14 kV14 dc14 pm14 cd14 ct14 oc15 kV15 dc15 pm15 cd15 ct15 oc16 kV16 dc16 pm16 cd16 ct16 oc17 kV17 dc17 pm17 cd17 ct17 oc18 kV18 dc18 pm18 cd18 ct18 oc19 kV19 dc19 pm19 cd19 ct19 oc20 kV20 dc20 pm20 cd20 ct20 oc21 kV21 dc21 pm21 cd21 ct21 oc22 kV22 dc22 pm22 cd22 ct22 oc23 kV23 dc23 pm23 cd23 ct23 oc24 kV24 dc24 pm24 cd24 ct24 oc25 kV25 dc25 pm25 cd25 ct25 oc26 kV26 dc26 pm26 cd26 ct26 oc27 kV27 dc27 pm27 cd27 ct27 oc28 kV28 dc28 pm28 cd28 ct28 oc29 kV29 dc29 pm29 cd29 ct29 oc30 kV30 dc30 pm30 cd30 ct30 oc31 kV31 dc31 pm31 cd31 ct31 oc32 kV32 dc32 pm32 cd32 ct32 oc33 kV33 dc33 pm33 cd33 ct33 oc34 kV34 dc34 pm34 cd34 ct34 : Value} {c_SeekError c_NoKeys c_NoWeights c_NoTree c_NoKey c_AtRoot c_BadText : Addr} {t_MOST_KEYS t_MOST_LETTERS t_MOST_WEIGHT : Tok}
    (a0 : PySem.W.nsIn K mainGlobals "is_word" = some (some (.ref f0))) (l0 : K.lookup f0 = some ⟨oc0, od0, .func (PySem.W.fnOf "is_word" "is_word" (defArgs s_is_word) (defBody s_is_word) (defScope s_is_word) .none kV0 dc0 pm0 an0 cd0 ct0), sl0⟩) (c0 : PySem.W.codeIn K cd0 "is_word" = true) (k0 : PySem.W.keepIn K (.ref f0) = true)
    (a1 : PySem.W.nsIn K mainGlobals "is_rising" = some (some (.ref f1))) (l1 : K.lookup f1 = some ⟨oc1, od1, .func (PySem.W.fnOf "is_rising" "is_rising" (defArgs s_is_rising) (defBody s_is_rising) (defScope s_is_rising) .none kV1 dc1 pm1 an1 cd1 ct1), sl1⟩) (c1 : PySem.W.codeIn K cd1 "is_rising" = true) (k1 : PySem.W.keepIn K (.ref f1) = true)
    (a2 : PySem.W.nsIn K mainGlobals "are_keys" = some (some (.ref f2))) (l2 : K.lookup f2 = some ⟨oc2, od2, .func (PySem.W.fnOf "are_keys" "are_keys" (defArgs s_are_keys) (defBody s_are_keys) (defScope s_are_keys) .none kV2 dc2 pm2 an2 cd2 ct2), sl2⟩) (c2 : PySem.W.codeIn K cd2 "are_keys" = true) (k2 : PySem.W.keepIn K (.ref f2) = true)
    (a3 : PySem.W.nsIn K mainGlobals "are_weights" = some (some (.ref f3))) (l3 : K.lookup f3 = some ⟨oc3, od3, .func (PySem.W.fnOf "are_weights" "are_weights" (defArgs s_are_weights) (defBody s_are_weights) (defScope s_are_weights) .none kV3 dc3 pm3 an3 cd3 ct3), sl3⟩) (c3 : PySem.W.codeIn K cd3 "are_weights" = true) (k3 : PySem.W.keepIn K (.ref f3) = true)
    (a4 : PySem.W.nsIn K mainGlobals "check_keys" = some (some (.ref f4))) (l4 : K.lookup f4 = some ⟨oc4, od4, .func (PySem.W.fnOf "check_keys" "check_keys" (defArgs s_check_keys) (defBody s_check_keys) (defScope s_check_keys) .none kV4 dc4 pm4 an4 cd4 ct4), sl4⟩) (c4 : PySem.W.codeIn K cd4 "check_keys" = true) (k4 : PySem.W.keepIn K (.ref f4) = true)
    (a5 : PySem.W.nsIn K mainGlobals "check_weights" = some (some (.ref f5))) (l5 : K.lookup f5 = some ⟨oc5, od5, .func (PySem.W.fnOf "check_weights" "check_weights" (defArgs s_check_weights) (defBody s_check_weights) (defScope s_check_weights) .none kV5 dc5 pm5 an5 cd5 ct5), sl5⟩) (c5 : PySem.W.codeIn K cd5 "check_weights" = true) (k5 : PySem.W.keepIn K (.ref f5) = true)
    (a6 : PySem.W.nsIn K mainGlobals "row_of" = some (some (.ref f6))) (l6 : K.lookup f6 = some ⟨oc6, od6, .func (PySem.W.fnOf "row_of" "row_of" (defArgs s_row_of) (defBody s_row_of) (defScope s_row_of) .none kV6 dc6 pm6 an6 cd6 ct6), sl6⟩) (c6 : PySem.W.codeIn K cd6 "row_of" = true) (k6 : PySem.W.keepIn K (.ref f6) = true)
    (a7 : PySem.W.nsIn K mainGlobals "check_tree" = some (some (.ref f7))) (l7 : K.lookup f7 = some ⟨oc7, od7, .func (PySem.W.fnOf "check_tree" "check_tree" (defArgs s_check_tree) (defBody s_check_tree) (defScope s_check_tree) .none kV7 dc7 pm7 an7 cd7 ct7), sl7⟩) (c7 : PySem.W.codeIn K cd7 "check_tree" = true) (k7 : PySem.W.keepIn K (.ref f7) = true)
    (a8 : PySem.W.nsIn K mainGlobals "left_up" = some (some (.ref f8))) (l8 : K.lookup f8 = some ⟨oc8, od8, .func (PySem.W.fnOf "left_up" "left_up" (defArgs s_left_up) (defBody s_left_up) (defScope s_left_up) .none kV8 dc8 pm8 an8 cd8 ct8), sl8⟩) (c8 : PySem.W.codeIn K cd8 "left_up" = true) (k8 : PySem.W.keepIn K (.ref f8) = true)
    (a9 : PySem.W.nsIn K mainGlobals "right_up" = some (some (.ref f9))) (l9 : K.lookup f9 = some ⟨oc9, od9, .func (PySem.W.fnOf "right_up" "right_up" (defArgs s_right_up) (defBody s_right_up) (defScope s_right_up) .none kV9 dc9 pm9 an9 cd9 ct9), sl9⟩) (c9 : PySem.W.codeIn K cd9 "right_up" = true) (k9 : PySem.W.keepIn K (.ref f9) = true)
    (a10 : PySem.W.nsIn K mainGlobals "turned_in" = some (some (.ref f10))) (l10 : K.lookup f10 = some ⟨oc10, od10, .func (PySem.W.fnOf "turned_in" "turned_in" (defArgs s_turned_in) (defBody s_turned_in) (defScope s_turned_in) .none kV10 dc10 pm10 an10 cd10 ct10), sl10⟩) (c10 : PySem.W.codeIn K cd10 "turned_in" = true) (k10 : PySem.W.keepIn K (.ref f10) = true)
    (a11 : PySem.W.nsIn K mainGlobals "turned" = some (some (.ref f11))) (l11 : K.lookup f11 = some ⟨oc11, od11, .func (PySem.W.fnOf "turned" "turned" (defArgs s_turned) (defBody s_turned) (defScope s_turned) .none kV11 dc11 pm11 an11 cd11 ct11), sl11⟩) (c11 : PySem.W.codeIn K cd11 "turned" = true) (k11 : PySem.W.keepIn K (.ref f11) = true)
    (a12 : PySem.W.nsIn K mainGlobals "whole_weight" = some (some (.ref f12))) (l12 : K.lookup f12 = some ⟨oc12, od12, .func (PySem.W.fnOf "whole_weight" "whole_weight" (defArgs s_whole_weight) (defBody s_whole_weight) (defScope s_whole_weight) .none kV12 dc12 pm12 an12 cd12 ct12), sl12⟩) (c12 : PySem.W.codeIn K cd12 "whole_weight" = true) (k12 : PySem.W.keepIn K (.ref f12) = true)
    (a13 : PySem.W.nsIn K mainGlobals "parted_worths" = some (some (.ref f13))) (l13 : K.lookup f13 = some ⟨oc13, od13, .func (PySem.W.fnOf "parted_worths" "parted_worths" (defArgs s_parted_worths) (defBody s_parted_worths) (defScope s_parted_worths) .none kV13 dc13 pm13 an13 cd13 ct13), sl13⟩) (c13 : PySem.W.codeIn K cd13 "parted_worths" = true) (k13 : PySem.W.keepIn K (.ref f13) = true)
    (a14 : PySem.W.nsIn K mainGlobals "worth_table" = some (some (.ref f14))) (l14 : K.lookup f14 = some ⟨oc14, od14, .func (PySem.W.fnOf "worth_table" "worth_table" (defArgs s_worth_table) (defBody s_worth_table) (defScope s_worth_table) .none kV14 dc14 pm14 an14 cd14 ct14), sl14⟩) (c14 : PySem.W.codeIn K cd14 "worth_table" = true) (k14 : PySem.W.keepIn K (.ref f14) = true)
    (a15 : PySem.W.nsIn K mainGlobals "least_root" = some (some (.ref f15))) (l15 : K.lookup f15 = some ⟨oc15, od15, .func (PySem.W.fnOf "least_root" "least_root" (defArgs s_least_root) (defBody s_least_root) (defScope s_least_root) .none kV15 dc15 pm15 an15 cd15 ct15), sl15⟩) (c15 : PySem.W.codeIn K cd15 "least_root" = true) (k15 : PySem.W.keepIn K (.ref f15) = true)
    (a16 : PySem.W.nsIn K mainGlobals "root_row" = some (some (.ref f16))) (l16 : K.lookup f16 = some ⟨oc16, od16, .func (PySem.W.fnOf "root_row" "root_row" (defArgs s_root_row) (defBody s_root_row) (defScope s_root_row) .none kV16 dc16 pm16 an16 cd16 ct16), sl16⟩) (c16 : PySem.W.codeIn K cd16 "root_row" = true) (k16 : PySem.W.keepIn K (.ref f16) = true)
    (a17 : PySem.W.nsIn K mainGlobals "grown" = some (some (.ref f17))) (l17 : K.lookup f17 = some ⟨oc17, od17, .func (PySem.W.fnOf "grown" "grown" (defArgs s_grown) (defBody s_grown) (defScope s_grown) .none kV17 dc17 pm17 an17 cd17 ct17), sl17⟩) (c17 : PySem.W.codeIn K cd17 "grown" = true) (k17 : PySem.W.keepIn K (.ref f17) = true)
    (a18 : PySem.W.nsIn K mainGlobals "worths" = some (some (.ref f18))) (l18 : K.lookup f18 = some ⟨oc18, od18, .func (PySem.W.fnOf "worths" "worths" (defArgs s_worths) (defBody s_worths) (defScope s_worths) .none kV18 dc18 pm18 an18 cd18 ct18), sl18⟩) (c18 : PySem.W.codeIn K cd18 "worths" = true) (k18 : PySem.W.keepIn K (.ref f18) = true)
    (a19 : PySem.W.nsIn K mainGlobals "roots" = some (some (.ref f19))) (l19 : K.lookup f19 = some ⟨oc19, od19, .func (PySem.W.fnOf "roots" "roots" (defArgs s_roots) (defBody s_roots) (defScope s_roots) .none kV19 dc19 pm19 an19 cd19 ct19), sl19⟩) (c19 : PySem.W.codeIn K cd19 "roots" = true) (k19 : PySem.W.keepIn K (.ref f19) = true)
    (a20 : PySem.W.nsIn K mainGlobals "best" = some (some (.ref f20))) (l20 : K.lookup f20 = some ⟨oc20, od20, .func (PySem.W.fnOf "best" "best" (defArgs s_best) (defBody s_best) (defScope s_best) .none kV20 dc20 pm20 an20 cd20 ct20), sl20⟩) (c20 : PySem.W.codeIn K cd20 "best" = true) (k20 : PySem.W.keepIn K (.ref f20) = true)
    (a21 : PySem.W.nsIn K mainGlobals "halved" = some (some (.ref f21))) (l21 : K.lookup f21 = some ⟨oc21, od21, .func (PySem.W.fnOf "halved" "halved" (defArgs s_halved) (defBody s_halved) (defScope s_halved) .none kV21 dc21 pm21 an21 cd21 ct21), sl21⟩) (c21 : PySem.W.codeIn K cd21 "halved" = true) (k21 : PySem.W.keepIn K (.ref f21) = true)
    (a22 : PySem.W.nsIn K mainGlobals "even" = some (some (.ref f22))) (l22 : K.lookup f22 = some ⟨oc22, od22, .func (PySem.W.fnOf "even" "even" (defArgs s_even) (defBody s_even) (defScope s_even) .none kV22 dc22 pm22 an22 cd22 ct22), sl22⟩) (c22 : PySem.W.codeIn K cd22 "even" = true) (k22 : PySem.W.keepIn K (.ref f22) = true)
    (a23 : PySem.W.nsIn K mainGlobals "written" = some (some (.ref f23))) (l23 : K.lookup f23 = some ⟨oc23, od23, .func (PySem.W.fnOf "written" "written" (defArgs s_written) (defBody s_written) (defScope s_written) .none kV23 dc23 pm23 an23 cd23 ct23), sl23⟩) (c23 : PySem.W.codeIn K cd23 "written" = true) (k23 : PySem.W.keepIn K (.ref f23) = true)
    (a24 : PySem.W.nsIn K mainGlobals "sign_at" = some (some (.ref f24))) (l24 : K.lookup f24 = some ⟨oc24, od24, .func (PySem.W.fnOf "sign_at" "sign_at" (defArgs s_sign_at) (defBody s_sign_at) (defScope s_sign_at) .none kV24 dc24 pm24 an24 cd24 ct24), sl24⟩) (c24 : PySem.W.codeIn K cd24 "sign_at" = true) (k24 : PySem.W.keepIn K (.ref f24) = true)
    (a25 : PySem.W.nsIn K mainGlobals "behind" = some (some (.ref f25))) (l25 : K.lookup f25 = some ⟨oc25, od25, .func (PySem.W.fnOf "behind" "behind" (defArgs s_behind) (defBody s_behind) (defScope s_behind) .none kV25 dc25 pm25 an25 cd25 ct25), sl25⟩) (c25 : PySem.W.codeIn K cd25 "behind" = true) (k25 : PySem.W.keepIn K (.ref f25) = true)
    (a26 : PySem.W.nsIn K mainGlobals "word_end" = some (some (.ref f26))) (l26 : K.lookup f26 = some ⟨oc26, od26, .func (PySem.W.fnOf "word_end" "word_end" (defArgs s_word_end) (defBody s_word_end) (defScope s_word_end) .none kV26 dc26 pm26 an26 cd26 ct26), sl26⟩) (c26 : PySem.W.codeIn K cd26 "word_end" = true) (k26 : PySem.W.keepIn K (.ref f26) = true)
    (a27 : PySem.W.nsIn K mainGlobals "tree_at" = some (some (.ref f27))) (l27 : K.lookup f27 = some ⟨oc27, od27, .func (PySem.W.fnOf "tree_at" "tree_at" (defArgs s_tree_at) (defBody s_tree_at) (defScope s_tree_at) .none kV27 dc27 pm27 an27 cd27 ct27), sl27⟩) (c27 : PySem.W.codeIn K cd27 "tree_at" = true) (k27 : PySem.W.keepIn K (.ref f27) = true)
    (a28 : PySem.W.nsIn K mainGlobals "shown" = some (some (.ref f28))) (l28 : K.lookup f28 = some ⟨oc28, od28, .func (PySem.W.fnOf "shown" "shown" (defArgs s_shown) (defBody s_shown) (defScope s_shown) .none kV28 dc28 pm28 an28 cd28 ct28), sl28⟩) (c28 : PySem.W.codeIn K cd28 "shown" = true) (k28 : PySem.W.keepIn K (.ref f28) = true)
    (a29 : PySem.W.nsIn K mainGlobals "read" = some (some (.ref f29))) (l29 : K.lookup f29 = some ⟨oc29, od29, .func (PySem.W.fnOf "read" "read" (defArgs s_read) (defBody s_read) (defScope s_read) .none kV29 dc29 pm29 an29 cd29 ct29), sl29⟩) (c29 : PySem.W.codeIn K cd29 "read" = true) (k29 : PySem.W.keepIn K (.ref f29) = true)
    (a30 : PySem.W.nsIn K mainGlobals "_law_cell_at" = some (some (.ref f30))) (l30 : K.lookup f30 = some ⟨oc30, od30, .func (PySem.W.fnOf "_law_cell_at" "_law_cell_at" (defArgs s_l_cell_at) (defBody s_l_cell_at) (defScope s_l_cell_at) .none kV30 dc30 pm30 an30 cd30 ct30), sl30⟩) (c30 : PySem.W.codeIn K cd30 "_law_cell_at" = true) (k30 : PySem.W.keepIn K (.ref f30) = true)
    (a31 : PySem.W.nsIn K mainGlobals "_law_refuses" = some (some (.ref f31))) (l31 : K.lookup f31 = some ⟨oc31, od31, .func (PySem.W.fnOf "_law_refuses" "_law_refuses" (defArgs s_l_refuses) (defBody s_l_refuses) (defScope s_l_refuses) .none kV31 dc31 pm31 an31 cd31 ct31), sl31⟩) (c31 : PySem.W.codeIn K cd31 "_law_refuses" = true) (k31 : PySem.W.keepIn K (.ref f31) = true)
    (a32 : PySem.W.nsIn K mainGlobals "_law_classes" = some (some (.ref f32))) (l32 : K.lookup f32 = some ⟨oc32, od32, .func (PySem.W.fnOf "_law_classes" "_law_classes" (defArgs s_l_classes) (defBody s_l_classes) (defScope s_l_classes) .none kV32 dc32 pm32 an32 cd32 ct32), sl32⟩) (c32 : PySem.W.codeIn K cd32 "_law_classes" = true) (k32 : PySem.W.keepIn K (.ref f32) = true)
    (a33 : PySem.W.nsIn K mainGlobals "_law_caught" = some (some (.ref f33))) (l33 : K.lookup f33 = some ⟨oc33, od33, .func (PySem.W.fnOf "_law_caught" "_law_caught" (defArgs s_l_caught) (defBody s_l_caught) (defScope s_l_caught) .none kV33 dc33 pm33 an33 cd33 ct33), sl33⟩) (c33 : PySem.W.codeIn K cd33 "_law_caught" = true) (k33 : PySem.W.keepIn K (.ref f33) = true)
    (a34 : PySem.W.nsIn K mainGlobals "law" = some (some (.ref f34))) (l34 : K.lookup f34 = some ⟨oc34, od34, .func (PySem.W.fnOf "law" "law" (defArgs s_law) (defBody s_law) (defScope s_law) .none kV34 dc34 pm34 an34 cd34 ct34), sl34⟩) (c34 : PySem.W.codeIn K cd34 "law" = true) (k34 : PySem.W.keepIn K (.ref f34) = true)
    (q0 : PySem.W.nsIn K mainGlobals "MOST_KEYS" = some (some (.int 12 t_MOST_KEYS)))
    (q1 : PySem.W.nsIn K mainGlobals "MOST_LETTERS" = some (some (.int 8 t_MOST_LETTERS)))
    (q2 : PySem.W.nsIn K mainGlobals "MOST_WEIGHT" = some (some (.int 1000000 t_MOST_WEIGHT)))
    (er0 : PySem.W.nsIn K mainGlobals "SeekError" = some (some (.ref c_SeekError)))
    (er1 : PySem.W.nsIn K mainGlobals "NoKeys" = some (some (.ref c_NoKeys)))
    (er2 : PySem.W.nsIn K mainGlobals "NoWeights" = some (some (.ref c_NoWeights)))
    (er3 : PySem.W.nsIn K mainGlobals "NoTree" = some (some (.ref c_NoTree)))
    (er4 : PySem.W.nsIn K mainGlobals "NoKey" = some (some (.ref c_NoKey)))
    (er5 : PySem.W.nsIn K mainGlobals "AtRoot" = some (some (.ref c_AtRoot)))
    (er6 : PySem.W.nsIn K mainGlobals "BadText" = some (some (.ref c_BadText)))
    (tab : errTab K [c_SeekError, c_NoKeys, c_NoWeights, c_NoTree, c_NoKey, c_AtRoot, c_BadText] = true)
    (z0 : PySem.W.nsIn K mainGlobals "len" = some none)
    (z1 : PySem.W.nsIn K mainGlobals "range" = some none)
    (z2 : PySem.W.nsIn K mainGlobals "list" = some none)
    (z3 : PySem.W.nsIn K mainGlobals "str" = some none)
    (z4 : PySem.W.nsIn K mainGlobals "int" = some none)
    (z5 : PySem.W.nsIn K mainGlobals "bool" = some none)
    (z6 : PySem.W.nsIn K mainGlobals "tuple" = some none)
    (z7 : PySem.W.nsIn K mainGlobals "isinstance" = some none)
    (z8 : PySem.W.nsIn K mainGlobals "all" = some none)
    (z9 : PySem.W.nsIn K mainGlobals "sum" = some none)
    (z10 : PySem.W.nsIn K mainGlobals "min" = some none)
    (z11 : PySem.W.nsIn K mainGlobals "max" = some none)
    (z12 : PySem.W.nsIn K mainGlobals "zip" = some none)
    (z13 : PySem.W.nsIn K mainGlobals "reversed" = some none)
    (z14 : PySem.W.nsIn K mainGlobals "ValueError" = some none) :
    ∃ fd : FuncData, (∀ (s : Shared) (v : Value), BindsTo s fd ⟨[v], []⟩ [("script", v)]) ∧ ∀ base : Heap, K.In base → base.Ns mainGlobals mg → FnOk l.prog w K mg base CX0 30 fa fd ["script"] (sp_law K) := by
  have e := hfa.symm.trans (PySem.W.mg_of X G a34)
  cases e
  have F0 := fun_mk (st := s_is_word) l0 c0 k0
  have d_is_word : DefAt K mg "is_word" s_is_word ["text"] := ⟨f0, _, F0, F0.binds (ps := ["text"]) (fun _ _ _ _ _ _ us hl => match us, hl with | [_], _ => rfl), PySem.W.mg_of X G a0⟩
  have F1 := fun_mk (st := s_is_rising) l1 c1 k1
  have d_is_rising : DefAt K mg "is_rising" s_is_rising ["words"] := ⟨f1, _, F1, F1.binds (ps := ["words"]) (fun _ _ _ _ _ _ us hl => match us, hl with | [_], _ => rfl), PySem.W.mg_of X G a1⟩
  have F2 := fun_mk (st := s_are_keys) l2 c2 k2
  have d_are_keys : DefAt K mg "are_keys" s_are_keys ["words"] := ⟨f2, _, F2, F2.binds (ps := ["words"]) (fun _ _ _ _ _ _ us hl => match us, hl with | [_], _ => rfl), PySem.W.mg_of X G a2⟩
  have F3 := fun_mk (st := s_are_weights) l3 c3 k3
  have d_are_weights : DefAt K mg "are_weights" s_are_weights ["numbers", "wanted"] := ⟨f3, _, F3, F3.binds (ps := ["numbers", "wanted"]) (fun _ _ _ _ _ _ us hl => match us, hl with | [_, _], _ => rfl), PySem.W.mg_of X G a3⟩
  have F4 := fun_mk (st := s_check_keys) l4 c4 k4
  have d_check_keys : DefAt K mg "check_keys" s_check_keys ["keys"] := ⟨f4, _, F4, F4.binds (ps := ["keys"]) (fun _ _ _ _ _ _ us hl => match us, hl with | [_], _ => rfl), PySem.W.mg_of X G a4⟩
  have F5 := fun_mk (st := s_check_weights) l5 c5 k5
  have d_check_weights : DefAt K mg "check_weights" s_check_weights ["keys", "hits", "misses"] := ⟨f5, _, F5, F5.binds (ps := ["keys", "hits", "misses"]) (fun _ _ _ _ _ _ us hl => match us, hl with | [_, _, _], _ => rfl), PySem.W.mg_of X G a5⟩
  have F6 := fun_mk (st := s_row_of) l6 c6 k6
  have d_row_of : DefAt K mg "row_of" s_row_of ["tree"] := ⟨f6, _, F6, F6.binds (ps := ["tree"]) (fun _ _ _ _ _ _ us hl => match us, hl with | [_], _ => rfl), PySem.W.mg_of X G a6⟩
  have F7 := fun_mk (st := s_check_tree) l7 c7 k7
  have d_check_tree : DefAt K mg "check_tree" s_check_tree ["keys", "tree"] := ⟨f7, _, F7, F7.binds (ps := ["keys", "tree"]) (fun _ _ _ _ _ _ us hl => match us, hl with | [_, _], _ => rfl), PySem.W.mg_of X G a7⟩
  have F8 := fun_mk (st := s_left_up) l8 c8 k8
  have d_left_up : DefAt K mg "left_up" s_left_up ["tree"] := ⟨f8, _, F8, F8.binds (ps := ["tree"]) (fun _ _ _ _ _ _ us hl => match us, hl with | [_], _ => rfl), PySem.W.mg_of X G a8⟩
  have F9 := fun_mk (st := s_right_up) l9 c9 k9
  have d_right_up : DefAt K mg "right_up" s_right_up ["tree"] := ⟨f9, _, F9, F9.binds (ps := ["tree"]) (fun _ _ _ _ _ _ us hl => match us, hl with | [_], _ => rfl), PySem.W.mg_of X G a9⟩
  have F10 := fun_mk (st := s_turned_in) l10 c10 k10
  have d_turned_in : DefAt K mg "turned_in" s_turned_in ["tree", "word"] := ⟨f10, _, F10, F10.binds (ps := ["tree", "word"]) (fun _ _ _ _ _ _ us hl => match us, hl with | [_, _], _ => rfl), PySem.W.mg_of X G a10⟩
  have F11 := fun_mk (st := s_turned) l11 c11 k11
  have d_turned : DefAt K mg "turned" s_turned ["keys", "tree", "word"] := ⟨f11, _, F11, F11.binds (ps := ["keys", "tree", "word"]) (fun _ _ _ _ _ _ us hl => match us, hl with | [_, _, _], _ => rfl), PySem.W.mg_of X G a11⟩
  have F12 := fun_mk (st := s_whole_weight) l12 c12 k12
  have d_whole_weight : DefAt K mg "whole_weight" s_whole_weight ["hits", "misses", "start", "end"] := ⟨f12, _, F12, F12.binds (ps := ["hits", "misses", "start", "end"]) (fun _ _ _ _ _ _ us hl => match us, hl with | [_, _, _, _], _ => rfl), PySem.W.mg_of X G a12⟩
  have F13 := fun_mk (st := s_parted_worths) l13 c13 k13
  have d_parted_worths : DefAt K mg "parted_worths" s_parted_worths ["table", "start", "end"] := ⟨f13, _, F13, F13.binds (ps := ["table", "start", "end"]) (fun _ _ _ _ _ _ us hl => match us, hl with | [_, _, _], _ => rfl), PySem.W.mg_of X G a13⟩
  have F14 := fun_mk (st := s_worth_table) l14 c14 k14
  have d_worth_table : DefAt K mg "worth_table" s_worth_table ["hits", "misses"] := ⟨f14, _, F14, F14.binds (ps := ["hits", "misses"]) (fun _ _ _ _ _ _ us hl => match us, hl with | [_, _], _ => rfl), PySem.W.mg_of X G a14⟩
  have F15 := fun_mk (st := s_least_root) l15 c15 k15
  have d_least_root : DefAt K mg "least_root" s_least_root ["table", "start", "end"] := ⟨f15, _, F15, F15.binds (ps := ["table", "start", "end"]) (fun _ _ _ _ _ _ us hl => match us, hl with | [_, _, _], _ => rfl), PySem.W.mg_of X G a15⟩
  have F16 := fun_mk (st := s_root_row) l16 c16 k16
  have d_root_row : DefAt K mg "root_row" s_root_row ["table", "start"] := ⟨f16, _, F16, F16.binds (ps := ["table", "start"]) (fun _ _ _ _ _ _ us hl => match us, hl with | [_, _], _ => rfl), PySem.W.mg_of X G a16⟩
  have F17 := fun_mk (st := s_grown) l17 c17 k17
  have d_grown : DefAt K mg "grown" s_grown ["keys", "root_rows", "start", "end"] := ⟨f17, _, F17, F17.binds (ps := ["keys", "root_rows", "start", "end"]) (fun _ _ _ _ _ _ us hl => match us, hl with | [_, _, _, _], _ => rfl), PySem.W.mg_of X G a17⟩
  have F18 := fun_mk (st := s_worths) l18 c18 k18
  have d_worths : DefAt K mg "worths" s_worths ["keys", "hits", "misses"] := ⟨f18, _, F18, F18.binds (ps := ["keys", "hits", "misses"]) (fun _ _ _ _ _ _ us hl => match us, hl with | [_, _, _], _ => rfl), PySem.W.mg_of X G a18⟩
  have F19 := fun_mk (st := s_roots) l19 c19 k19
  have d_roots : DefAt K mg "roots" s_roots ["keys", "hits", "misses"] := ⟨f19, _, F19, F19.binds (ps := ["keys", "hits", "misses"]) (fun _ _ _ _ _ _ us hl => match us, hl with | [_, _, _], _ => rfl), PySem.W.mg_of X G a19⟩
  have F20 := fun_mk (st := s_best) l20 c20 k20
  have d_best : DefAt K mg "best" s_best ["keys", "hits", "misses"] := ⟨f20, _, F20, F20.binds (ps := ["keys", "hits", "misses"]) (fun _ _ _ _ _ _ us hl => match us, hl with | [_, _, _], _ => rfl), PySem.W.mg_of X G a20⟩
  have F21 := fun_mk (st := s_halved) l21 c21 k21
  have d_halved : DefAt K mg "halved" s_halved ["keys"] := ⟨f21, _, F21, F21.binds (ps := ["keys"]) (fun _ _ _ _ _ _ us hl => match us, hl with | [_], _ => rfl), PySem.W.mg_of X G a21⟩
  have F22 := fun_mk (st := s_even) l22 c22 k22
  have d_even : DefAt K mg "even" s_even ["keys"] := ⟨f22, _, F22, F22.binds (ps := ["keys"]) (fun _ _ _ _ _ _ us hl => match us, hl with | [_], _ => rfl), PySem.W.mg_of X G a22⟩
  have F23 := fun_mk (st := s_written) l23 c23 k23
  have d_written : DefAt K mg "written" s_written ["tree"] := ⟨f23, _, F23, F23.binds (ps := ["tree"]) (fun _ _ _ _ _ _ us hl => match us, hl with | [_], _ => rfl), PySem.W.mg_of X G a23⟩
  have F24 := fun_mk (st := s_sign_at) l24 c24 k24
  have d_sign_at : DefAt K mg "sign_at" s_sign_at ["text", "place"] := ⟨f24, _, F24, F24.binds (ps := ["text", "place"]) (fun _ _ _ _ _ _ us hl => match us, hl with | [_, _], _ => rfl), PySem.W.mg_of X G a24⟩
  have F25 := fun_mk (st := s_behind) l25 c25 k25
  have d_behind : DefAt K mg "behind" s_behind ["text", "place", "sign"] := ⟨f25, _, F25, F25.binds (ps := ["text", "place", "sign"]) (fun _ _ _ _ _ _ us hl => match us, hl with | [_, _, _], _ => rfl), PySem.W.mg_of X G a25⟩
  have F26 := fun_mk (st := s_word_end) l26 c26 k26
  have d_word_end : DefAt K mg "word_end" s_word_end ["text", "start"] := ⟨f26, _, F26, F26.binds (ps := ["text", "start"]) (fun _ _ _ _ _ _ us hl => match us, hl with | [_, _], _ => rfl), PySem.W.mg_of X G a26⟩
  have F27 := fun_mk (st := s_tree_at) l27 c27 k27
  have d_tree_at : DefAt K mg "tree_at" s_tree_at ["text", "place"] := ⟨f27, _, F27, F27.binds (ps := ["text", "place"]) (fun _ _ _ _ _ _ us hl => match us, hl with | [_, _], _ => rfl), PySem.W.mg_of X G a27⟩
  have F28 := fun_mk (st := s_shown) l28 c28 k28
  have d_shown : DefAt K mg "shown" s_shown ["keys", "tree"] := ⟨f28, _, F28, F28.binds (ps := ["keys", "tree"]) (fun _ _ _ _ _ _ us hl => match us, hl with | [_, _], _ => rfl), PySem.W.mg_of X G a28⟩
  have F29 := fun_mk (st := s_read) l29 c29 k29
  have d_read : DefAt K mg "read" s_read ["text"] := ⟨f29, _, F29, F29.binds (ps := ["text"]) (fun _ _ _ _ _ _ us hl => match us, hl with | [_], _ => rfl), PySem.W.mg_of X G a29⟩
  have F30 := fun_mk (st := s_l_cell_at) l30 c30 k30
  have d_l_cell_at : DefAt K mg "_law_cell_at" s_l_cell_at ["script", "k"] := ⟨f30, _, F30, F30.binds (ps := ["script", "k"]) (fun _ _ _ _ _ _ us hl => match us, hl with | [_, _], _ => rfl), PySem.W.mg_of X G a30⟩
  have F31 := fun_mk (st := s_l_refuses) l31 c31 k31
  have d_l_refuses : DefAt K mg "_law_refuses" s_l_refuses ["which", "cell"] := ⟨f31, _, F31, F31.binds (ps := ["which", "cell"]) (fun _ _ _ _ _ _ us hl => match us, hl with | [_, _], _ => rfl), PySem.W.mg_of X G a31⟩
  have F32 := fun_mk (st := s_l_classes) l32 c32 k32
  have d_l_classes : DefAt K mg "_law_classes" s_l_classes ["e"] := ⟨f32, _, F32, F32.binds (ps := ["e"]) (fun _ _ _ _ _ _ us hl => match us, hl with | [_], _ => rfl), PySem.W.mg_of X G a32⟩
  have F33 := fun_mk (st := s_l_caught) l33 c33 k33
  have d_l_caught : DefAt K mg "_law_caught" s_l_caught ["which", "cell"] := ⟨f33, _, F33, F33.binds (ps := ["which", "cell"]) (fun _ _ _ _ _ _ us hl => match us, hl with | [_, _], _ => rfl), PySem.W.mg_of X G a33⟩
  have F34 := fun_mk (st := s_law) l34 c34 k34
  have c_MOST_KEYS := PySem.W.mg_of X G q0
  have c_MOST_LETTERS := PySem.W.mg_of X G q1
  have c_MOST_WEIGHT := PySem.W.mg_of X G q2
  have e_SeekError : ErrAt K mg "SeekError" c_SeekError := err_at (i := 0) tab (PySem.W.mg_of X G er0) rfl
  have e_NoKeys : ErrAt K mg "NoKeys" c_NoKeys := err_at (i := 1) tab (PySem.W.mg_of X G er1) rfl
  have e_NoWeights : ErrAt K mg "NoWeights" c_NoWeights := err_at (i := 2) tab (PySem.W.mg_of X G er2) rfl
  have e_NoTree : ErrAt K mg "NoTree" c_NoTree := err_at (i := 3) tab (PySem.W.mg_of X G er3) rfl
  have e_NoKey : ErrAt K mg "NoKey" c_NoKey := err_at (i := 4) tab (PySem.W.mg_of X G er4) rfl
  have e_AtRoot : ErrAt K mg "AtRoot" c_AtRoot := err_at (i := 5) tab (PySem.W.mg_of X G er5) rfl
  have e_BadText : ErrAt K mg "BadText" c_BadText := err_at (i := 6) tab (PySem.W.mg_of X G er6) rfl
  have B : Blt mg := ⟨PySem.W.mg_none_of X G z0, PySem.W.mg_none_of X G z1, PySem.W.mg_none_of X G z2, PySem.W.mg_none_of X G z3, PySem.W.mg_none_of X G z4, PySem.W.mg_none_of X G z5, PySem.W.mg_none_of X G z6, PySem.W.mg_none_of X G z7, PySem.W.mg_none_of X G z8, PySem.W.mg_none_of X G z9, PySem.W.mg_none_of X G z10, PySem.W.mg_none_of X G z11, PySem.W.mg_none_of X G z12, PySem.W.mg_none_of X G z13, PySem.W.mg_none_of X G z14⟩
  refine ⟨PySem.W.fnOf "law" "law" (defArgs s_law) (defBody s_law) (defScope s_law) .none kV34 dc34 pm34 an34 cd34 ct34, fun s v => .of_eq rfl, fun base _ _ => ?_⟩

  have h_is_word := ok_is_word (P := l.prog) (w := w) (base := base) d_is_word B ⟨_, c_MOST_LETTERS⟩
  have h_is_rising := ok_is_rising (P := l.prog) (w := w) (base := base) d_is_rising B
  have h_are_keys := ok_are_keys d_are_keys B ⟨_, c_MOST_KEYS⟩ h_is_word h_is_rising
  have h_are_weights := ok_are_weights (P := l.prog) (w := w) (base := base) d_are_weights B ⟨_, c_MOST_WEIGHT⟩
  have x_check_keys := okx_check_keys d_check_keys B e_NoKeys h_are_keys
  have x_check_weights := okx_check_weights d_check_weights B e_NoWeights h_are_weights
  have h_row_of := ok_row_of (P := l.prog) (w := w) (base := base) d_row_of B 21
  have x_check_tree := okx_check_tree d_check_tree B e_NoTree h_row_of
  have h_whole_weight := ok_whole_weight (P := l.prog) (w := w) (base := base) d_whole_weight B
  have h_parted_worths := ok_parted_worths (P := l.prog) (w := w) (base := base) d_parted_worths B
  have h_worth_table := ok_worth_table d_worth_table B h_whole_weight h_parted_worths
  have h_least_root := ok_least_root d_least_root B h_parted_worths
  have h_root_row := ok_root_row d_root_row B h_least_root
  have h_grown := ok_grown (P := l.prog) (w := w) (base := base) d_grown B 13
  have x_worths := okx_worths d_worths B x_check_keys x_check_weights h_worth_table
  have x_roots := okx_roots d_roots B x_worths h_root_row
  have x_best := okx_best d_best B x_roots h_grown
  have h_halved := ok_halved (P := l.prog) (w := w) (base := base) d_halved B 13
  have x_even := okx_even d_even B x_check_keys h_halved
  have h_written := ok_written (P := l.prog) (w := w) (base := base) d_written B 13
  have h_sign_at := ok_sign_at (P := l.prog) (w := w) (base := base) d_sign_at B
  have x_behind := okx_behind d_behind B e_BadText h_sign_at
  have h_word_end := ok_letters d_word_end B h_sign_at
  have x_tree_at := okx_tree_at d_tree_at B h_sign_at x_behind h_word_end 13
  have x_shown := okx_shown d_shown B x_check_keys x_check_tree h_written
  have x_read := okx_read d_read B ⟨_, c_MOST_KEYS⟩ e_BadText x_tree_at h_row_of h_are_keys
  have h_left_up := ok_left_up (P := l.prog) (w := w) (base := base) d_left_up B
  have h_right_up := ok_right_up (P := l.prog) (w := w) (base := base) d_right_up B
  have h_turned_in := ok_turned_in d_turned_in B h_left_up h_right_up 13
  have x_turned := okx_turned d_turned B e_NoKey e_AtRoot x_check_keys x_check_tree h_turned_in
  have h_l_cell_at := ok_l_cell_at (P := l.prog) (w := w) (base := base) d_l_cell_at B
  have x_l_refuses := okx_refuses d_l_refuses B x_even x_best x_shown x_turned x_read
  have m_l_classes := ok_classes (P := l.prog) (w := w) (base := base) d_l_classes B tab e_NoKeys e_NoWeights e_NoTree e_NoKey e_AtRoot e_BadText
  have h_l_caught := ok_caught d_l_caught B tab e_SeekError x_l_refuses m_l_classes
  exact ok_law F34 B h_l_cell_at h_l_caught

theorem walk {l : PySem.W.OpenLaw} {q : Program} {loose : List Str} {XP : (Str → Option Value) → Heap → Prop} {YP : World → Heap → Prop} {d : DefRec} {K : Params → PySem.W.Frag} (hn : l.most = some 63) (hdf : d.params.defaults = [])
    (hY : ∀ (w : World) (h : Heap), YP w h → (K w.params).In h)
    (F : ∀ (w : World) (mg : Str → Option Value) (fa : Addr) (h : Heap), (K w.params).In h → h.Ns mainGlobals mg → mg d.name = some (.ref fa) →
      ∃ fd : FuncData, (∀ (s : Shared) (u : Value), BindsTo s fd ⟨[u], []⟩ [("script", u)]) ∧ ∀ base : Heap, (K w.params).In base → base.Ns mainGlobals mg → FnOk l.prog w (K w.params) mg base CX0 30 fa fd ["script"] (sp_law (K w.params))) :
    PySem.W.WalkO q loose XP YP l.row.toRowW d [] (fun f vs => PySem.call f vs) :=
  L2.walk_of (n := 63) (k := 30) (x := "script") (CX := fun _ => CX0) (sp := fun w => sp_law (K w.params)) hn (by decide) hdf ⟨rfl, by decide, by decide⟩ hY F (fun _ _ a ns hl _ hS => ⟨a, ns, rfl, hS, hl, fun _ => rfl⟩) fun _ _ _ _ _ z => z
end Toy
open PySem PySem.W PyProof.Rows
set_option maxRecDepth 100000 in
set_option maxHeartbeats 0 in
theorem PySem.Challenge.cw_seektree_k18_each_refusal_alone_holds : PySem.Challenge.rw_seektree_k18_each_refusal_alone.Holds := by
  w_on; o_law; k_head; (case hw => w_witness2)
  k_fill
  refine Toy.walk (l := PySem.Challenge.rw_seektree_k18_each_refusal_alone) rfl rfl (fun w h Y => PySem.W.kIn_of Y) ?F
  case F =>
    intro w mg fa h KX G hmg
    refine' Toy.all_mk KX G hmg ?a0 ?l0 ?c0 ?k0 ?a1 ?l1 ?c1 ?k1 ?a2 ?l2 ?c2 ?k2 ?a3 ?l3 ?c3 ?k3 ?a4 ?l4 ?c4 ?k4 ?a5 ?l5 ?c5 ?k5 ?a6 ?l6 ?c6 ?k6 ?a7 ?l7 ?c7 ?k7 ?a8 ?l8 ?c8 ?k8 ?a9 ?l9 ?c9 ?k9 ?a10 ?l10 ?c10 ?k10 ?a11 ?l11 ?c11 ?k11 ?a12 ?l12 ?c12 ?k12 ?a13 ?l13 ?c13 ?k13 ?a14 ?l14 ?c14 ?k14 ?a15 ?l15 ?c15 ?k15 ?a16 ?l16 ?c16 ?k16 ?a17 ?l17 ?c17 ?k17 ?a18 ?l18 ?c18 ?k18 ?a19 ?l19 ?c19 ?k19 ?a20 ?l20 ?c20 ?k20 ?a21 ?l21 ?c21 ?k21 ?a22 ?l22 ?c22 ?k22 ?a23 ?l23 ?c23 ?k23 ?a24 ?l24 ?c24 ?k24 ?a25 ?l25 ?c25 ?k25 ?a26 ?l26 ?c26 ?k26 ?a27 ?l27 ?c27 ?k27 ?a28 ?l28 ?c28 ?k28 ?a29 ?l29 ?c29 ?k29 ?a30 ?l30 ?c30 ?k30 ?a31 ?l31 ?c31 ?k31 ?a32 ?l32 ?c32 ?k32 ?a33 ?l33 ?c33 ?k33 ?a34 ?l34 ?c34 ?k34 ?q0 ?q1 ?q2 ?er0 ?er1 ?er2 ?er3 ?er4 ?er5 ?er6 ?tab ?z0 ?z1 ?z2 ?z3 ?z4 ?z5 ?z6 ?z7 ?z8 ?z9 ?z10 ?z11 ?z12 ?z13 ?z14
    (case a0 => k_is)
    (case l0 => k_is)
    (case c0 => k_is)
    (case k0 => k_is)
    (case a1 => k_is)
    (case l1 => k_is)
    (case c1 => k_is)
    (case k1 => k_is)
    (case a2 => k_is)
    (case l2 => k_is)
    (case c2 => k_is)
    (case k2 => k_is)
    (case a3 => k_is)
    (case l3 => k_is)
    (case c3 => k_is)
    (case k3 => k_is)
    (case a4 => k_is)
    (case l4 => k_is)
    (case c4 => k_is)
    (case k4 => k_is)
    (case a5 => k_is)
    (case l5 => k_is)
    (case c5 => k_is)
    (case k5 => k_is)
    (case a6 => k_is)
    (case l6 => k_is)
    (case c6 => k_is)
    (case k6 => k_is)
    (case a7 => k_is)
    (case l7 => k_is)
    (case c7 => k_is)
    (case k7 => k_is)
    (case a8 => k_is)
    (case l8 => k_is)
    (case c8 => k_is)
    (case k8 => k_is)
    (case a9 => k_is)
    (case l9 => k_is)
    (case c9 => k_is)
    (case k9 => k_is)
    (case a10 => k_is)
    (case l10 => k_is)
    (case c10 => k_is)
    (case k10 => k_is)
    (case a11 => k_is)
    (case l11 => k_is)
    (case c11 => k_is)
    (case k11 => k_is)
    (case a12 => k_is)
    (case l12 => k_is)
    (case c12 => k_is)
    (case k12 => k_is)
    (case a13 => k_is)
    (case l13 => k_is)
    (case c13 => k_is)
    (case k13 => k_is)
    (case a14 => k_is)
    (case l14 => k_is)
    (case c14 => k_is)
    (case k14 => k_is)
    (case a15 => k_is)
    (case l15 => k_is)
    (case c15 => k_is)
    (case k15 => k_is)
    (case a16 => k_is)
    (case l16 => k_is)
    (case c16 => k_is)
    (case k16 => k_is)
    (case a17 => k_is)
    (case l17 => k_is)
    (case c17 => k_is)
    (case k17 => k_is)
    (case a18 => k_is)
    (case l18 => k_is)
    (case c18 => k_is)
    (case k18 => k_is)
    (case a19 => k_is)
    (case l19 => k_is)
    (case c19 => k_is)
    (case k19 => k_is)
    (case a20 => k_is)
    (case l20 => k_is)
    (case c20 => k_is)
    (case k20 => k_is)
    (case a21 => k_is)
    (case l21 => k_is)
    (case c21 => k_is)
    (case k21 => k_is)
    (case a22 => k_is)
    (case l22 => k_is)
    (case c22 => k_is)
    (case k22 => k_is)
    (case a23 => k_is)
    (case l23 => k_is)
    (case c23 => k_is)
    (case k23 => k_is)
    (case a24 => k_is)
    (case l24 => k_is)
    (case c24 => k_is)
    (case k24 => k_is)
    (case a25 => k_is)
    (case l25 => k_is)
    (case c25 => k_is)
    (case k25 => k_is)
    (case a26 => k_is)
    (case l26 => k_is)
    (case c26 => k_is)
    (case k26 => k_is)
    (case a27 => k_is)
    (case l27 => k_is)
    (case c27 => k_is)
    (case k27 => k_is)
    (case a28 => k_is)
    (case l28 => k_is)
    (case c28 => k_is)
    (case k28 => k_is)
    (case a29 => k_is)
    (case l29 => k_is)
    (case c29 => k_is)
    (case k29 => k_is)
    (case a30 => k_is)
    (case l30 => k_is)
    (case c30 => k_is)
    (case k30 => k_is)
    (case a31 => k_is)
    (case l31 => k_is)
    (case c31 => k_is)
    (case k31 => k_is)
    (case a32 => k_is)
    (case l32 => k_is)
    (case c32 => k_is)
    (case k32 => k_is)
    (case a33 => k_is)
    (case l33 => k_is)
    (case c33 => k_is)
    (case k33 => k_is)
    (case a34 => k_is)
    (case l34 => k_is)
    (case c34 => k_is)
    (case k34 => k_is)
    (case q0 => k_is)
    (case q1 => k_is)
    (case q2 => k_is)
    (case er0 => k_is)
    (case er1 => k_is)
    (case er2 => k_is)
    (case er3 => k_is)
    (case er4 => k_is)
    (case er5 => k_is)
    (case er6 => k_is)
    (case tab => kernel_rfl)
    (case z0 => k_is)
    (case z1 => k_is)
    (case z2 => k_is)
    (case z3 => k_is)
    (case z4 => k_is)
    (case z5 => k_is)
    (case z6 => k_is)
    (case z7 => k_is)
    (case z8 => k_is)
    (case z9 => k_is)
    (case z10 => k_is)
    (case z11 => k_is)
    (case z12 => k_is)
    (case z13 => k_is)
    (case z14 => k_is)
#print axioms PySem.Challenge.cw_seektree_k18_each_refusal_alone_holds

