import PyProof.Rows.All
import Wide.All
import OpenK.AllK
import Wide.FinOn
import Lean
import PyProof.EqAt
import PyProof.EqKinds
import PyProof.TupleCall
import PySem.Challenge.RW_keyrise_k16_refused_fractions
set_option Elab.async false
set_option linter.all false
set_option maxRecDepth 100000
/-! THE HAND LAYER, for ints, bools, texts, own classes, LISTS and tuples (index, slices, in, append, pop ..), calls, loops. Paste it whole ahead of your own text; what your proof does not reach may be deleted. -/
namespace L2
open PySem PySem.Spec PyProof.Rows

/-- a key: an int or a str -/
abbrev Key := Sum Int Str
def keyIs : Key → Value → Bool
  | .inl k, v => Value.isInt k v
  | .inr x, v => Value.isStrOf x v
def keyH (w : World) : Key → Int
  | .inl k => hashInt k
  | .inr x => hashStr w x
theorem keyIs_shape : ∀ {k : Key} {v : Value}, keyIs k v = true → (∃ i t, k = Sum.inl i ∧ v = Value.int i t) ∨ (∃ x t, k = Sum.inr x ∧ v = Value.str x t)
  | .inl i, v, h => by
    obtain ⟨t, e⟩ := Value.isInt_shape (k := i) (v := v) h
    exact .inl ⟨i, t, rfl, e⟩
  | .inr x, v, h => by
    obtain ⟨t, e⟩ := Value.isStrOf_shape (x := x) (v := v) h
    exact .inr ⟨x, t, rfl, e⟩
theorem key_ll (a b : Int) : decide ((Sum.inl a : Key) = Sum.inl b) = (a == b) := by
  by_cases e : a = b
  · subst e; simp
  · have h : ¬ (Sum.inl a : Key) = Sum.inl b := fun q => e (Sum.inl.inj q)
    rw [decide_eq_false h]
    exact (beq_eq_false_iff_ne.mpr e).symm
theorem key_rr (a b : Str) : decide ((Sum.inr a : Key) = Sum.inr b) = decide (a = b) := by
  by_cases e : a = b
  · subst e; simp
  · have h : ¬ (Sum.inr a : Key) = Sum.inr b := fun q => e (Sum.inr.inj q)
    rw [decide_eq_false h, decide_eq_false e]
theorem key_lr (a : Int) (b : Str) : decide ((Sum.inl a : Key) = Sum.inr b) = false := decide_eq_false (fun q => nomatch q)
theorem key_rl (a : Str) (b : Int) : decide ((Sum.inr a : Key) = Sum.inl b) = false := decide_eq_false (fun q => nomatch q)

def mixKind (prog : Program) (w : World) : PySem.KeyKind prog w Key where
  is := keyIs
  hash := keyH w
  inj := fun v a b ha hb => by
    rcases keyIs_shape ha with ⟨i, t, rfl, rfl⟩ | ⟨x, t, rfl, rfl⟩
    · rcases keyIs_shape hb with ⟨j, u, rfl, e⟩ | ⟨y, u, rfl, e⟩
      · injection e with e1 _; rw [e1]
      · exact nomatch e
    · rcases keyIs_shape hb with ⟨j, u, rfl, e⟩ | ⟨y, u, rfl, e⟩
      · exact nomatch e
      · injection e with e1 _; rw [e1]
  byValue := fun k v h => by
    rcases keyIs_shape h with ⟨i, t, rfl, rfl⟩ | ⟨x, t, rfl, rfl⟩ <;> rfl
  pyHash := fun hv h => by
    rcases keyIs_shape hv with ⟨i, t, rfl, rfl⟩ | ⟨x, t, rfl, rfl⟩
    · exact wpAny_pyHash_int h
    · exact wpAny_pyHash_str h
  eqBool := fun hu hv h => by
    rcases keyIs_shape hu with ⟨i, t, rfl, rfl⟩ | ⟨x, t, rfl, rfl⟩
    · rcases keyIs_shape hv with ⟨j, u, rfl, rfl⟩ | ⟨y, u, rfl, rfl⟩
      · rw [key_ll] at h; exact wpAny_eqBool_int h
      · rw [key_lr] at h; exact SeqAt.EqAt.int_str i t y u _ _ _ _ h
    · rcases keyIs_shape hv with ⟨j, u, rfl, rfl⟩ | ⟨y, u, rfl, rfl⟩
      · rw [key_rl] at h; exact SeqAt.EqAt.str_int x t j u _ _ _ _ h
      · rw [key_rr] at h; exact wpAny_eqBool_str h
  «strs» := fun k x t v h => by
    rcases keyIs_shape h with ⟨i, u, rfl, e⟩ | ⟨y, u, rfl, e⟩
    · exact nomatch e
    · injection e with e1 _
      subst e1
      cases v <;> rfl

end L2

namespace L2
open PySem PySem.Spec PyProof.Rows

/-- a value, without the heap -/
inductive V where
  | non | bl (b : Bool) | int (i : Int) | str (x : Str) | byt (b : Array UInt8) | flt (b : UInt64) | ref (a : Addr) | ty (n : String)
  deriving DecidableEq

def RelV : V → Value → Prop
  | .non, u => u = Value.none
  | .bl b, u => u = Value.bool b
  | .int i, u => ∃ t, u = Value.int i t
  | .str x, u => ∃ t, u = Value.str x t
  | .byt b, u => ∃ t, u = Value.bytes b t
  | .flt b, u => ∃ t, u = Value.float b t
  | .ref a, u => u = Value.ref a
  | .ty n, u => u = Value.type n

abbrev Vals : List V → List Value → Prop := Paired RelV
theorem Vals.length {xs : List V} {us : List Value} (r : Vals xs us) : xs.length = us.length := Paired.length r
theorem Vals.get : ∀ {xs : List V} {us : List Value} {i : Nat} {x : V}, Vals xs us → xs[i]? = some x → ∃ u, us[i]? = some u ∧ RelV x u
  | _, _, _, _, .nil, e => by simp at e
  | _, _, 0, _, .cons r _, e => by simp at e; subst e; exact ⟨_, rfl, r⟩
  | _, _, i + 1, x, .cons _ t, e => by
    obtain ⟨u, h1, h2⟩ := Vals.get (i := i) (x := x) t (by simpa using e)
    exact ⟨u, by simpa using h1, h2⟩
theorem Vals.set {x : V} {u : Value} (r : RelV x u) : ∀ {xs : List V} {us : List Value} (i : Nat), Vals xs us → Vals (xs.set i x) (us.set i u)
  | _, _, _, .nil => .nil
  | _, _, 0, .cons _ t => .cons r t
  | _, _, i + 1, .cons q t => .cons q (Vals.set r i t)
theorem Vals.append : ∀ {xs ys : List V} {us ws : List Value}, Vals xs us → Vals ys ws → Vals (xs ++ ys) (us ++ ws)
  | _, _, _, _, .nil, s => s
  | _, _, _, _, .cons r t, s => .cons r (Vals.append t s)
theorem Vals.take : ∀ {xs : List V} {us : List Value} (n : Nat), Vals xs us → Vals (xs.take n) (us.take n)
  | _, _, 0, _ => .nil
  | _, _, _ + 1, .nil => .nil
  | _, _, n + 1, .cons r t => .cons r (Vals.take n t)
theorem Vals.drop : ∀ {xs : List V} {us : List Value} (n : Nat), Vals xs us → Vals (xs.drop n) (us.drop n)
  | _, _, 0, r => r
  | _, _, _ + 1, .nil => .nil
  | _, _, n + 1, .cons _ t => Vals.drop n t
theorem Vals.none_of : ∀ {xs : List V} {us : List Value} {i : Nat}, Vals xs us → xs[i]? = none → us[i]? = none := fun {xs us i} r e => by
  have h1 := r.length
  have h2 : xs.length ≤ i := List.getElem?_eq_none_iff.mp e
  exact List.getElem?_eq_none_iff.mpr (by omega)

def RelO : Option V → Option Value → Prop
  | some v, some u => RelV v u
  | none, none => True
  | _, _ => False
def KV {κ : Type} : List (κ × V) → List (κ × Value) → Prop := Paired fun (p : κ × V) (q : κ × Value) => p.1 = q.1 ∧ RelV p.2 q.2

/-- a key of a dict (00_mix): an int or a text -/
def kV : Key → V
  | .inl i => .int i
  | .inr x => .str x

/-- what stands at a tracked address -/
inductive HO where
  /-- a list -/
  | lst (xs : List V)
  /-- a tuple (never changes) -/
  | tup (xs : List V)
  /-- a dict whose keys are ints and texts; one whose keys are tuples of ints and texts (the empty one is both) -/
  | dK (kvs : List (Key × V)) | dT (kvs : List (List Key × V))
  /-- a set of ints: its members, its size -/
  | set (S : Int → Bool) (n : Nat)
  /-- an instance of the class at C, its dict at dx, its attributes -/
  | ins (C dx : Addr) (fs : List (Str × V))
  /-- the dict of the instance at x -/
  | own (x : Addr)
  /-- the dict of an exception -/
  | xd (fs : List (Str × V))
  /-- a bound method, f of x -/
  | met (f x : Addr)
  /-- a range object lo, lo + 1, .. below hi -/
  | rng (lo hi : Int)
  /-- a thing that is known to the object (the script; a dict while a loop walks it): read, never written while it is so -/
  | frz (o : Obj) (u : HO)
  /-- a code object's table -/
  | tbl (ps : Array Value)
  /-- any other thing, by what is true of its one object (a def of one's own: SetO a S n := HO.ext fun h => ..) -/
  | ext (φ : Heap → Prop)

abbrev Hp := Addr → Option HO
def upd (H : Hp) (a : Addr) (o : HO) : Hp := fun b => if b = a then some o else H b
theorem upd_same {H : Hp} {a : Addr} {o : HO} : upd H a o a = some o := by unfold upd; rw [if_pos rfl]
theorem upd_ne {H : Hp} {a b : Addr} {o : HO} (h : b ≠ a) : upd H a o b = H b := by unfold upd; rw [if_neg h]
theorem ne_of_none {H : Hp} {a b : Addr} {o : HO} (h : H a = some o) (h' : H b = none) : a ≠ b := by
  intro e; subst e; rw [h] at h'; cases h'

section
variable (P : Program) (w : World)
def ObjOk (H : Hp) (h : Heap) (a : Addr) : HO → Prop
  | .lst xs => xs.length ≤ sizeLine ∧ ∃ (its : List Value) (n : Nat), Vals xs its ∧ h.get? a = some { cls := .type "list", data := .seq its.toArray n }
  | .tup xs => xs.length ≤ sizeLine ∧ ∃ its : List Value, Vals xs its ∧ IsTup h a its.toArray
  | .dK kvs => kvs.length ≤ sizeLine ∧ (a == sysModules) = false ∧ ∃ vs, KV kvs vs ∧ h.DictOf (mixKind P w) a vs
  | .dT _ => False
  | .set S n => h.SetOf (intKind P w) a S n
  | .ins C dx fs => H dx = some (.own a) ∧ fs.length ≤ 1000 ∧ dx ≠ a ∧ h.get? a = some (PySem.W.instObj C dx) ∧
      ∃ mA, h.Ns1 dx mA ∧ (∀ f, RelO (fs.lookup f) (mA f)) ∧ PySem.Within mA (fs.map (·.1))
  | .own _ => ∃ o, h.get? a = some o
  | .xd fs => ∃ mA, h.Ns1 a mA ∧ ∀ f, RelO (fs.lookup f) (mA f)
  | .rng lo hi => ∃ t u v, h.get? a = some { cls := .type "range", data := .fields #[.int lo t, .int hi u, .int 1 v] }
  | .frz o u => h.get? a = some o ∧ ObjOk H h a u
  | .tbl ps => h.get? a = some { cls := .none, data := .fields ps }
  | .met f x => h.get? a = some (PySem.W.methodObj (.ref f) (.ref x))
  | .ext φ => φ h ∧ (∃ o, h.get? a = some o) ∧ ∀ h1 h2 : Heap, φ h1 → (∀ o, h1.get? a = some o → h2.get? a = some o) → φ h2
/-- the abstract heap is held -/
def HOk (H : Hp) (h : Heap) : Prop := ∀ a o, H a = some o → ObjOk P w H h a o
end

section
variable {P : Program} {w : World} {H H' : Hp} {h h' : Heap} {a : Addr} {o : HO}
theorem ObjOk.lt (x : ObjOk P w H h a o) : a < h.objs.size := by
  cases o with
  | lst xs => obtain ⟨_, _, _, _, e⟩ := x; exact Heap.lt_size e
  | tup xs => obtain ⟨_, _, _, p⟩ := x; exact p.lt
  | dK kvs => obtain ⟨_, _, _, _, o, _, _, e, _⟩ := x; exact Heap.lt_size e
  | dT kvs => exact (show False from x).elim
  | set S n => obtain ⟨o, _, _, _, e, _⟩ := x; exact Heap.lt_size e
  | ins C dx fs => obtain ⟨_, _, _, e, _⟩ := x; exact Heap.lt_size e
  | own y => obtain ⟨_, e⟩ := x; exact Heap.lt_size e
  | xd fs => obtain ⟨_, ⟨_, _, _, e, _⟩, _⟩ := x; exact Heap.lt_size e
  | rng lo hi => obtain ⟨_, _, _, e⟩ := x; exact Heap.lt_size e
  | frz ob u => obtain ⟨e, _⟩ := x; exact Heap.lt_size e
  | tbl ps => exact Heap.lt_size (show h.get? a = some _ from x)
  | met f y => exact Heap.lt_size (show h.get? a = some _ from x)
  | ext φ => obtain ⟨_, ⟨_, e⟩, _⟩ := x; exact Heap.lt_size e
/-- what an object's description leans on: its own object, its own dict, the tuples -/
theorem ObjOk.stay (x : ObjOk P w H h a o) (k : ∀ b u, (b = a ∨ H b = some (.own a)) → h.get? b = some u → h'.get? b = some u)
    (ho : ∀ b, H b = some (.own a) → H' b = some (.own a)) (ht : ∀ b xs, H b = some (.tup xs) → H' b = some (.tup xs)) : ObjOk P w H' h' a o := by
  induction o with
  | lst xs => obtain ⟨z, its, n, r, e⟩ := x; exact ⟨z, its, n, r, k _ _ (.inl rfl) e⟩
  | tup xs => obtain ⟨z, its, r, ob, e, c⟩ := x; exact ⟨z, its, r, ob, k _ _ (.inl rfl) e, c⟩
  | dK kvs => obtain ⟨z, y, vs, r, ob, es, ep, e, c⟩ := x; exact ⟨z, y, vs, r, ob, es, ep, k _ _ (.inl rfl) e, c⟩
  | dT kvs => exact (show False from x).elim
  | set S n => obtain ⟨ob, es, ep, t, e, c⟩ := x; exact ⟨ob, es, ep, t, k _ _ (.inl rfl) e, c⟩
  | ins C dx fs =>
    obtain ⟨d, z, ne, e, mA, ⟨od, es, ep, e2, c⟩, r⟩ := x
    exact ⟨ho _ d, z, ne, k _ _ (.inl rfl) e, mA, ⟨od, es, ep, k _ _ (.inr d) e2, c⟩, r⟩
  | own y => obtain ⟨ob, e⟩ := x; exact ⟨ob, k _ _ (.inl rfl) e⟩
  | xd fs => obtain ⟨mA, ⟨od, es, ep, e, c⟩, r⟩ := x; exact ⟨mA, ⟨od, es, ep, k _ _ (.inl rfl) e, c⟩, r⟩
  | rng lo hi => obtain ⟨t, u, v, e⟩ := x; exact ⟨t, u, v, k _ _ (.inl rfl) e⟩
  | frz ob u ih => obtain ⟨e, q⟩ := x; exact ⟨k _ _ (.inl rfl) e, ih q⟩
  | tbl ps =>
    have e : h.get? a = some { cls := .none, data := .fields ps } := x
    show h'.get? a = some { cls := .none, data := .fields ps }
    exact k a _ (.inl rfl) e
  | met f y =>
    have e : h.get? a = some (PySem.W.methodObj (.ref f) (.ref y)) := x
    show h'.get? a = some (PySem.W.methodObj (.ref f) (.ref y))
    exact k a _ (.inl rfl) e
  | ext φ => obtain ⟨p, ⟨o, e⟩, st⟩ := x; exact ⟨st _ _ p fun o q => k _ _ (.inl rfl) q, ⟨o, k _ _ (.inl rfl) e⟩, st⟩
theorem HOk.lt (x : HOk P w H h) (e : H a = some o) : a < h.objs.size := (x a o e).lt
theorem HOk.fresh (x : HOk P w H h) (e : h.objs.size ≤ a) : H a = none := by
  cases q : H a with
  | none => rfl
  | some u => exact absurd (Nat.lt_of_lt_of_le (x.lt q) e) (Nat.lt_irrefl _)
/-- every object of the heap is kept -/
theorem HOk.kept (x : HOk P w H h) (k : ∀ b u, h.get? b = some u → h'.get? b = some u) : HOk P w H h' := fun a o e =>
  (x a o e).stay (fun b u _ q => k b u q) (fun _ q => q) fun _ _ q => q
/-- a new object is laid and tracked -/
theorem HOk.laid (x : HOk P w H h) (k : ∀ b u, h.get? b = some u → h'.get? b = some u) (hp : h.objs.size ≤ a) (new : ObjOk P w (upd H a o) h' a o) : HOk P w (upd H a o) h' := fun b u e => by
  have hn := x.fresh hp
  by_cases hb : b = a
  · subst hb; rw [upd_same] at e; cases e; exact new
  · rw [upd_ne hb] at e
    exact (x b u e).stay (fun c v _ q => k c v q) (fun c q => by rw [upd_ne (ne_of_none q hn)]; exact q) fun c xs q => by rw [upd_ne (ne_of_none q hn)]; exact q
end

/-- what may be read as u: it is u, or a known u -/
def Rd (H : Hp) (a : Addr) (u : HO) : Prop := H a = some u ∨ ∃ o, H a = some (.frz o u)
theorem Rd.of {H : Hp} {a : Addr} {u : HO} (h : H a = some u) : Rd H a u := .inl h
theorem Rd.ok {P : Program} {w : World} {H : Hp} {h : Heap} {a : Addr} {u : HO} (r : Rd H a u) (x : HOk P w H h) : ObjOk P w H h a u := by
  rcases r with r | ⟨o, r⟩
  · exact x a u r
  · obtain ⟨_, q⟩ := x a _ r
    exact q
/-- what may be written -/
def Mut : Option HO → Prop
  | some (.lst _) => True
  | some (.dK _) => True
  | some (.dT _) => True
  | some (.set _ _) => True
  | some (.ins _ _ _) => True
  | some (.ext _) => True
  | _ => False
section
variable {P : Program} {w : World} {H : Hp} {h h' : Heap} {x e : Addr} {o' : HO}
/-- the object at e is changed: x itself, or the dict of the instance x -/
theorem HOk.write (ok : HOk P w H h) (mu : Mut (H x)) (he : e = x ∨ H e = some (.own x)) (k : ∀ b u, b ≠ e → h.get? b = some u → h'.get? b = some u) (heo : ∃ u, h'.get? e = some u)
    (new : ObjOk P w (upd H x o') h' x o') : HOk P w (upd H x o') h' := fun b u q => by
  have nown : ∀ c y, H c = some (.own y) → c ≠ x := fun c y r z => by subst z; rw [r] at mu; exact mu
  have ntup : ∀ c xs, H c = some (.tup xs) → c ≠ x := fun c xs r z => by subst z; rw [r] at mu; exact mu
  by_cases hb : b = x
  · subst hb; rw [upd_same] at q; cases q; exact new
  · rw [upd_ne hb] at q
    by_cases hbe : b = e
    · have q' : H b = some (.own x) := by
        rcases he with z | z
        · exact absurd (hbe.trans z) hb
        · rw [hbe]; exact z
      rw [q] at q'; cases q'
      obtain ⟨v, hv⟩ := heo
      exact ⟨v, by rw [hbe]; exact hv⟩
    · refine (ok b u q).stay (fun c v hc r => k c v ?_ r) (fun c r => by rw [upd_ne (nown c b r)]; exact r) fun c xs r => by rw [upd_ne (ntup c xs r)]; exact r
      rcases hc with rfl | hc
      · exact hbe
      · rintro rfl
        rcases he with z | z
        · exact nown c b hc z
        · rw [hc] at z; cases z; exact hb rfl
end

/-! ### kept unless tracked; of the frames at fs (the callers') the slots may change (an exception that passes writes there); of the records at ex (iterators) nothing is said -/
structure Un (fs ex : List Addr) (H H' : Hp) (h h' : Heap) : Prop where
  keep : ∀ b o, h.get? b = some o → H b = none → b ∉ fs → b ∉ ex → h'.get? b = some o
  slot : ∀ b o, h.get? b = some o → H b = none → b ∈ fs → b ∉ ex → ∃ sl, h'.get? b = some { o with slots := sl }
  free : ∀ b o, h.get? b = some o → H b = none → b ∉ ex → H' b = none
  there : ∀ b o, h.get? b = some o → b ∉ ex → ∃ o', h'.get? b = some o'
  tups : ∀ b xs, H b = some (.tup xs) → H' b = some (.tup xs)
  frzs : ∀ b o u, H b = some (.frz o u) → H' b = some (.frz o u)
  tbls : ∀ b ps, H b = some (.tbl ps) → ∃ more, H' b = some (.tbl (ps ++ more))
section
variable {fs fs' ex ex' : List Addr} {H H1 H2 : Hp} {h h1 h2 h' : Heap} {a x e : Addr} {o : HO}
theorem Un.any (u : Un fs ex H H1 h h1) {b : Addr} {ob : Obj} (q : h.get? b = some ob) (n : H b = none) (hx : b ∉ ex) : ∃ sl, h1.get? b = some { ob with slots := sl } := by
  by_cases hb : b ∈ fs
  · exact u.slot b ob q n hb hx
  · exact ⟨ob.slots, u.keep b ob q n hb hx⟩
theorem Un.trans (a : Un fs ex H H1 h h1) (b : Un fs ex H1 H2 h1 h2) : Un fs ex H H2 h h2 where
  keep := fun c ob q n hc hx => b.keep c ob (a.keep c ob q n hc hx) (a.free c ob q n hx) hc hx
  slot := fun c ob q n hc hx => by
    obtain ⟨sl, e1⟩ := a.slot c ob q n hc hx
    obtain ⟨sl', e2⟩ := b.slot c _ e1 (a.free c ob q n hx) hc hx
    exact ⟨sl', e2⟩
  free := fun c ob q n hx => by
    obtain ⟨o', e1⟩ := a.there c ob q hx
    exact b.free c o' e1 (a.free c ob q n hx) hx
  there := fun c ob q hx => by
    obtain ⟨o', e1⟩ := a.there c ob q hx
    exact b.there c o' e1 hx
  tups := fun c xs q => b.tups c xs (a.tups c xs q)
  frzs := fun c ob xs q => b.frzs c ob xs (a.frzs c ob xs q)
  tbls := fun c ps q => by
    obtain ⟨m1, e1⟩ := a.tbls c ps q
    obtain ⟨m2, e2⟩ := b.tbls c _ e1
    exact ⟨m1 ++ m2, by rw [e2, Array.append_assoc]⟩
theorem Un.kept (k : ∀ b u, h.get? b = some u → h'.get? b = some u) : Un fs ex H H h h' :=
  ⟨fun b ob q _ _ _ => k b ob q, fun b ob q _ _ _ => ⟨ob.slots, k b ob q⟩, fun _ _ _ n _ => n, fun b ob q _ => ⟨ob, k b ob q⟩, fun _ _ q => q, fun _ _ _ q => q, fun _ ps q => ⟨#[], by rw [q]; simp⟩⟩
theorem Un.refl : Un fs ex H H h h := Un.kept fun _ _ q => q
theorem Un.laid (k : ∀ b u, h.get? b = some u → h'.get? b = some u) (hp : h.objs.size ≤ a) (hn : H a = none) : Un fs ex H (upd H a o) h h' where
  keep := fun b u q _ _ _ => k b u q
  slot := fun b u q _ _ _ => ⟨u.slots, k b u q⟩
  free := fun b u q n _ => by rw [upd_ne (Nat.ne_of_lt (Nat.lt_of_lt_of_le (Heap.lt_size q) hp))]; exact n
  there := fun b u q _ => ⟨u, k b u q⟩
  tups := fun b xs q => by rw [upd_ne (ne_of_none q hn)]; exact q
  frzs := fun b u xs q => by rw [upd_ne (ne_of_none q hn)]; exact q
  tbls := fun b ps q => ⟨#[], by rw [upd_ne (ne_of_none q hn), q]; simp⟩
theorem Un.write (mu : Mut (H x)) (he : e = x ∨ H e = some (.own x)) (k : ∀ b u, b ≠ e → h.get? b = some u → h'.get? b = some u) (heo : ∃ u, h'.get? e = some u) : Un fs ex H (upd H x o) h h' := by
  have hx : ∀ b, H b = none → b ≠ x := fun b n z => by subst z; rw [n] at mu; exact mu
  have hb : ∀ b, H b = none → b ≠ e := fun b n z => by
    subst z
    rcases he with r | r
    · exact hx b n r
    · rw [n] at r; cases r
  have hm : ∀ b u, H b = some u → ¬ Mut (some u) → b ≠ x := fun b u q nm z => by subst z; rw [q] at mu; exact nm mu
  refine ⟨fun b u q n _ _ => k b u (hb b n) q, fun b u q n _ _ => ⟨u.slots, k b u (hb b n) q⟩, fun b u q n _ => by rw [upd_ne (hx b n)]; exact n, fun b u q _ => ?_,
    fun b xs q => by rw [upd_ne (hm b _ q fun z => z)]; exact q, fun b u xs q => by rw [upd_ne (hm b _ q fun z => z)]; exact q, fun b ps q => ⟨#[], by rw [upd_ne (hm b _ q fun z => z), q]; simp⟩⟩
  by_cases hbe : b = e
  · subst hbe; exact heo
  · exact ⟨u, k b u hbe q⟩
theorem Un.mono (u : Un fs ex H H1 h h1) (hs : ∀ b ∈ fs, b ∈ fs') (hx : ∀ b ∈ ex, b ∈ ex') : Un fs' ex' H H1 h h1 :=
  ⟨fun b ob q n hb he => u.keep b ob q n (fun z => hb (hs b z)) fun z => he (hx b z), fun _ _ q n _ he => u.any q n fun z => he (hx _ z), fun b ob q n he => u.free b ob q n fun z => he (hx b z), fun b ob q he => u.there b ob q fun z => he (hx b z), u.tups, u.frzs, u.tbls⟩
end

/-! ### the heap without what is tracked -/
def trk (h : Heap) (H : Hp) : List Addr := (List.range h.objs.size).filter fun a => (H a).isSome
def hidT (h : Heap) (H : Hp) : Heap := PySem.W.hideAll h (trk h H)
theorem hidT_size (h : Heap) (H : Hp) : (hidT h H).objs.size = h.objs.size := PySem.W.hideAll_size _ _
theorem hidT_get {h : Heap} {H : Hp} {b : Addr} {o : Obj} (e : h.get? b = some o) (n : H b = none) : (hidT h H).get? b = some o :=
  PySem.W.hideAll_get _ e fun hm => by
    have q : (H b).isSome = true := (List.mem_filter.mp hm).2
    rw [n] at q; simp at q
theorem of_hidT {h : Heap} {H : Hp} {b : Addr} {o : Obj} (e : (hidT h H).get? b = some o) : h.get? b = some o ∧ H b = none := by
  have e' : h.get? b = some o := PySem.W.of_hideAll (trk h H) e
  refine ⟨e', ?_⟩
  cases q : H b with
  | none => rfl
  | some x =>
    have hm : b ∈ trk h H := List.mem_filter.mpr ⟨List.mem_range.mpr (Heap.lt_size e'), by simp [q]⟩
    have z : (hidT h H).get? b = none := PySem.W.hideAll_none (trk h H) hm
    rw [z] at e; cases e

/-! ### OpenK's ledger, filled with every new object but one -/
def allNews (g h : Heap) (L : Addr) : List (Addr × Obj) := (List.range h.objs.size).filterMap fun a => if a = L ∨ (g.get? a).isSome = true then none else (h.get? a).map fun o => (a, o)
def rest (g h : Heap) (L d : Addr) : List (Addr × Obj) := (allNews g h L).filter fun p => decide (p.1 ≠ d)
end L2

namespace L2
open PySem PySem.Spec PyProof.Rows

/-- the module's facts, over the base: the heap at the law's entry without what is tracked there -/
structure Mod (K : PySem.W.Frag) (mg : Str → Option Value) (base : Heap) : Prop where
  kin : K.In base
  glob : base.Ns mainGlobals mg
  blt : ∃ mb, base.Ns builtinsNs mb ∧ ∀ x : Str, x ≠ "__name__" → mb x = bootBuiltins x
  nolimit : base.NoLimit

/-- the context: a def's body (or a comprehension's block) running. base: fixed through the whole law; s₀, H₀: the entry; outer: the frames whose slots others may change (a def's callers); stack: all frames that run;
   ex: iterators that were made ahead of the entry and are walked here (a comprehension's); fn: the names whose cells were made at the entry (a def: all; a comprehension's block: its own); calm: not within an except suite; pn: pins that every state bears; xe: what is wanted of an exception that leaves the code -/
structure Cx where
  prog : Program
  w : World
  K : PySem.W.Frag
  mg : Str → Option Value
  base : Heap
  A : Around
  N : List Str
  s₀ : Shared
  H₀ : Hp
  env : Env
  outer : List Env
  stack : List Env
  ex : List Addr
  fn : Str → Bool
  calm : Bool
  pn : List (Addr × Obj)
  xe : Value → Shared → Prop
/-- the callers' frames -/
def frs (l : List Env) : List Addr := l.filterMap (·.frame)
abbrev Cx.fs (X : Cx) : List Addr := frs X.outer

def Vis (sc : Scope) (x : Str) : Prop := sc.names.lookup x = some .local ∨ sc.names.lookup x = some .cell ∨ sc.names.lookup x = some .free
def Loc (sc : Scope) (x : Str) : Prop := sc.names.lookup x = some .local ∨ sc.names.lookup x = some .cell
def Look (env : Env) (h : Heap) (m : Str → Option Value) (x : Str) (u : Value) : Prop :=
  (env.kindOf x = some .local ∧ m x = some u) ∨ ((env.kindOf x = some .cell ∨ env.kindOf x = some .free) ∧ ∃ c, env.cells.lookup x = some c ∧ h.IsCell c (some u))

structure Cx.Ok (X : Cx) : Prop where
  mod : Mod X.K X.mg X.base
  kind : X.env.scope.kind = .function
  glob : X.env.globals = mainGlobals
  blt : X.env.builtins = builtinsNs
  above : X.s₀.heap.objs.size ≤ X.env.locals
  inj : ∀ x y c, X.env.cells.lookup x = some c → X.env.cells.lookup y = some c → x = y
  has : ∀ x, (X.env.kindOf x = some .cell ∨ X.env.kindOf x = some .free) → ∃ c, X.env.cells.lookup x = some c
  cab : ∀ x c, X.fn x = true → X.env.cells.lookup x = some c → X.s₀.heap.objs.size ≤ c
  hd : X.calm = true → X.A.handled = none
  frames : X.A.frames = some X.stack
  stk : X.stack = X.outer ∨ (X.stack = X.env :: X.outer ∧ X.env.frame = some X.env.locals)
  exf : ∀ b ∈ X.ex, b ≠ X.env.locals ∧ ∀ x c, X.env.cells.lookup x = some c → c ≠ b
  bs : ∀ b o, X.base.get? b = some o → X.s₀.heap.get? b = some o ∧ X.H₀ b = none
  bsz : X.base.objs.size ≤ X.s₀.heap.objs.size
  noex : ∀ b o, X.base.get? b = some o → b ∉ X.ex
  exfs : ∀ b ∈ X.ex, b ∉ X.fs
  funs : X.s₀.heap.FunFrames X.base X.outer
  frf : ∀ b ∈ X.fs, X.H₀ b = none

structure Inv (X : Cx) (pins : List (Addr × Obj)) (σ : List (Option V)) (H : Hp) (s : Shared) : Prop where
  ok : X.Ok
  os : s.os = X.s₀.os
  bare : AllBare s.gens
  base : Un X.fs X.ex X.H₀ H X.s₀.heap s.heap
  loc : ∃ m, s.heap.Ns X.env.locals m ∧ ∀ (i : Nat) (x : Str) (v : V), X.N[i]? = some x → σ[i]? = some (some v) → Vis X.env.scope x → ∃ u, RelV v u ∧ Look X.env s.heap m x u
  cell : ∀ x c, X.env.cells.lookup x = some c → ∃ v, s.heap.IsCell c v
  free : H X.env.locals = none
  freeC : ∀ x c, X.env.cells.lookup x = some c → H c = none
  pin : ∀ p ∈ X.pn ++ pins, s.heap.get? p.1 = some p.2 ∧ H p.1 = none ∧ p.1 ≠ X.env.locals ∧ p.1 ∉ X.fs ∧ ∀ v, p.2.data ≠ .cell v
  hok : HOk X.prog X.w H s.heap
  len : σ.length = X.N.length

section
variable {X : Cx} {pins : List (Addr × Obj)} {σ : List (Option V)} {H H' : Hp} {s : Shared} {h' : Heap}

theorem Cx.Ok.nofr (ok : X.Ok) {b : Addr} {o : Obj} (e : X.base.get? b = some o) : b ∉ X.fs := fun hb => by
  have := (ok.funs.mem hb).1
  rw [e] at this; cases this
theorem Inv.bs (I : Inv X pins σ H s) : ∀ b o, X.base.get? b = some o → s.heap.get? b = some o ∧ H b = none := fun b o e =>
  ⟨I.base.keep b o (I.ok.bs b o e).1 (I.ok.bs b o e).2 (I.ok.nofr e) (I.ok.noex b o e), I.base.free b o (I.ok.bs b o e).1 (I.ok.bs b o e).2 (I.ok.noex b o e)⟩
theorem Inv.bk (I : Inv X pins σ H s) : ∀ b o, X.base.get? b = some o → s.heap.get? b = some o := fun b o e => (I.bs b o e).1
theorem Inv.mod (I : Inv X pins σ H s) : Mod X.K X.mg X.base := I.ok.mod
theorem Inv.kIn (I : Inv X pins σ H s) : X.K.In s.heap := I.ok.mod.kin.keeps I.bk
theorem Inv.nolimit (I : Inv X pins σ H s) : s.heap.NoLimit := I.ok.mod.nolimit.keeps I.bk
/-- the frame over the base: for OpenK's rules (K.In X.base is I.mod.kin) -/
theorem Inv.fr (I : Inv X pins σ H s) : ∃ m, Fr X.base X.env.locals s.heap m :=
  let ⟨m, hn, _⟩ := I.loc
  ⟨m, hn, I.bk, Nat.le_trans I.ok.bsz I.ok.above⟩
theorem Inv.lt (I : Inv X pins σ H s) : X.env.locals < s.heap.objs.size := let ⟨_, hn, _⟩ := I.loc; hn.lt
theorem Inv.sz (I : Inv X pins σ H s) : X.s₀.heap.objs.size ≤ s.heap.objs.size := Nat.le_trans I.ok.above (Nat.le_of_lt I.lt)
theorem Inv.nofs (I : Inv X pins σ H s) {a : Addr} (h : s.heap.objs.size ≤ a) : a ∉ X.fs := fun hb => by
  obtain ⟨_, o, ho, _⟩ := I.ok.funs.mem hb
  exact absurd (Nat.lt_of_lt_of_le (Heap.lt_size ho) (Nat.le_trans I.sz h)) (Nat.lt_irrefl _)
theorem Inv.cne (I : Inv X pins σ H s) : ∀ x c, X.env.cells.lookup x = some c → c ≠ X.env.locals := fun x c e z => by
  obtain ⟨v, o, ho, hd⟩ := I.cell x c e
  obtain ⟨m, ⟨o', es, ep, ho', hd', _⟩, _⟩ := I.loc
  rw [z, ho'] at ho; cases ho; rw [hd'] at hd; cases hd
theorem Inv.funs (I : Inv X pins σ H s) : s.heap.FunFrames X.base X.outer := by
  have all : ∀ (l : List Env), (∀ b ∈ frs l, b ∈ X.fs) → X.s₀.heap.FunFrames X.base l → s.heap.FunFrames X.base l := by
    intro l
    induction l with
    | nil => intro _ _; trivial
    | cons env r ih =>
      intro hs hl
      obtain ⟨hk, ⟨L, o, hf, hn, ho, hd⟩, hr⟩ := hl
      have hL : L ∈ X.fs := hs L (by unfold frs; rw [List.filterMap_cons, hf]; exact List.mem_cons_self)
      obtain ⟨sl, e⟩ := I.base.slot L o ho (I.ok.frf L hL) hL fun z => I.ok.exfs L z hL
      exact ⟨hk, ⟨L, _, hf, hn, e, hd⟩, ih (fun b hb => hs b (by unfold frs; rw [List.filterMap_cons, hf]; exact List.mem_cons_of_mem _ hb)) hr⟩
  exact all X.outer (fun _ hb => hb) I.ok.funs

/-- the frames that run, for a call -/
theorem Inv.stack (I : Inv X pins σ H s) : s.heap.FunFrames X.base X.stack := by
  rcases I.ok.stk with e | ⟨e, hf⟩
  · rw [e]; exact I.funs
  · rw [e]
    obtain ⟨m, hn, _⟩ := I.loc
    refine .cons (by rw [I.ok.kind]; decide) hf hn ?_ I.funs
    exact Heap.get?_none_of_le (Nat.le_trans I.ok.bsz I.ok.above)
theorem Inv.stkSub (I : Inv X pins σ H s) : ∀ b ∈ frs X.stack, b ∈ X.env.locals :: X.fs := fun b hb => by
  rcases I.ok.stk with e | ⟨e, hf⟩
  · rw [e] at hb; exact List.mem_cons_of_mem _ hb
  · rw [e] at hb
    unfold frs at hb
    rw [List.filterMap_cons, hf] at hb
    exact hb
theorem Inv.stkFree (I : Inv X pins σ H s) : ∀ b ∈ frs X.stack, H b = none := fun b hb => by
  rcases List.mem_cons.mp (I.stkSub b hb) with e | hb
  · rw [e]; exact I.free
  · obtain ⟨_, o, ho, _⟩ := I.ok.funs.mem hb
    exact I.base.free b o ho (I.ok.frf b hb) fun z => I.ok.exfs b z hb

/-- THE STEP: the untracked objects but the frame and the records at ch are kept (the callers' frames up to slots), the frame's map is kept, the new abstract heap is held -/
theorem Inv.step {g' : Array GenState} {t' : Nat} {d' : Drawn} {ch : List Addr} (I : Inv X pins σ H s)
    (hch : ∀ b ∈ ch, (b ∈ X.ex ∨ X.s₀.heap.objs.size ≤ b) ∧ b ≠ X.env.locals ∧ (∀ x c, X.env.cells.lookup x = some c → c ≠ b) ∧ ∀ p ∈ X.pn ++ pins, p.1 ≠ b)
    (keep : ∀ b o, b ≠ X.env.locals → b ∉ X.fs → b ∉ ch → s.heap.get? b = some o → H b = none → h'.get? b = some o)
    (slot : ∀ b o, b ≠ X.env.locals → b ∈ X.fs → b ∉ ch → s.heap.get? b = some o → H b = none → ∃ sl, h'.get? b = some { o with slots := sl }) (free : ∀ b o, b ∉ ch → s.heap.get? b = some o → H b = none → H' b = none)
    (there : ∀ b o, b ∉ ch → s.heap.get? b = some o → ∃ o', h'.get? b = some o')
    (tups : ∀ b xs, H b = some (.tup xs) → H' b = some (.tup xs)) (frzs : ∀ b o u, H b = some (.frz o u) → H' b = some (.frz o u)) (tbls : ∀ b ps, H b = some (.tbl ps) → ∃ more, H' b = some (.tbl (ps ++ more)))
    (ns : ∀ m, s.heap.Ns X.env.locals m → h'.Ns X.env.locals m) (hok : HOk X.prog X.w H' h') (hg : AllBare g') :
    Inv X pins σ H' { s with heap := h', gens := g', drawn := d', toks := t' } := by
  have neL : ∀ b o, X.s₀.heap.get? b = some o → b ≠ X.env.locals := fun b o e => Nat.ne_of_lt (Nat.lt_of_lt_of_le (Heap.lt_size e) I.ok.above)
  have neC : ∀ b o, X.s₀.heap.get? b = some o → b ∉ X.ex → b ∉ ch := fun b o e hx hb => by
    rcases (hch b hb).1 with z | z
    · exact hx z
    · exact absurd (Nat.lt_of_lt_of_le (Heap.lt_size e) z) (Nat.lt_irrefl _)
  have cellK : ∀ x c, X.env.cells.lookup x = some c → ∀ v, s.heap.IsCell c v → h'.IsCell c v := fun x c e v ⟨o, ho, hd⟩ => by
    have nch : c ∉ ch := fun z => (hch c z).2.2.1 x c e rfl
    by_cases hc : c ∈ X.fs
    · obtain ⟨sl, q⟩ := slot c o (I.cne x c e) hc nch ho (I.freeC x c e)
      exact ⟨_, q, hd⟩
    · exact ⟨o, keep c o (I.cne x c e) hc nch ho (I.freeC x c e), hd⟩
  refine ⟨I.ok, I.os, hg, ⟨fun b o e n hb hx => ?_, fun b o e n hb hx => ?_, fun b o e n hx => ?_, fun b o e hx => ?_, fun b xs e => tups b xs (I.base.tups b xs e), fun b o xs e => frzs b o xs (I.base.frzs b o xs e), fun b ps e => ?_⟩, ?_, fun x c e => ?_, ?_, fun x c e => ?_, fun p hp => ?_, hok, I.len⟩
  · exact keep b o (neL b o e) hb (neC b o e hx) (I.base.keep b o e n hb hx) (I.base.free b o e n hx)
  · obtain ⟨sl, e1⟩ := I.base.slot b o e n hb hx
    obtain ⟨sl', e2⟩ := slot b _ (neL b o e) hb (neC b o e hx) e1 (I.base.free b o e n hx)
    exact ⟨sl', e2⟩
  · obtain ⟨o', e1⟩ := I.base.there b o e hx
    exact free b o' (neC b o e hx) e1 (I.base.free b o e n hx)
  · obtain ⟨o', e1⟩ := I.base.there b o e hx
    exact there b o' (neC b o e hx) e1
  · obtain ⟨m1, e1⟩ := I.base.tbls b ps e
    obtain ⟨m2, e2⟩ := tbls b _ e1
    exact ⟨m1 ++ m2, by rw [e2, Array.append_assoc]⟩
  · obtain ⟨m, hn, hl⟩ := I.loc
    refine ⟨m, ns m hn, fun i x v e1 e2 e3 => ?_⟩
    obtain ⟨u, r, l⟩ := hl i x v e1 e2 e3
    refine ⟨u, r, ?_⟩
    rcases l with l | ⟨k, c, e, z⟩
    · exact .inl l
    · exact .inr ⟨k, c, e, cellK x c e _ z⟩
  · obtain ⟨v, z⟩ := I.cell x c e
    exact ⟨v, cellK x c e v z⟩
  · obtain ⟨m, ⟨o, _, _, ho, _⟩, _⟩ := I.loc
    exact free _ o (fun z => (hch _ z).2.1 rfl) ho I.free
  · obtain ⟨v, o, ho, hd⟩ := I.cell x c e
    exact free c o (fun z => (hch c z).2.2.1 x c e rfl) ho (I.freeC x c e)
  · obtain ⟨e, n, ne, nf, d⟩ := I.pin p hp
    have nch : p.1 ∉ ch := fun z => (hch p.1 z).2.2.2 p hp rfl
    exact ⟨keep p.1 p.2 ne nf nch e n, free p.1 p.2 nch e n, ne, nf, d⟩
/-- .. where the frame's own object is kept too -/
theorem Inv.un {t' : Nat} (I : Inv X pins σ H s) (u : Un X.fs [] H H' s.heap h') (hok : HOk X.prog X.w H' h') : Inv X pins σ H' { s with heap := h', toks := t' } := by
  obtain ⟨m, ⟨o, es, ep, ho, r⟩, _⟩ := id I.loc
  obtain ⟨sl, hL⟩ := u.any ho I.free (by simp)
  exact I.step (g' := s.gens) (d' := s.drawn) (ch := []) (fun _ z => nomatch z) (fun b o _ hb _ e n => u.keep b o e n hb (by simp)) (fun b o _ hb _ e n => u.slot b o e n hb (by simp)) (fun b o _ e n => u.free b o e n (by simp)) (fun b o _ e => u.there b o e (by simp)) u.tups u.frzs u.tbls (fun m' hm => by
    obtain ⟨o', es', ep', ho', r'⟩ := hm
    rw [ho] at ho'; cases ho'
    exact ⟨_, es', ep', hL, r'⟩) hok I.bare
/-- behind a call (or a comprehension's block): the slots of this frame may have changed too, the records at ch may have turned -/
theorem Inv.call {g' : Array GenState} {t' : Nat} {d' : Drawn} {ch : List Addr} (I : Inv X pins σ H s) (u : Un (frs X.stack) ch H H' s.heap h') (hok : HOk X.prog X.w H' h') (hg : AllBare g')
    (hch : ∀ b ∈ ch, (b ∈ X.ex ∨ X.s₀.heap.objs.size ≤ b) ∧ b ≠ X.env.locals ∧ (∀ x c, X.env.cells.lookup x = some c → c ≠ b) ∧ ∀ p ∈ X.pn ++ pins, p.1 ≠ b) :
    Inv X pins σ H' { s with heap := h', gens := g', drawn := d', toks := t' } := by
  obtain ⟨m, ⟨o, es, ep, ho, r⟩, _⟩ := id I.loc
  obtain ⟨sl, hL⟩ := u.any ho I.free fun z => (hch _ z).2.1 rfl
  exact I.step (ch := ch) hch (fun b o hL hb hc e n => u.keep b o e n (fun z => (List.mem_cons.mp (I.stkSub b z)).elim hL hb) hc) (fun b o _ _ hc e n => u.any e n hc) (fun b o hc e n => u.free b o e n hc) (fun b o hc e => u.there b o e hc) u.tups u.frzs u.tbls (fun m' hm => by
    obtain ⟨o', es', ep', ho', r'⟩ := hm
    rw [ho] at ho'; cases ho'
    exact ⟨_, es', ep', hL, r'⟩) hok hg
/-- an untracked record of ours (an iterator) has turned -/
theorem Inv.turned {t' : Nat} {it : Addr} (I : Inv X pins σ H s) (k : ∀ b o, b ≠ it → s.heap.get? b = some o → h'.get? b = some o) (hn : H it = none) (hL : it ≠ X.env.locals)
    (h1 : it ∈ X.ex ∨ X.s₀.heap.objs.size ≤ it) (h2 : ∀ x c, X.env.cells.lookup x = some c → c ≠ it) (h3 : ∀ p ∈ X.pn ++ pins, p.1 ≠ it) : Inv X pins σ H { s with heap := h', toks := t' } := by
  have nit : ∀ b u, H b = some u → b ≠ it := fun b u e z => by rw [z, hn] at e; cases e
  refine I.step (g' := s.gens) (d' := s.drawn) (ch := [it]) (fun b hb => ?_) (fun b o _ _ hc e _ => k b o (fun z => hc (by simp [z])) e) (fun b o _ _ hc e _ => ⟨o.slots, k b o (fun z => hc (by simp [z])) e⟩) (fun _ _ _ _ n => n)
    (fun b o hc e => ⟨o, k b o (fun z => hc (by simp [z])) e⟩) (fun _ _ e => e) (fun _ _ _ e => e) (fun b ps e => ⟨#[], by rw [e]; simp⟩) (fun m hm => ?_) (fun b u e => ?_) I.bare
  · have e : b = it := by simpa using hb
    subst e
    exact ⟨h1, hL, h2, h3⟩
  · obtain ⟨o, es, ep, ho, r⟩ := hm
    exact ⟨o, es, ep, k _ o (Ne.symm hL) ho, r⟩
  · refine (I.hok b u e).stay (fun c v hc q => k c v ?_ q) (fun _ q => q) fun _ _ q => q
    rcases hc with z | z
    · rw [z]; exact nit b u e
    · exact nit c _ z
theorem Inv.tok (I : Inv X pins σ H s) (t : Nat) : Inv X pins σ H { s with toks := t } := I.un (h' := s.heap) (t' := t) Un.refl I.hok
/-- all objects kept -/
theorem Inv.kept {t' : Nat} (I : Inv X pins σ H s) (k : ∀ b u, s.heap.get? b = some u → h'.get? b = some u) : Inv X pins σ H { s with heap := h', toks := t' } := I.un (Un.kept k) (I.hok.kept k)
/-- a new object laid and tracked -/
theorem Inv.laid {a : Addr} {o : HO} {t' : Nat} (I : Inv X pins σ H s) (k : ∀ b u, s.heap.get? b = some u → h'.get? b = some u) (hp : s.heap.objs.size ≤ a) (new : ObjOk X.prog X.w (upd H a o) h' a o) :
    Inv X pins σ (upd H a o) { s with heap := h', toks := t' } := I.un (Un.laid k hp (I.hok.fresh hp)) (I.hok.laid k hp new)
/-- an object written -/
theorem Inv.write {x e : Addr} {o : HO} {t' : Nat} (I : Inv X pins σ H s) (mu : Mut (H x)) (he : e = x ∨ H e = some (.own x)) (k : ∀ b u, b ≠ e → s.heap.get? b = some u → h'.get? b = some u) (heo : ∃ u, h'.get? e = some u)
    (new : ObjOk X.prog X.w (upd H x o) h' x o) : Inv X pins σ (upd H x o) { s with heap := h', toks := t' } := I.un (Un.write mu he k heo) (I.hok.write mu he k heo new)
theorem Inv.pins_of {pins' : List (Addr × Obj)} (I : Inv X pins σ H s) (h : ∀ p ∈ pins', s.heap.get? p.1 = some p.2 ∧ H p.1 = none ∧ p.1 ≠ X.env.locals ∧ p.1 ∉ X.fs ∧ ∀ v, p.2.data ≠ .cell v) : Inv X pins' σ H s :=
  ⟨I.ok, I.os, I.bare, I.base, I.loc, I.cell, I.free, I.freeC, fun p hp => (List.mem_append.mp hp).elim (fun z => I.pin p (List.mem_append_left _ z)) (h p), I.hok, I.len⟩

theorem nodup_ix {N : List Str} (hN : N.Nodup) {i j : Nat} {x : Str} (a : N[i]? = some x) (b : N[j]? = some x) : i = j := by
  obtain ⟨h1, e1⟩ := List.getElem?_eq_some_iff.mp a
  obtain ⟨h2, e2⟩ := List.getElem?_eq_some_iff.mp b
  exact (List.getElem_inj hN).mp (e1.trans e2.symm)

/-- a name is stored; what changed -/
theorem store_ok2 {M : Model} {A : Around} {E : Value → Shared → Prop} {i : Nat} {x : Str} {v : V} {u : Value} {Q : Unit → Shared → Prop} (I : Inv X pins σ H s) (hN : X.N.Nodup) (hi : X.N[i]? = some x) (hx : Loc X.env.scope x) (r : RelV v u)
    (h : ∀ s', Inv X pins (σ.set i (some v)) H s' → (∃ a, Heap.SameBut a s.heap s'.heap ∧ (a = X.env.locals ∨ X.env.cells.lookup x = some a)) → Q () s') (hf : X.fn x = true ∨ X.env.scope.names.lookup x = some .local := by first | exact .inl rfl | exact .inr rfl | assumption) : wpAny M A (storeName X.env x u) Q E s := by
  obtain ⟨m, hn, hl⟩ := id I.loc
  have hcls : (X.env.scope.kind == .class || (X.env.scope.kind == .module && X.env.locals != X.env.globals)) = false := by rw [I.ok.kind]; rfl
  have hiσ : i < σ.length := by rw [I.len]; exact (List.getElem?_eq_some_iff.mp hi).1
  have cne := I.cne
  have tracked : ∀ {a : Addr} {h' : Heap}, (∃ o, s.heap.get? a = some o ∧ H a = none) → Heap.SameBut a s.heap h' → HOk X.prog X.w H h' := fun {a h'} ha hs b ob e => by
    obtain ⟨_, _, hfree⟩ := ha
    refine (I.hok b ob e).stay (fun c w' hc q => (hs.2 c ?_).trans q) (fun _ q => q) fun _ _ q => q
    rintro rfl
    rcases hc with rfl | hc
    · rw [hfree] at e; cases e
    · rw [hfree] at hc; cases hc
  rcases hx with hk | hk
  · refine wpAny_storeName_local hk hn (fun h' hn' hs => ?_) hcls
    obtain ⟨oL, _, _, hoL, _⟩ := id hn
    refine h _ ⟨I.ok, I.os, I.bare, ⟨fun b o e n hb hx => ?_, fun b o e n hb hx => ?_, I.base.free, fun b o e hx => ?_, I.base.tups, I.base.frzs, I.base.tbls⟩, ⟨_, hn', fun j y v' e1 e2 e3 => ?_⟩, fun y c e => ?_, I.free, I.freeC, fun p hp => ?_, tracked ⟨oL, hoL, I.free⟩ hs, by simpa using I.len⟩ ⟨_, hs, .inl rfl⟩
    · exact (hs.2 b (Nat.ne_of_lt (Nat.lt_of_lt_of_le (Heap.lt_size e) I.ok.above))).trans (I.base.keep b o e n hb hx)
    · obtain ⟨sl, e1⟩ := I.base.slot b o e n hb hx
      exact ⟨sl, (hs.2 b (Nat.ne_of_lt (Nat.lt_of_lt_of_le (Heap.lt_size e) I.ok.above))).trans e1⟩
    · obtain ⟨o', e1⟩ := I.base.there b o e hx
      exact ⟨o', (hs.2 b (Nat.ne_of_lt (Nat.lt_of_lt_of_le (Heap.lt_size e) I.ok.above))).trans e1⟩
    · by_cases hj : j = i
      · subst hj
        rw [hi] at e1; cases e1
        rw [List.getElem?_set_self hiσ] at e2
        cases e2
        exact ⟨u, r, .inl ⟨hk, by simp⟩⟩
      · rw [List.getElem?_set_ne (Ne.symm hj)] at e2
        obtain ⟨u', r', q⟩ := hl j y v' e1 e2 e3
        refine ⟨u', r', ?_⟩
        rcases q with ⟨k, e⟩ | ⟨k, c, e, z⟩
        · refine .inl ⟨k, ?_⟩
          have : y ≠ x := fun e => hj (nodup_ix hN e1 (e ▸ hi))
          simp [this, e]
        · exact .inr ⟨k, c, e, z.sameBut hs (cne y c e)⟩
    · obtain ⟨w', z⟩ := I.cell y c e
      exact ⟨w', z.sameBut hs (cne y c e)⟩
    · obtain ⟨e, n, ne, nf, d⟩ := I.pin p hp
      exact ⟨(hs.2 p.1 ne).trans e, n, ne, nf, d⟩
  · have hfn : X.fn x = true := by
      rcases hf with z | z
      · exact z
      · rw [z] at hk; cases hk
    obtain ⟨c, hc⟩ := I.ok.has x (.inl hk)
    obtain ⟨w', z⟩ := I.cell x c hc
    refine wpAny_storeName_cell I.ok.kind hk hc z (fun h' hc' hs => ?_)
    obtain ⟨oc, hoc, hocd⟩ := id z
    refine h { s with heap := h' } ⟨I.ok, I.os, I.bare, ⟨fun b o e n hb hx => ?_, fun b o e n hb hx => ?_, I.base.free, fun b o e hx => ?_, I.base.tups, I.base.frzs, I.base.tbls⟩, ⟨m, hn.sameBut hs (Ne.symm (cne x c hc)), fun j y v' e1 e2 e3 => ?_⟩, fun y c' e => ?_, I.free, I.freeC, fun p hp => ?_, tracked ⟨oc, hoc, I.freeC x c hc⟩ hs, by simpa using I.len⟩ ⟨c, hs, .inr hc⟩
    · exact (hs.2 b (Nat.ne_of_lt (Nat.lt_of_lt_of_le (Heap.lt_size e) (I.ok.cab x c hfn hc)))).trans (I.base.keep b o e n hb hx)
    · obtain ⟨sl, e1⟩ := I.base.slot b o e n hb hx
      exact ⟨sl, (hs.2 b (Nat.ne_of_lt (Nat.lt_of_lt_of_le (Heap.lt_size e) (I.ok.cab x c hfn hc)))).trans e1⟩
    · obtain ⟨o', e1⟩ := I.base.there b o e hx
      exact ⟨o', (hs.2 b (Nat.ne_of_lt (Nat.lt_of_lt_of_le (Heap.lt_size e) (I.ok.cab x c hfn hc)))).trans e1⟩
    · by_cases hj : j = i
      · subst hj
        rw [hi] at e1; cases e1
        rw [List.getElem?_set_self hiσ] at e2
        cases e2
        exact ⟨u, r, .inr ⟨.inl hk, c, hc, hc'⟩⟩
      · rw [List.getElem?_set_ne (Ne.symm hj)] at e2
        obtain ⟨u', r', q⟩ := hl j y v' e1 e2 e3
        refine ⟨u', r', ?_⟩
        rcases q with q | ⟨k, c', e, z'⟩
        · exact .inl q
        · refine .inr ⟨k, c', e, z'.sameBut hs ?_⟩
          rintro rfl
          exact hj (nodup_ix hN e1 (I.ok.inj _ _ _ e hc ▸ hi))
    · by_cases hcc : c' = c
      · subst hcc; exact ⟨_, hc'⟩
      · obtain ⟨w2, z2⟩ := I.cell y c' e
        exact ⟨w2, z2.sameBut hs hcc⟩
    · obtain ⟨e, n, ne, nf, d⟩ := I.pin p hp
      refine ⟨(hs.2 p.1 ?_).trans e, n, ne, nf, d⟩
      intro q
      rw [q, hoc] at e
      have q' : oc = p.2 := Option.some.inj e
      exact d w' (by rw [← q']; exact hocd)
theorem store_ok {M : Model} {A : Around} {E : Value → Shared → Prop} {i : Nat} {x : Str} {v : V} {u : Value} {Q : Unit → Shared → Prop} (I : Inv X pins σ H s) (hN : X.N.Nodup) (hi : X.N[i]? = some x) (hx : Loc X.env.scope x) (r : RelV v u)
    (h : ∀ s', Inv X pins (σ.set i (some v)) H s' → Q () s') (hf : X.fn x = true ∨ X.env.scope.names.lookup x = some .local := by first | exact .inl rfl | exact .inr rfl | assumption) : wpAny M A (storeName X.env x u) Q E s :=
  store_ok2 I hN hi hx r (fun s' I' _ => h s' I') hf
/-- behind a call or a block, the state as it is -/
theorem Inv.call' {s' : Shared} {ch : List Addr} (I : Inv X pins σ H s) (ho : s'.os = s.os) (u : Un (frs X.stack) ch H H' s.heap s'.heap) (hok : HOk X.prog X.w H' s'.heap) (hg : AllBare s'.gens)
    (hch : ∀ b ∈ ch, (b ∈ X.ex ∨ X.s₀.heap.objs.size ≤ b) ∧ b ≠ X.env.locals ∧ (∀ x c, X.env.cells.lookup x = some c → c ≠ b) ∧ ∀ p ∈ X.pn ++ pins, p.1 ≠ b) : Inv X pins σ H' s' := by
  obtain ⟨h', g', d', t', o'⟩ := s'
  have e : o' = s.os := ho
  subst e
  exact I.call (g' := g') (t' := t') (d' := d') u hok hg hch
end

/-! ### the judgements -/
/-- an exception: its class, its own dict's address (where it has one), the abstract heap behind it -/
abbrev XK := Value → Option Addr → Hp → Prop
abbrev St := List (Option V)
abbrev VK := V → Hp → Prop
/-- an expression's reading; a test's; an argument list's -/
abbrev TE := St → Hp → VK → Prop
abbrev TT := St → Hp → (Bool → Hp → Prop) → Prop
abbrev TA := St → Hp → (List V → Hp → Prop) → Prop
/-- what is wanted behind a statement -/
structure Ends where
  nx : St → Hp → Prop
  rt : VK
  bk : St → Hp → Prop := fun _ _ => False
  ct : St → Hp → Prop := fun _ _ => False
abbrev TS := Ends → St → Hp → Prop

def EP (X : Cx) (pins : List (Addr × Obj)) (σ : St) (Q : VK) (u : Value) (s' : Shared) : Prop := ∃ v H', Inv X pins σ H' s' ∧ RelV v u ∧ Q v H'
def TP (X : Cx) (pins : List (Addr × Obj)) (σ : St) (Q : Bool → Hp → Prop) (b : Bool) (s' : Shared) : Prop := ∃ H', Inv X pins σ H' s' ∧ Q b H'
def AP (X : Cx) (pins : List (Addr × Obj)) (σ : St) (Q : List V → Hp → Prop) (us : List Value) (s' : Shared) : Prop := ∃ vs H', Inv X pins σ H' s' ∧ Vals vs us ∧ Q vs H'
def SP (X : Cx) (pins : List (Addr × Obj)) (D : Ends) (f : Flow) (s' : Shared) : Prop :=
  match f with
  | .next => ∃ σ' H', Inv X pins σ' H' s' ∧ D.nx σ' H'
  | .brk => ∃ σ' H', Inv X pins σ' H' s' ∧ D.bk σ' H'
  | .cont => ∃ σ' H', Inv X pins σ' H' s' ∧ D.ct σ' H'
  | .ret u => ∃ v σ' H', Inv X pins σ' H' s' ∧ RelV v u ∧ D.rt v H'

def PE (X : Cx) (e : Expr) (t : TE) : Prop :=
  ∀ (pins : List (Addr × Obj)) (s : Shared) (σ : St) (H : Hp) (Q : VK), Inv X pins σ H s → t σ H Q → wpAny (model X.prog X.w) X.A (eval e X.env) (EP X pins σ Q) X.xe s
def PT (X : Cx) (e : Expr) (t : TT) : Prop :=
  ∀ (pins : List (Addr × Obj)) (s : Shared) (σ : St) (H : Hp) (Q : Bool → Hp → Prop), Inv X pins σ H s → t σ H Q → wpAny (model X.prog X.w) X.A (isTrue e X.env (eval e X.env)) (TP X pins σ Q) X.xe s
/-- a test whatever its 'whole' is (and, or) -/
def PW (X : Cx) (e : Expr) (t : TT) : Prop :=
  ∀ (whole : Sem Value) (pins : List (Addr × Obj)) (s : Shared) (σ : St) (H : Hp) (Q : Bool → Hp → Prop), Inv X pins σ H s → t σ H Q → wpAny (model X.prog X.w) X.A (isTrue e X.env whole) (TP X pins σ Q) X.xe s
theorem PW.pt {X : Cx} {e : Expr} {t : TT} (h : PW X e t) : PT X e t := h _
/-- an argument list (no star), from the left -/
def PA (X : Cx) (es : List Expr) (t : TA) : Prop :=
  ∀ (pos : Pos) (pins : List (Addr × Obj)) (s : Shared) (σ : St) (H : Hp) (Q : List V → Hp → Prop), Inv X pins σ H s → t σ H Q → wpAny (model X.prog X.w) X.A (spliced (backTo pos (starEach es X.env))) (AP X pins σ Q) X.xe s
def PS (X : Cx) (st : Stmt) (t : TS) : Prop :=
  ∀ (pins : List (Addr × Obj)) (s : Shared) (σ : St) (H : Hp) (D : Ends), Inv X pins σ H s → t D σ H → wpAny (model X.prog X.w) X.A (exec st X.env) (SP X pins D) X.xe s
def PSs (X : Cx) (st : List Stmt) (t : TS) : Prop :=
  ∀ (pins : List (Addr × Obj)) (s : Shared) (σ : St) (H : Hp) (D : Ends), Inv X pins σ H s → t D σ H → wpAny (model X.prog X.w) X.A (execs st X.env) (SP X pins D) X.xe s
/-- weaken the end -/
theorem thn {α : Type} {t : Sem α} {Q Q' : α → Shared → Prop} {M : Model} {A : Around} {E : Value → Shared → Prop} {s : Shared} (h : wpAny M A t Q E s) (hQ : ∀ a s, Q a s → Q' a s) : wpAny M A t Q' E s := wpAny_mono h hQ fun _ _ x => x
end L2

namespace L2
open PySem PySem.Spec PyProof.Rows
section
variable {X : Cx}

/-! ### names and constants -/
def tVar (i : Nat) : TE := fun σ H Q => ∃ v, σ[i]? = some (some v) ∧ Q v H
def tC (v : V) : TE := fun _ H Q => Q v H
theorem pe_var {i : Nat} {x : Str} {pos : Pos} (hN : X.N[i]? = some x) (hv : Vis X.env.scope x) (hd : (x == ("__debug__" : Str)) = false := by decide) (hcd : (x == ("__classdict__" : Str)) = false := by decide) : PE X (.Name x pos) (tVar i) := by
  intro pins s σ H Q I h
  obtain ⟨v, e, h⟩ := h
  obtain ⟨m, hn, hl⟩ := I.loc
  obtain ⟨u, r, l⟩ := hl i x v hN e hv
  have fin : EP X pins σ Q u s := ⟨v, H, I, r, h⟩
  rcases l with ⟨hk, hm⟩ | ⟨hk, c, hc, hcell⟩
  · exact wpAny_Name (wpAny_loadName_local I.ok.kind hk hn hm fin) hd
  · rcases hk with hk | hk
    · exact wpAny_Name (wpAny_loadName_cell I.ok.kind hk hc hcell fin) hd
    · exact wpAny_Name (wpAny_loadName_free I.ok.kind hk hc hcell fin hcd) hd
theorem pe_int {i j pos} : PE X (.Constant (.int i) j pos) (tC (.int i)) := fun _ _ _ H _ I h => wpAny_Constant_int ⟨.int i, H, I.tok _, ⟨_, rfl⟩, h⟩
theorem pe_bl {b j pos} : PE X (.Constant (.bool b) j pos) (tC (.bl b)) := fun _ _ _ H _ I h => Constant_bool ⟨.bl b, H, I, rfl, h⟩
theorem pe_non {j pos} : PE X (.Constant .none j pos) (tC .non) := fun _ _ _ H _ I h => Constant_none ⟨.non, H, I, rfl, h⟩
theorem pe_str {x j pos} : PE X (.Constant (.str x) j pos) (tC (.str x)) := fun _ _ _ H _ I h => Calls.Constant_str ⟨.str x, H, I.tok _, ⟨_, rfl⟩, h⟩

/-- a global name of the def -/
def Gl (X : Cx) (x : Str) : Prop := X.env.kindOf x = some .globalImplicit
theorem ld_glob {E : Value → Shared → Prop} {pins : List (Addr × Obj)} {s : Shared} {σ : St} {H : Hp} {x : Str} {u : Value} {pos : Pos} {Q : Value → Shared → Prop} (I : Inv X pins σ H s) (hg : Gl X x) (hm : X.mg x = some u) (h : Q u s)
    (hd : (x == ("__debug__" : Str)) = false := by decide) : wpAny (model X.prog X.w) X.A (eval (.Name x pos) X.env) Q E s :=
  Calls.Name_function_global I.ok.kind hg (Calls.loadGlobal_global (by rw [I.ok.glob]; exact I.mod.glob.keeps I.bk) hm h) hd
theorem ld_blt {E : Value → Shared → Prop} {pins : List (Addr × Obj)} {s : Shared} {σ : St} {H : Hp} {x : Str} {u : Value} {pos : Pos} {Q : Value → Shared → Prop} (I : Inv X pins σ H s) (hg : Gl X x) (hm : X.mg x = none) (hv : bootBuiltins x = some u) (h : Q u s)
    (hn : x ≠ "__name__" := by decide) (hd : (x == ("__debug__" : Str)) = false := by decide) : wpAny (model X.prog X.w) X.A (eval (.Name x pos) X.env) Q E s := by
  obtain ⟨mb, h1, h2⟩ := I.mod.blt
  exact Calls.Name_function_global I.ok.kind hg (Calls.loadGlobal_builtin (by rw [I.ok.glob]; exact I.mod.glob.keeps I.bk) hm (by rw [I.ok.blt]; exact h1.keeps I.bk) ((h2 x hn).trans hv) h) hd
/-- a module's constant, a class, a function, as a value -/
theorem pe_glob {x : Str} {v : V} {u : Value} {pos : Pos} (hg : Gl X x) (hm : X.mg x = some u) (r : RelV v u) (hd : (x == ("__debug__" : Str)) = false := by decide) : PE X (.Name x pos) (tC v) :=
  fun _ _ _ H _ I h => ld_glob I hg hm ⟨v, H, I, r, h⟩ hd
theorem pe_bltn {x : Str} {v : V} {u : Value} {pos : Pos} (hg : Gl X x) (hm : X.mg x = none) (hv : bootBuiltins x = some u) (r : RelV v u) (hn : x ≠ "__name__" := by decide) (hd : (x == ("__debug__" : Str)) = false := by decide) : PE X (.Name x pos) (tC v) :=
  fun _ _ _ H _ I h => ld_blt I hg hm hv ⟨v, H, I, r, h⟩ hn hd

/-! ### arithmetic -/
variable {a b : Expr} {ta tb : TE} {pos : Pos}
/-! ### comparisons -/
def PC (X : Cx) (op : CmpOp) (a b : Expr) (t : TE) : Prop :=
  ∀ (pins : List (Addr × Obj)) (s : Shared) (σ : St) (H : Hp) (Q : VK), Inv X pins σ H s → t σ H Q →
    wpAny (model X.prog X.w) X.A (eval a X.env) (fun v s₁ => wpAny (model X.prog X.w) X.A (eval b X.env) (fun u s₂ => wpAny (model X.prog X.w) X.A (compareOp op v u) (EP X pins σ Q) X.xe s₂) X.xe s₁) X.xe s
/-! ### and, or, not -/
variable {tA tB' : TT} {rest : List Expr}
def tOr (t u : TT) : TT := fun σ H Q => t σ H fun c H1 => if c = true then Q true H1 else u σ H1 Q
def tNot (t : TT) : TT := fun σ H Q => t σ H fun c H1 => Q (!c) H1
theorem pw_or1 (ha : PT X a tA) : PW X (.BoolOp .Or [a] pos) tA := by
  intro wh pins s σ H Q I h
  refine isTrue_or (thn (ha pins s σ H Q I h) fun c s1 e => ?_)
  cases c with
  | false => exact isTrue_or_nil e
  | true => exact e
theorem pw_or (ha : PT X a tA) (hb : PW X (.BoolOp .Or (b :: rest) pos) tB') : PW X (.BoolOp .Or (a :: b :: rest) pos) (tOr tA tB') := by
  intro wh pins s σ H Q I h
  refine isTrue_or (thn (ha pins s σ H _ I h) fun c s1 ⟨H1, I1, q1⟩ => ?_)
  cases c with
  | true => exact ⟨H1, I1, q1⟩
  | false => exact hb wh pins s1 σ H1 Q I1 q1
theorem pt_not (ha : PT X a tA) : PT X (.UnaryOp .Not a pos) (tNot tA) := by
  intro pins s σ H Q I h
  exact isTrue_not (ha pins s σ H (fun c H1 => Q (!c) H1) I h)
/-- .. as values (bools) -/
def tAndV (ta tb : TE) : TE := fun σ H Q => ta σ H fun x H1 => ∃ c, x = .bl c ∧ if c = true then tb σ H1 Q else Q (.bl false) H1
theorem pe_one {op} {t : TE} (h : PE X a t) : PE X (.BoolOp op [a] pos) t := fun pins s σ H Q I hw => BoolOp_one (h pins s σ H Q I hw)
theorem pe_and (ha : PE X a ta) (hb : PE X (.BoolOp .And (b :: rest) pos) tb) : PE X (.BoolOp .And (a :: b :: rest) pos) (tAndV ta tb) := by
  intro pins s σ H Q I h
  refine BoolOp_and (thn (ha pins s σ H _ I h) fun v s1 ⟨x, H1, I1, r1, q1⟩ => ?_)
  obtain ⟨c, rfl, q1⟩ := q1
  cases r1
  refine wpAny_truthy_bool ?_
  cases c with
  | true => exact hb pins s1 σ H1 Q I1 q1
  | false => exact ⟨.bl false, H1, I1, rfl, q1⟩
/-- a if t else b -/
def tIf (t : TT) (ta tb : TE) : TE := fun σ H Q => t σ H fun c H1 => if c = true then ta σ H1 Q else tb σ H1 Q
theorem pe_ifExp {c : Expr} (hc : PT X c tA) (ha : PE X a ta) (hb : PE X b tb) : PE X (.IfExp c a b pos) (tIf tA ta tb) := by
  intro pins s σ H Q I h
  refine wpAny_IfExp (thn (hc pins s σ H _ I h) fun d s1 ⟨H1, I1, q1⟩ => ?_)
  cases d with
  | true => exact ha pins s1 σ H1 Q I1 q1
  | false => exact hb pins s1 σ H1 Q I1 q1
end
end L2

namespace L2
open PySem PySem.Spec PyProof.Rows

/-! ### a list, a tuple that is read: tracked, frozen, or an object of the module -/
def SqL (K : PySem.W.Frag) (H : Hp) (a : Addr) (xs : List V) : Prop :=
  Rd H a (.lst xs) ∨
    ∃ (o : Obj) (its : Array Value) (n : Nat), K.lookup a = some o ∧ o.cls = .type "list" ∧ o.dict = none ∧ o.data = .seq its n ∧ its.size ≤ sizeLine ∧ Vals xs its.toList
def SqT (K : PySem.W.Frag) (H : Hp) (a : Addr) (xs : List V) : Prop :=
  Rd H a (.tup xs) ∨
    ∃ (o : Obj) (its : Array Value) (n : Nat), K.lookup a = some o ∧ o.cls = .type "tuple" ∧ o.data = .seq its n ∧ its.size ≤ sizeLine ∧ Vals xs its.toList
def absV : Value → Option V
  | .none => some .non
  | .bool b => some (.bl b)
  | .int i _ => some (.int i)
  | .str x _ => some (.str x)
  | .bytes b _ => some (.byt b)
  | .float b _ => some (.flt b)
  | .ref a => some (.ref a)
  | .type n => some (.ty n)
  | _ => none
theorem RelV.abs {x : V} {u : Value} (r : RelV x u) : absV u = some x := by
  cases x with
  | non => cases r; rfl
  | bl _ => cases r; rfl
  | int _ => obtain ⟨t, rfl⟩ := r; rfl
  | str _ => obtain ⟨t, rfl⟩ := r; rfl
  | byt _ => obtain ⟨t, rfl⟩ := r; rfl
  | flt _ => obtain ⟨t, rfl⟩ := r; rfl
  | ref _ => cases r; rfl
  | ty _ => cases r; rfl
theorem RelV.inj {x y : V} {u : Value} (r : RelV x u) (q : RelV y u) : x = y := Option.some.inj (r.abs.symm.trans q.abs)
theorem Vals.inj : ∀ {xs ys : List V} {us : List Value}, Vals xs us → Vals ys us → xs = ys
  | _, _, _, .nil, .nil => rfl
  | _, _, _, .cons r t, .cons r' t' => by rw [r.inj r', Vals.inj t t']
section
variable {X : Cx} {pins : List (Addr × Obj)} {σ : St} {H : Hp} {s : Shared} {a : Addr} {xs ys : List V}
theorem SqL.of {K : PySem.W.Frag} (h : H a = some (.lst xs)) : SqL K H a xs := .inl (.inl h)
theorem SqT.of {K : PySem.W.Frag} (h : H a = some (.tup xs)) : SqT K H a xs := .inl (.inl h)
theorem Inv.list (I : Inv X pins σ H s) (h : SqL X.K H a xs) : ∃ its : List Value, Vals xs its ∧ PlainL s.heap a its.toArray ∧ xs.length ≤ sizeLine := by
  rcases h with h | ⟨o, its, n, hk, hc, hd, hs, hz, r⟩
  · obtain ⟨z, its, n, r, e⟩ := h.ok I.hok
    exact ⟨its, r, ⟨_, n, e, rfl, rfl, rfl⟩, z⟩
  · refine ⟨its.toList, r, ⟨o, n, I.kIn a o hk, hc, hd, by simpa using hs⟩, ?_⟩
    have e := r.length
    simp only [Array.length_toList] at e
    omega
theorem Inv.tuple (I : Inv X pins σ H s) (h : SqT X.K H a xs) : ∃ its : List Value, Vals xs its ∧ IsTup s.heap a its.toArray ∧ xs.length ≤ sizeLine := by
  rcases h with h | ⟨o, its, n, hk, hc, hs, hz, r⟩
  · obtain ⟨z, its, r, p⟩ := h.ok I.hok
    exact ⟨its, r, p, z⟩
  · refine ⟨its.toList, r, ⟨o, I.kIn a o hk, hc, n, by simpa using hs⟩, ?_⟩
    have e := r.length
    simp only [Array.length_toList] at e
    omega
theorem Inv.list_inj (I : Inv X pins σ H s) (h : SqL X.K H a xs) (h' : SqL X.K H a ys) : xs = ys := by
  obtain ⟨its, r, ⟨o, n, e, _, _, d⟩, _⟩ := I.list h
  obtain ⟨its', r', ⟨o', n', e', _, _, d'⟩, _⟩ := I.list h'
  rw [e] at e'; cases e'
  rw [d] at d'
  injection d' with d1 _
  have : its = its' := by simpa using congrArg Array.toList d1
  subst this
  exact r.inj r'
end

/-! ### another wish about exceptions -/
abbrev Cx.wish (X : Cx) (E : Value → Shared → Prop) : Cx := { X with xe := E }
/-- no exception leaves -/
abbrev Cx.nox (X : Cx) : Cx := X.wish fun _ _ => False
theorem Cx.Ok.wish {X : Cx} (ok : X.Ok) (E : Value → Shared → Prop) : (X.wish E).Ok :=
  ⟨ok.mod, ok.kind, ok.glob, ok.blt, ok.above, ok.inj, ok.has, ok.cab, ok.hd, ok.frames, ok.stk, ok.exf, ok.bs, ok.bsz, ok.noex, ok.exfs, ok.funs, ok.frf⟩
theorem Cx.Ok.unwish {X : Cx} {E : Value → Shared → Prop} (ok : (X.wish E).Ok) : X.Ok :=
  ⟨ok.mod, ok.kind, ok.glob, ok.blt, ok.above, ok.inj, ok.has, ok.cab, ok.hd, ok.frames, ok.stk, ok.exf, ok.bs, ok.bsz, ok.noex, ok.exfs, ok.funs, ok.frf⟩
section
variable {X : Cx} {pins : List (Addr × Obj)} {σ : St} {H : Hp} {s : Shared} {E : Value → Shared → Prop}
theorem Inv.wish (I : Inv X pins σ H s) (E : Value → Shared → Prop) : Inv (X.wish E) pins σ H s := ⟨I.ok.wish E, I.os, I.bare, I.base, I.loc, I.cell, I.free, I.freeC, I.pin, I.hok, I.len⟩
theorem Inv.unwish (I : Inv (X.wish E) pins σ H s) : Inv X pins σ H s := ⟨I.ok.unwish, I.os, I.bare, I.base, I.loc, I.cell, I.free, I.freeC, I.pin, I.hok, I.len⟩
theorem SP.unwish {D : Ends} {f : Flow} {s' : Shared} (h : SP (X.wish E) pins D f s') : SP X pins D f s' := by
  cases f with
  | next => obtain ⟨σ', H', I, q⟩ := h; exact ⟨σ', H', I.unwish, q⟩
  | brk => obtain ⟨σ', H', I, q⟩ := h; exact ⟨σ', H', I.unwish, q⟩
  | cont => obtain ⟨σ', H', I, q⟩ := h; exact ⟨σ', H', I.unwish, q⟩
  | ret u => obtain ⟨v, σ', H', I, r, q⟩ := h; exact ⟨v, σ', H', I.unwish, r, q⟩
theorem PE.nox {e : Expr} {t : TE} (h : PE X.nox e t) : PE X e t := fun pins s σ H Q I hw =>
  wpAny_mono (h pins s σ H Q (I.wish _) hw) (fun _ _ ⟨v, H', I', r, q⟩ => ⟨v, H', I'.unwish, r, q⟩) fun _ _ z => False.elim z
theorem PT.nox {e : Expr} {t : TT} (h : PT X.nox e t) : PT X e t := fun pins s σ H Q I hw =>
  wpAny_mono (h pins s σ H Q (I.wish _) hw) (fun _ _ ⟨H', I', q⟩ => ⟨H', I'.unwish, q⟩) fun _ _ z => False.elim z
theorem PSs.nox {st : List Stmt} {t : TS} (h : PSs X.nox st t) : PSs X st t := fun pins s σ H D I hw =>
  wpAny_mono (h pins s σ H D (I.wish _) hw) (fun _ _ q => q.unwish) fun _ _ z => False.elim z
end

/-! ### blocks and small statements -/
section
variable {X : Cx} {st : Stmt} {rest : List Stmt} {t u : TS} {e : Expr} {te : TE} {pos : Pos}
def tNext : TS := fun D σ H => D.nx σ H
def tSeq (t u : TS) : TS := fun D σ H => t { D with nx := u D } σ H
theorem pss_nil : PSs X [] tNext := fun _ _ σ H _ I h => wpAny_execs_nil ⟨σ, H, I, h⟩
theorem pss_cons (h1 : PS X st t) (h2 : PSs X rest u) : PSs X (st :: rest) (tSeq t u) := by
  intro pins s σ H D I h
  refine wpAny_execs_cons (thn (h1 pins s σ H { D with nx := u D } I h) fun f s1 q => ?_)
  cases f with
  | next =>
    obtain ⟨σ', H', I', q⟩ := q
    exact h2 pins s1 σ' H' D I' q
  | ret v => exact q
  | brk => exact q
  | cont => exact q
theorem pss_one (h1 : PS X st t) : PSs X [st] t := by
  intro pins s σ H D I h
  refine wpAny_execs_cons (thn (h1 pins s σ H D I h) fun f s1 q => ?_)
  cases f with
  | next => exact wpAny_execs_nil q
  | ret v => exact q
  | brk => exact q
  | cont => exact q
/-- in a def's body nothing is shown -/
theorem Inv.quiet {pins : List (Addr × Obj)} {σ : St} {H : Hp} {s : Shared} (I : Inv X pins σ H s) : interactive X.env = false := by simp [interactive, I.ok.kind]
/-- an expression whose value is dropped -/
def tDrop (te : TE) : TS := fun D σ H => te σ H fun _ H1 => D.nx σ H1
theorem ps_expr (he : PE X e te) (hs : swapsWith e none pos.line X.env = pure false := by rfl) : PS X (.Expr e pos) (tDrop te) := by
  intro pins s σ H D I h
  exact wpAny_Expr_any (thn (he pins s σ H _ I h) fun v s1 ⟨x, H1, I1, r1, q1⟩ => ⟨σ, H1, I1, q1⟩) I.quiet hs
def tRet (te : TE) : TS := fun D σ H => te σ H D.rt
theorem ps_ret (he : PE X e te) : PS X (.Return (some e) pos) (tRet te) := by
  intro pins s σ H D I h
  exact wpAny_Return_some (thn (he pins s σ H _ I h) fun v s1 ⟨x, H1, I1, r1, q1⟩ => ⟨x, σ, H1, I1, r1, q1⟩)
def tIfS (c : TT) (t u : TS) : TS := fun D σ H => c σ H fun b H1 => if b = true then t D σ H1 else u D σ H1
theorem ps_if {c : Expr} {a b : List Stmt} {tc : TT} (hc : PT X c tc) (ha : PSs X a t) (hb : PSs X b u) : PS X (.If c a b pos) (tIfS tc t u) := by
  intro pins s σ H D I h
  refine wpAny_If (thn (hc pins s σ H _ I h) fun d s1 ⟨H1, I1, q1⟩ => ?_)
  cases d with
  | true => exact ha pins s1 σ H1 D I1 q1
  | false => exact hb pins s1 σ H1 D I1 q1
/-- code that the proof never comes to -/
def tNever : TS := fun _ _ _ => False
theorem ps_never : PS X st tNever := fun _ _ _ _ _ _ h => h.elim
end

/-! ### targets -/
abbrev TG := V → St → Hp → (St → Hp → Prop) → Prop
abbrev TGs := List V → St → Hp → (St → Hp → Prop) → Prop
def PG (X : Cx) (target : Expr) (t : TG) : Prop :=
  ∀ (pins : List (Addr × Obj)) (s : Shared) (σ : St) (H : Hp) (v : V) (u : Value) (Q : St → Hp → Prop), Inv X pins σ H s → RelV v u → t v σ H Q →
    wpAny (model X.prog X.w) X.A (assign target X.env u) (fun _ s' => ∃ σ' H', Inv X pins σ' H' s' ∧ Q σ' H') X.xe s
/-- several targets, one after another -/
def PGs (X : Cx) (ts : List Expr) (t : TGs) : Prop :=
  ∀ (pins : List (Addr × Obj)) (s : Shared) (σ : St) (H : Hp) (vs : List V) (us : List Value) (Q : St → Hp → Prop), Inv X pins σ H s → Vals vs us → t vs σ H Q →
    wpAny (model X.prog X.w) X.A (assignInOrder ((assignEach ts X.env).map (·.2)) us) (fun _ s' => ∃ σ' H', Inv X pins σ' H' s' ∧ Q σ' H') X.xe s
section
variable {X : Cx} {pos : Pos}
def gName (i : Nat) : TG := fun v σ H Q => Q (σ.set i (some v)) H
theorem pg_name {i : Nat} {x : Str} (hN : X.N.Nodup) (hi : X.N[i]? = some x) (hx : Loc X.env.scope x) (hf : X.fn x = true ∨ X.env.scope.names.lookup x = some .local := by first | exact .inl rfl | exact .inr rfl | assumption) : PG X (.Name x pos) (gName i) := by
  intro pins s σ H v u Q I r h
  exact wpAny_assign_Name (store_ok I hN hi hx r (fun s' I' => ⟨_, H, I', h⟩) hf)
def gNil : TGs := fun vs σ H Q => vs = [] ∧ Q σ H
def gCons (t : TG) (u : TGs) : TGs := fun vs σ H Q => ∃ v r, vs = v :: r ∧ t v σ H fun σ' H' => u r σ' H' Q
theorem pgs_nil : PGs X [] gNil := by
  intro pins s σ H vs us Q I r h
  obtain ⟨e, h⟩ := h
  subst e
  cases r
  exact assignInOrder_nil ⟨σ, H, I, h⟩
theorem pgs_cons {e : Expr} {es : List Expr} {t : TG} {u : TGs} (h1 : PG X e t) (h2 : PGs X es u)
    (hs : (assignEach (e :: es) X.env).map (·.2) = assign e X.env :: (assignEach es X.env).map (·.2) := by rfl) : PGs X (e :: es) (gCons t u) := by
  intro pins s σ H vs us Q I r h
  obtain ⟨v, vr, e1, h⟩ := h
  subst e1
  cases r with
  | cons r rr =>
    rw [hs]
    refine assignInOrder_cons (thn (h1 pins s σ H _ _ _ I r h) fun _ s1 ⟨σ1, H1, I1, q1⟩ => ?_)
    exact h2 pins s1 σ1 H1 _ _ Q I1 rr q1
/-- (a, b, ..) = a tuple of that length -/
def gTup (K : PySem.W.Frag) (n : Nat) (t : TGs) : TG := fun v σ H Q => ∃ a xs, v = .ref a ∧ SqT K H a xs ∧ xs.length = n ∧ t xs σ H Q
theorem pg_tup {es : List Expr} {k : Nat} {t : TGs} {n : Nat} (hc : X.calm = true) (h : PGs X es t)
    (hn : (assignEach es X.env).length = n := by rfl) (hst : (assignEach es X.env).findIdx? (·.1) = none := by rfl) : PG X (.Tuple es k pos) (gTup X.K n t) := by
  intro pins s σ H v u Q I r hw
  obtain ⟨a, xs, e1, hq, hl, hw⟩ := hw
  subst e1
  cases r
  obtain ⟨its, rv, ht, hz⟩ := I.tuple hq
  refine assign_Tuple_tuple (I.ok.hd hc) ht (by simp [hn, ← hl, rv.length]) hst fun h' hx => ?_
  have I1 : Inv X pins σ H { s with heap := h' } := I.kept (t' := s.toks) fun b o e => hx b o (Nat.ne_of_lt (Heap.lt_size e)) e
  exact h pins _ σ H xs _ Q I1 (by simpa using rv) hw
/-- target = value -/
def tAsg (te : TE) (g : TG) : TS := fun D σ H => te σ H fun x H1 => g x σ H1 D.nx
theorem ps_asg {tg e : Expr} {te : TE} {g : TG} (he : PE X e te) (hg : PG X tg g) (hs : swapsWithSole [tg] e pos.line X.env = pure false := by rfl) (hw : swappedStores [tg] e X.env = pure none := by rfl)
    (h1 : (assignEach [tg] X.env).map (·.2) = [assign tg X.env] := by rfl) : PS X (.Assign [tg] e pos) (tAsg te g) := by
  intro pins s σ H D I h
  refine wpAny_Assign_stores (thn (he pins s σ H _ I h) fun v s1 ⟨x, H1, I1, r1, q1⟩ => ?_) hs hw
  rw [h1]
  exact thn (hg pins s1 σ H1 x v _ I1 r1 q1) fun _ s2 q => q
/-- name = value -/
theorem ps_set {i : Nat} {x : Str} {e : Expr} {te : TE} {pos' : Pos} (hN : X.N.Nodup) (hi : X.N[i]? = some x) (hx : Loc X.env.scope x) (he : PE X e te) (hs : swapsWith e (some (.Name x pos')) pos.line X.env = pure false := by rfl) (hf : X.fn x = true ∨ X.env.scope.names.lookup x = some .local := by first | exact .inl rfl | exact .inr rfl | assumption) :
    PS X (.Assign [.Name x pos'] e pos) (tAsg te (gName i)) := by
  intro pins s σ H D I h
  refine wpAny_Assign_Name (thn (he pins s σ H _ I h) fun v s1 ⟨y, H1, I1, r1, q1⟩ => ?_) hs
  exact store_ok I1 hN hi hx r1 (fun s2 I2 => ⟨_, H1, I2, q1⟩) hf
/-- a, b = x, y with plain local names: stored from the right; the pair itself is not tracked (the opening rows as in PyProof/Rows/TupAssign.lean:23) -/
def tPar (i j : Nat) (ta : TA) : TS := fun D σ H => ta σ H fun vs H1 => ∃ v w, vs = [v, w] ∧ D.nx ((σ.set i (some v)).set j (some w)) H1
theorem ps_par {i j : Nat} {x y : Str} {a b : Expr} {ta : TA} {px py pt : Pos} {kt k2 pt2} (hc : X.calm = true) (hN : X.N.Nodup) (hi : X.N[i]? = some x) (hj : X.N[j]? = some y) (hij : i ≠ j)
    (hx : X.env.scope.names.lookup x = some .local) (hy : X.env.scope.names.lookup y = some .local) (ha : PA X [a, b] ta)
    (hw : swappedStores [.Tuple [.Name x px, .Name y py] kt pt] (.Tuple [a, b] k2 pt2) X.env = pure (some [x, y]))
    (hs : swapsWithSole [.Tuple [.Name x px, .Name y py] kt pt] (.Tuple [a, b] k2 pt2) pos.line X.env = pure false := by rfl) :
    PS X (.Assign [.Tuple [.Name x px, .Name y py] kt pt] (.Tuple [a, b] k2 pt2) pos) (tPar i j ta) := by
  intro pins s σ H D I h
  rw [exec_Assign_arm]
  refine wpAny_bind (wpAny_standAt ?_)
  rw [hs]
  refine wpAny_bind (wpAny_pure ?_)
  rw [if_neg (by decide)]
  refine wpAny_bind (Tuple_ (thn (ha _ pins s σ H _ I h) fun us s1 ⟨vs, H1, I1, r1, q1⟩ => ?_))
  obtain ⟨v, w, e1, q1⟩ := q1
  subst e1
  obtain ⟨u1, u2, rfl, rv, rw'⟩ : ∃ u1 u2, us = [u1, u2] ∧ RelV v u1 ∧ RelV w u2 := by
    cases r1 with
    | cons p q =>
      cases q with
      | cons p' q' =>
        cases q'
        exact ⟨_, _, rfl, p, p'⟩
  refine wpAny_newObj_type ?_ (by show 2 ≤ sizeLine; decide)
  have I2 : Inv X pins σ H1 { s1 with heap := s1.heap.push { cls := .type "tuple", data := .seq [u1, u2].toArray } } := I1.kept (t' := s1.toks) fun b o e => Heap.get?_push_of_some _ e
  rw [hw]
  refine wpAny_bind (wpAny_pure ?_)
  show wpAny (model X.prog X.w) X.A (do rule "assign.swapped-stores"; let items ← unpackItems (.ref s1.heap.objs.size) 2 none; assignInOrder [fun v => bindName X.env y v, fun v => bindName X.env x v] items.reverse; pure Flow.next) _ _ _
  refine wpAny_bind (wpAny_rule (wpAny_bind (unpackItems_tuple (items := #[u1, u2]) (I.ok.hd hc) (IsTup.new s1.heap _) fun h' hx' => ?_)))
  have I3 := I2.kept (h' := h') (t' := s1.toks) fun b o e => hx' b o (Nat.ne_of_lt (Heap.lt_size e)) e
  show wpAny _ _ (assignInOrder [fun v => bindName X.env y v, fun v => bindName X.env x v] [u2, u1] >>= fun _ => pure Flow.next) _ _ _
  refine wpAny_bind (assignInOrder_cons (wpAny_bindName (store_ok I3 hN hj (.inl hy) rw' (fun s2 I4 => ?_) (.inr hy))))
  refine assignInOrder_cons (wpAny_bindName (store_ok I4 hN hi (.inl hx) rv (fun s3 I5 => assignInOrder_nil (wpAny_pure ?_)) (.inr hx)))
  rw [List.set_comm _ _ (Ne.symm hij)] at I5
  exact ⟨_, H1, I5, q1⟩
end

/-! ### while -/
section
variable {X : Cx} {pos : Pos}
/-- the invariant W with its measure -/
def tWhile (c : TT) (tb : TS) : TS := fun D σ H => ∃ W : Nat → St → Hp → Prop, (∃ m, W m σ H) ∧ ∀ m σ H, W m σ H →
  c σ H fun b H1 => if b = true then ∃ N : St → Hp → Prop, (∀ σ' H', N σ' H' → ∃ m', m' < m ∧ W m' σ' H') ∧ tb { D with nx := N, ct := N, bk := D.nx } σ H1 else D.nx σ H1
theorem ps_while {c : Expr} {body : List Stmt} {tc : TT} {tb : TS} (hp : PassesOwn (model X.prog X.w) X.A X.env X.xe) (hc : PT X c tc) (hb : PSs X body tb) : PS X (.While c body [] pos) (tWhile tc tb) := by
  intro pins s σ H D I h
  obtain ⟨W, ⟨m0, w0⟩, turn⟩ := h
  refine wpAny_While (codeAny_whileLoop (fun n s' => ∃ σ' H', Inv X pins σ' H' s' ∧ W n σ' H') ?_ m0 ⟨σ, H, I, w0⟩)
  rintro n s1 ⟨σ1, H1, I1, w1⟩
  refine wpAny_passesOwn hp (thn (hc pins s1 σ1 H1 _ I1 (turn n σ1 H1 w1)) fun b s2 ⟨H2, I2, q2⟩ => ?_)
  cases b with
  | true =>
    obtain ⟨N, hN, q2⟩ := q2
    rw [if_pos rfl]
    refine wpAny_passesOwn hp (thn (hb pins s2 σ1 H2 _ I2 q2) fun f s3 q3 => ?_)
    cases f with
    | next =>
      obtain ⟨σ3, H3, I3, n3⟩ := q3
      obtain ⟨m', hm, w3⟩ := hN σ3 H3 n3
      exact ⟨m', hm, σ3, H3, I3, w3⟩
    | cont =>
      obtain ⟨σ3, H3, I3, n3⟩ := q3
      obtain ⟨m', hm, w3⟩ := hN σ3 H3 n3
      exact ⟨m', hm, σ3, H3, I3, w3⟩
    | brk => exact q3
    | ret v => exact q3
  | false =>
    rw [if_neg Bool.false_ne_true]
    exact wpAny_execs_nil ⟨σ1, H2, I2, q2⟩
end

/-! ### what a loop or a comprehension walks -/
/-- at turn i: it yields x (the heap may grow), or it stops -/
structure It where
  go : Nat → Hp → Prop
  yld : Nat → Hp → V → Hp → Prop
  stop : Nat → Hp → Prop
/-- the iterator's own objects may turn: they are not the frame's, not pinned, younger than the entry (or a comprehension's own) -/
def FpOk (X : Cx) (pins : List (Addr × Obj)) (H : Hp) (b : Addr) : Prop :=
  H b = none ∧ b ≠ X.env.locals ∧ b ∉ X.fs ∧ (b ∈ X.ex ∨ X.s₀.heap.objs.size ≤ b) ∧ (∀ x c, X.env.cells.lookup x = some c → c ≠ b) ∧ ∀ p ∈ X.pn ++ pins, p.1 ≠ b
theorem Inv.fpOk {X : Cx} {pins : List (Addr × Obj)} {σ : St} {H H' : Hp} {s : Shared} {b : Addr} (I : Inv X pins σ H s) (hb : s.heap.objs.size ≤ b) (hn : H' b = none) : FpOk X pins H' b := by
  refine ⟨hn, Nat.ne_of_gt (Nat.lt_of_lt_of_le I.lt hb), I.nofs hb, .inr (Nat.le_trans I.sz hb), fun x c e z => ?_, fun p hp z => ?_⟩
  · obtain ⟨v, q⟩ := I.cell x c e
    exact absurd (Nat.lt_of_lt_of_le q.lt (by rw [z]; exact hb)) (Nat.lt_irrefl _)
  · exact absurd (Nat.lt_of_lt_of_le (Heap.lt_size (I.pin p hp).1) (by rw [z]; exact hb)) (Nat.lt_irrefl _)
structure Turn (P : Program) (w : World) (K : PySem.W.Frag) (tg : Expr) (J : It) (fp : List Addr) (it : Addr) (tn : Nat → Heap → Prop) : Prop where
  mem : it ∈ fp
  obj : ∀ i h, tn i h → ∀ b ∈ fp, ∃ o, h.get? b = some o ∧ ∀ v, o.data ≠ .cell v
  keep : ∀ i h h', tn i h → (∀ b ∈ fp, ∀ o, h.get? b = some o → h'.get? b = some o) → tn i h'
  item : ∀ (X : Cx), X.prog = P → X.w = w → X.K = K → X.calm = true → ∀ (i : Nat) (pins : List (Addr × Obj)) (s : Shared) (σ : St) (H : Hp) (E : Value → Shared → Prop), Inv X pins σ H s → (∀ b ∈ fp, FpOk X pins H b) → tn i s.heap → J.go i H →
    wpAny (model P w) X.A (pyNext (.ref it)) (fun r s1 => ∃ u, r = some u ∧
      wpAny (model P w) X.A (letOwnedTupleGo tg (.ref it) u) (fun _ s2 => ∃ x H', Inv X pins σ H' s2 ∧ RelV x u ∧ J.yld i H x H' ∧ tn (i + 1) s2.heap ∧ ∀ b ∈ fp, H' b = none) E s1) E s
  done : ∀ (X : Cx), X.prog = P → X.w = w → X.K = K → X.calm = true → ∀ (i : Nat) (pins : List (Addr × Obj)) (s : Shared) (σ : St) (H : Hp) (E : Value → Shared → Prop), Inv X pins σ H s → (∀ b ∈ fp, FpOk X pins H b) → tn i s.heap → J.stop i H →
    wpAny (model P w) X.A (pyNext (.ref it)) (fun r s1 => r = none ∧ Inv X pins σ H s1) E s
  self : ∀ (A : Around) (i : Nat) (s : Shared) (Q : Value → Shared → Prop) (E : Value → Shared → Prop), tn i s.heap → Q (.ref it) s → wpAny (model P w) A (pyIter (.ref it)) Q E s
abbrev TI := St → Hp → (It → Hp → Prop) → Prop
/-- an iterator has come -/
def PIE (X : Cx) (pins : List (Addr × Obj)) (σ : St) (tg : Expr) (R : It → Hp → Prop) (itv : Value) (s2 : Shared) : Prop :=
  ∃ (it : Addr) (fp : List Addr) (tn : Nat → Heap → Prop) (J : It) (H' : Hp), itv = .ref it ∧ Inv X pins σ H' s2 ∧ Turn X.prog X.w X.K tg J fp it tn ∧ tn 0 s2.heap ∧ (∀ b ∈ fp, FpOk X pins H' b) ∧ R J H'
def PI (X : Cx) (tg iter : Expr) (wi : TI) : Prop :=
  ∀ (pins : List (Addr × Obj)) (s : Shared) (σ : St) (H : Hp) (R : It → Hp → Prop), Inv X pins σ H s → wi σ H R →
    wpAny (model X.prog X.w) X.A (eval iter X.env) (fun v s1 => wpAny (model X.prog X.w) X.A (pyIter v) (PIE X pins σ tg R) X.xe s1) X.xe s

/-- the step ahead of the store is nothing for an iterator that keeps no tuple -/
theorem go_of {M : Model} {A : Around} {E : Value → Shared → Prop} {s : Shared} {tg : Expr} {it : Addr} {u : Value} {o : Obj} {n : String} {vs : Array Value} {Q : Unit → Shared → Prop} (ho : s.heap.get? it = some o) (hc : o.cls = .type n) (hd : o.data = .fields vs)
    (hn : ["enumerate", "zip", "dict_itemiterator", "dict_reverseitemiterator", "odict_iterator", "itertools.zip_longest", "itertools.pairwise"].contains n = false) (hQ : Q () s) : wpAny M A (letOwnedTupleGo tg (.ref it) u) Q E s := by
  unfold letOwnedTupleGo
  cases tg <;> first
    | exact wpAny_pure hQ
    | (cases u <;> first
        | exact wpAny_pure hQ
        | (refine wpAny_bind (wpAny_load ho ?_)
           rw [hc, hd]
           show wpAny M A (if (["enumerate", "zip", "dict_itemiterator", "dict_reverseitemiterator", "odict_iterator", "itertools.zip_longest", "itertools.pairwise"].contains n && vs[0]? == some (rawInt _)) = true then _ else _) Q E s
           rw [if_neg (by intro h; rw [hn, Bool.false_and] at h; cases h)]
           exact wpAny_pure hQ))

/-- the list at a, as it stands at each turn (a loop may append to it) -/
def Itl (K : PySem.W.Frag) (a : Addr) : It :=
  ⟨fun i H => ∃ xs x, SqL K H a xs ∧ xs[i]? = some x, fun i H x H' => H' = H ∧ ∀ xs, SqL K H a xs → xs[i]? = some x, fun i H => ∃ xs, SqL K H a xs ∧ xs.length ≤ i⟩
/-- lo, lo + 1, .. (n of them) -/
def Itr (lo : Int) (n : Nat) : It := ⟨fun i _ => i < n, fun i H x H' => H' = H ∧ x = .int (lo + i), fun i _ => n ≤ i⟩
theorem turn_list {P : Program} {w : World} {K : PySem.W.Frag} {tg : Expr} (a it : Addr) : Turn P w K tg (Itl K a) [it] it (fun i h => h.IsListIter it a i) where
  mem := by simp
  obj := fun i h st b hb => by
    have e : b = it := by simpa using hb
    subst e
    obtain ⟨o, e, c, d⟩ := st
    exact ⟨o, e, fun v z => by rw [d] at z; cases z⟩
  keep := fun i h h' st k => st.at fun o e => k it (by simp) o e
  item := by
    intro X hP hw hK hc i pins s σ H E I hf st hg
    subst hP hw hK
    obtain ⟨xs, x, hq, hx⟩ := hg
    obtain ⟨its, rv, p, hz⟩ := I.list hq
    obtain ⟨u, hu, ru⟩ := rv.get hx
    obtain ⟨f0, f1, f2, f3, f4, f5⟩ := hf it (by simp)
    refine wpAny_pyNext_list_item st p.isList (x := u) (by simpa using hu) fun h' st' sb => ?_
    have I1 : Inv X pins σ H { s with heap := h' } := I.turned (t' := s.toks) (fun b o hb e => (sb.2 b hb).trans e) f0 f1 f3 f4 f5
    obtain ⟨o, e, c, d⟩ := id st'
    exact ⟨u, rfl, go_of (s := { s with heap := h' }) e c d (by decide) ⟨x, H, I1, ru, ⟨rfl, fun ys hy => by rw [I.list_inj hy hq]; exact hx⟩, st', fun b hb => (hf b hb).1⟩⟩
  done := by
    intro X hP hw hK hc i pins s σ H E I hf st hg
    subst hP hw hK
    obtain ⟨xs, hq, hx⟩ := hg
    obtain ⟨its, rv, p, hz⟩ := I.list hq
    obtain ⟨f0, f1, f2, f3, f4, f5⟩ := hf it (by simp)
    have hl := rv.length
    exact wpAny_pyNext_list_end (I.ok.hd hc) st p.isList (by simp; omega) fun h' eb => ⟨rfl, I.turned (t' := s.toks) (fun b o hb e => eb b o hb e) f0 f1 f3 f4 f5⟩
  self := fun _ _ _ _ _ st h => wpAny_pyIter_listiter st h
theorem turn_range {P : Program} {w : World} {K : PySem.W.Frag} {tg : Expr} (it : Addr) (lo : Int) (n : Nat) : Turn P w K tg (Itr lo n) [it] it (fun i h => IsRangeIter h it (lo + (i : Nat) * 1) ((n : Int) - (i : Nat)) 1) where
  mem := by simp
  obj := fun i h st b hb => by
    have e : b = it := by simpa using hb
    subst e
    exact ⟨_, st, fun v z => by
      have z' : Data.fields _ = Data.cell v := z
      cases z'⟩
  keep := fun i h h' st k => k it (by simp) _ st
  item := by
    intro X hP hw hK hc i pins s σ H E I hf st hg
    subst hP hw hK
    obtain ⟨f0, f1, f2, f3, f4, f5⟩ := hf it (by simp)
    have W := Walks.range (prog := X.prog) (w := X.w) (I.ok.hd hc) it lo 1 n
    refine W.item i s _ _ hg st fun v h' tk hv st' kk => ?_
    obtain ⟨t, rfl⟩ := hv
    have I1 : Inv X pins σ H { s with heap := h', toks := tk } := I.turned (fun b o hb e => kk b o (by simpa using hb) e) f0 f1 f3 f4 f5
    refine ⟨_, rfl, go_of (s := { s with heap := h', toks := tk }) (n := "range_iterator") st' rfl rfl (by decide) ⟨.int (lo + i), H, I1, ⟨t, ?_⟩, ⟨rfl, rfl⟩, st', fun b hb => (hf b hb).1⟩⟩
    rw [Int.mul_one]
  done := by
    intro X hP hw hK hc i pins s σ H E I hf st hg
    subst hP hw hK
    obtain ⟨f0, f1, f2, f3, f4, f5⟩ := hf it (by simp)
    exact wpAny_pyNext_range_end (I.ok.hd hc) st (by have : n ≤ i := hg; omega) fun h' eb => ⟨rfl, I.turned (t' := s.toks) (fun b o hb e => eb b o hb e) f0 f1 f3 f4 f5⟩
  self := fun _ _ _ _ _ st h => wpAny_pyIter_rangeiter st h
end L2

namespace L2
open PySem PySem.Spec PyProof.Rows
section
variable {X : Cx} {tg : Expr}
def iList (K : PySem.W.Frag) (tl : TE) : TI := fun σ H R => tl σ H fun x H1 => ∃ a, x = .ref a ∧ (∃ xs, SqL K H1 a xs) ∧ R (Itl K a) H1
theorem pi_list {l : Expr} {tl : TE} (hl : PE X l tl) : PI X tg l (iList X.K tl) := by
  intro pins s σ H R I h
  refine thn (hl pins s σ H _ I h) fun v s1 ⟨x, H1, I1, r1, q1⟩ => ?_
  obtain ⟨a, e, ⟨xs, hq⟩, q⟩ := q1
  subst e
  cases r1
  obtain ⟨its, rv, p, hz⟩ := I1.list hq
  refine wpAny_pyIter_list p.isList ?_
  refine ⟨s1.heap.objs.size, [s1.heap.objs.size], _, _, H1, rfl, I1.kept (t' := s1.toks) fun b o e => Heap.get?_push_of_some _ e, turn_list a _, ⟨_, Heap.get?_push_size _ rfl, rfl, rfl⟩, fun b hb => ?_, q⟩
  have e : b = s1.heap.objs.size := by simpa using hb
  subst e
  exact I1.fpOk (Nat.le_refl _) (I1.hok.fresh (Nat.le_refl _))
/-- a range object just made, walked -/
theorem range_it {pins : List (Addr × Obj)} {σ : St} {H : Hp} {s : Shared} {R : It → Hp → Prop} {E : Value → Shared → Prop} {lo hi : Int} {t u v : Tok} {tk : Nat} (I : Inv X pins σ H s) (h1 : -(2 ^ 62) ≤ lo) (h2 : lo < 2 ^ 62) (h3 : -(2 ^ 62) ≤ hi) (h4 : hi < 2 ^ 62)
    (q : R (Itr lo (hi - lo).toNat) H) : wpAny (model X.prog X.w) X.A (pyIter (.ref s.heap.objs.size)) (PIE X pins σ tg R) E { s with heap := s.heap.push { cls := .type "range", data := .fields #[.int lo t, .int hi u, .int 1 v] }, toks := tk } := by
  refine wpAny_pyIter_range (IsRange.new ..) (small_one h1 h2 h3 h4) ?_
  have I1 : Inv X pins σ H { s with heap := s.heap.push { cls := .type "range", data := .fields #[.int lo t, .int hi u, .int 1 v] }, toks := tk } := I.kept fun b o e => Heap.get?_push_of_some _ e
  refine ⟨(s.heap.push { cls := .type "range", data := .fields #[.int lo t, .int hi u, .int 1 v] }).objs.size, [(s.heap.push { cls := .type "range", data := .fields #[.int lo t, .int hi u, .int 1 v] }).objs.size], _, _, H, rfl,
    I1.kept (t' := tk) fun b o e => Heap.get?_push_of_some _ e, turn_range _ lo (hi - lo).toNat, ?_, fun b hb => ?_, q⟩
  · have e1 : lo + ((0 : Nat) : Int) * 1 = lo := by simp
    have e2 : (((hi - lo).toNat : Nat) : Int) - ((0 : Nat) : Int) = Builtin.Range.rangeSize lo hi 1 := by rw [rangeSize_one]; split <;> omega
    show IsRangeIter _ _ (lo + ((0 : Nat) : Int) * 1) ((((hi - lo).toNat : Nat) : Int) - ((0 : Nat) : Int)) 1
    rw [e1, e2]
    exact Heap.get?_push_size _ rfl
  · have e : b = (s.heap.push { cls := .type "range", data := .fields #[.int lo t, .int hi u, .int 1 v] }).objs.size := by simpa using hb
    subst e
    exact I1.fpOk (Nat.le_refl _) (I1.hok.fresh (Nat.le_refl _))
def iRng1 (ta : TA) : TI := fun σ H R => ta σ H fun vs H1 => ∃ j : Int, vs = [.int j] ∧ -(2 ^ 62) ≤ j ∧ j < 2 ^ 62 ∧ R (Itr 0 j.toNat) H1
theorem pi_range1 {a : Expr} {ta : TA} {p pos : Pos} (hg : Gl X "range") (hm : X.mg "range" = none) (ha : PA X [a] ta) (hs : starEach [a] X.env = [(false, eval a X.env)] := by rfl) : PI X tg (.Call (.Name "range" p) [a] [] pos) (iRng1 ta) := by
  intro pins s σ H R I h
  refine Call_ (ld_blt I hg hm boot_range (PyProof.Rows.callWith_type1 (thn (ha pos pins s σ H _ I h) fun us s1 ⟨vs, H1, I1, r1, q1⟩ => ?_) hs rfl))
  obtain ⟨j, e, q1, q2, q⟩ := q1
  subst e
  cases r1 with
  | cons r rr =>
    cases rr
    obtain ⟨t, rfl⟩ := r
    exact call_range_1 (range_it I1 (by omega) (by omega) q1 q2 (by simpa using q))
/-! ### for -/
/-- W: the invariant by the turn and a measure; N: what the body is to reach -/
def tFor (wi : TI) (g : TG) (tb : TS) : TS := fun D σ H => wi σ H fun J H1 => ∃ W : Nat → Nat → St → Hp → Prop, (∃ m, W 0 m σ H1) ∧ ∀ i m σ H, W i m σ H →
  (J.stop i H ∧ D.nx σ H) ∨ (J.go i H ∧ ∃ N : St → Hp → Prop, (∀ σ' H', N σ' H' → ∃ m', m' < m ∧ W (i + 1) m' σ' H') ∧ ∀ x H', J.yld i H x H' → g x σ H' fun σ2 H2 => tb { D with nx := N, ct := N, bk := D.nx } σ2 H2)
/-- the records at fp as they stand -/
def pinsAt (fp : List Addr) (h : Heap) : List (Addr × Obj) := fp.filterMap fun b => (h.get? b).map fun o => (b, o)
theorem mem_pinsAt {fp : List Addr} {h : Heap} {b : Addr} {o : Obj} (hb : b ∈ fp) (e : h.get? b = some o) : (b, o) ∈ pinsAt fp h := List.mem_filterMap.mpr ⟨b, hb, by rw [e]; rfl⟩
theorem of_pinsAt {fp : List Addr} {h : Heap} {p : Addr × Obj} (hp : p ∈ pinsAt fp h) : p.1 ∈ fp ∧ h.get? p.1 = some p.2 := by
  obtain ⟨b, hb, e⟩ := List.mem_filterMap.mp hp
  cases q : h.get? b with
  | none => rw [q] at e; cases e
  | some o =>
    rw [q] at e
    have e' : (b, o) = p := Option.some.inj e
    subst e'
    exact ⟨hb, q⟩
theorem Inv.pinned {pins : List (Addr × Obj)} {σ : St} {H : Hp} {s : Shared} {fp : List Addr} (I : Inv X pins σ H s) (hf : ∀ b ∈ fp, FpOk X pins H b) (ho : ∀ b ∈ fp, ∃ o, s.heap.get? b = some o ∧ ∀ v, o.data ≠ .cell v) : Inv X (pins ++ pinsAt fp s.heap) σ H s :=
  I.pins_of fun p hp => (List.mem_append.mp hp).elim (fun z => I.pin p (List.mem_append_right _ z)) fun z => by
    obtain ⟨hb, e⟩ := of_pinsAt z
    obtain ⟨f0, f1, f2, _⟩ := hf p.1 hb
    obtain ⟨o, e', d⟩ := ho p.1 hb
    rw [e] at e'; cases e'
    exact ⟨e, f0, f1, f2, d⟩
theorem Inv.unpinned {pins pl : List (Addr × Obj)} {σ : St} {H : Hp} {s : Shared} (I : Inv X (pins ++ pl) σ H s) : Inv X pins σ H s := I.pins_of fun p hp => I.pin p (List.mem_append_right _ (List.mem_append_left _ hp))
theorem ps_for {iter : Expr} {body : List Stmt} {wi : TI} {g : TG} {tb : TS} {pos : Pos} (hp : PassesOwn (model X.prog X.w) X.A X.env X.xe) (hc : X.calm = true) (hi : PI X tg iter wi) (hg : PG X tg g) (hb : PSs X body tb)
    (hs : ∀ x, foldedSetIterable iter X.env x = pure x := by intro _; rfl) : PS X (.For tg iter body [] pos) (tFor wi g tb) := by
  intro pins s σ H D I h
  refine wpAny_For (thn (hi pins s σ H _ I h) fun v s1 h1 => thn h1 fun itv s2 h2 => ?_) hs
  obtain ⟨it, fp, tn, J, H2, e, I2, T, st2, f2, W, ⟨m0, w0⟩, turn⟩ := h2
  subst e
  -- what stays true of the iterator's objects through the loop
  have stat : ∀ {H' : Hp}, (∀ b ∈ fp, H' b = none) → ∀ b ∈ fp, FpOk X pins H' b := fun hn b hb => ⟨hn b hb, (f2 b hb).2⟩
  refine codeAny_forLoop_any (fun n s' => ∃ i σ' H', Inv X pins σ' H' s' ∧ tn i s'.heap ∧ (∀ b ∈ fp, H' b = none) ∧ W i n σ' H') ?_ m0 ⟨0, σ, H2, I2, st2, fun b hb => (f2 b hb).1, w0⟩
  rintro n s3 ⟨i, σ3, H3, I3, st3, fr3, w3⟩
  rcases turn i n σ3 H3 w3 with ⟨stop, qn⟩ | ⟨go, N, hN, step⟩
  · refine wpAny_passesOwn hp (thn (T.done X rfl rfl rfl hc i pins s3 σ3 H3 X.xe I3 (stat fr3) st3 stop) fun r s4 ⟨hr, I4⟩ => ?_)
    subst hr
    exact wpAny_execs_nil ⟨σ3, H3, I4, qn⟩
  · refine wpAny_passesOwn hp (thn (T.item X rfl rfl rfl hc i pins s3 σ3 H3 X.xe I3 (stat fr3) st3 go) fun r s4 ⟨u, hr, h4⟩ => ?_)
    subst hr
    refine wpAny_passesOwn hp (thn h4 fun _ s5 ⟨x, H5, I5, r5, y5, st5, fr5⟩ => ?_)
    have I5' := I5.pinned (stat fr5) (T.obj _ _ st5)
    refine wpAny_passesOwn hp (thn (hg _ s5 σ3 H5 x u _ I5' r5 (step x H5 y5)) fun _ s6 ⟨σ6, H6, I6, q6⟩ => ?_)
    refine wpAny_passesOwn hp (thn (hb _ s6 σ6 H6 _ I6 q6) fun f s7 q7 => ?_)
    have again : ∀ {σ7 : St} {H7 : Hp}, Inv X (pins ++ pinsAt fp s5.heap) σ7 H7 s7 → N σ7 H7 → ∃ m, m < n ∧ ∃ i σ' H', Inv X pins σ' H' s7 ∧ tn i s7.heap ∧ (∀ b ∈ fp, H' b = none) ∧ W i m σ' H' := fun {σ7 H7} I7 n7 => by
      obtain ⟨m', hm, w7⟩ := hN σ7 H7 n7
      refine ⟨m', hm, i + 1, σ7, H7, I7.unpinned, T.keep _ _ _ st5 fun b hb o e => (I7.pin (b, o) (List.mem_append_right _ (List.mem_append_right _ (mem_pinsAt hb e)))).1, fun b hb => ?_, w7⟩
      obtain ⟨o, e, d⟩ := T.obj _ _ st5 b hb
      exact (I7.pin (b, o) (List.mem_append_right _ (List.mem_append_right _ (mem_pinsAt hb e)))).2.1
    cases f with
    | next => obtain ⟨σ7, H7, I7, n7⟩ := q7; exact again I7 n7
    | cont => obtain ⟨σ7, H7, I7, n7⟩ := q7; exact again I7 n7
    | brk => obtain ⟨σ7, H7, I7, q7⟩ := q7; exact ⟨σ7, H7, I7.unpinned, q7⟩
    | ret v => obtain ⟨x7, σ7, H7, I7, r7, q7⟩ := q7; exact ⟨x7, σ7, H7, I7.unpinned, r7, q7⟩
end

/-! ### the forms one uses -/
theorem for_range {lo : Int} {n : Nat} {g : TG} {tb : TS} {D : Ends} {σ : St} {H : Hp} (Pv : Nat → St → Hp → Prop) (h0 : Pv 0 σ H)
    (hs : ∀ i σ H, i < n → Pv i σ H → g (.int (lo + i)) σ H fun σ2 H2 => tb { D with nx := Pv (i + 1), ct := Pv (i + 1), bk := D.nx } σ2 H2) (hd : ∀ σ H, Pv n σ H → D.nx σ H) :
    ∃ W : Nat → Nat → St → Hp → Prop, (∃ m, W 0 m σ H) ∧ ∀ i m σ H, W i m σ H →
      ((Itr lo n).stop i H ∧ D.nx σ H) ∨ ((Itr lo n).go i H ∧ ∃ N : St → Hp → Prop, (∀ σ' H', N σ' H' → ∃ m', m' < m ∧ W (i + 1) m' σ' H') ∧ ∀ x H', (Itr lo n).yld i H x H' → g x σ H' fun σ2 H2 => tb { D with nx := N, ct := N, bk := D.nx } σ2 H2) := by
  refine ⟨fun i m σ H => m = n - i ∧ i ≤ n ∧ Pv i σ H, ⟨n, by simp, Nat.zero_le _, h0⟩, ?_⟩
  rintro i m σ H ⟨rfl, hi, p⟩
  by_cases hlt : i < n
  · refine .inr ⟨hlt, Pv (i + 1), fun σ' H' p' => ⟨n - (i + 1), by omega, rfl, hlt, p'⟩, fun x H' y => ?_⟩
    obtain ⟨e, y⟩ := y
    subst e y
    exact hs i σ _ hlt p
  · have e : i = n := by omega
    subst e
    exact .inl ⟨Nat.le_refl _, hd σ H p⟩
end L2

namespace L2
open PySem PySem.Spec PyProof.Rows

abbrev R2 := V → V → Hp → VK → Prop
/-- a two-place operation on values: f is binaryOp op, inplaceOp op or compareOp op -/
def OpR (X : Cx) (f : Value → Value → Sem Value) (r : R2) : Prop :=
  ∀ (pins : List (Addr × Obj)) (s : Shared) (σ : St) (H : Hp) (x y : V) (v u : Value) (Q : VK), Inv X pins σ H s → RelV x v → RelV y u → r x y H Q →
    wpAny (model X.prog X.w) X.A (f v u) (EP X pins σ Q) X.xe s
/-- a one-place operation -/
def UnR (X : Cx) (f : Value → Sem Value) (r : V → Hp → VK → Prop) : Prop :=
  ∀ (pins : List (Addr × Obj)) (s : Shared) (σ : St) (H : Hp) (x : V) (v : Value) (Q : VK), Inv X pins σ H s → RelV x v → r x H Q →
    wpAny (model X.prog X.w) X.A (f v) (EP X pins σ Q) X.xe s
/-- a call of a value that is known (a builtin, a type) with values -/
def CallR (X : Cx) (f : Value) (r : List V → Hp → VK → Prop) : Prop :=
  ∀ (pins : List (Addr × Obj)) (s : Shared) (σ : St) (H : Hp) (xs : List V) (us : List Value) (Q : VK), Inv X pins σ H s → Vals xs us → r xs H Q →
    wpAny (model X.prog X.w) X.A (call f us) (EP X pins σ Q) X.xe s
/-- a value's truth -/
def TruR (X : Cx) (r : V → Hp → (Bool → Hp → Prop) → Prop) : Prop :=
  ∀ (pins : List (Addr × Obj)) (s : Shared) (σ : St) (H : Hp) (x : V) (v : Value) (Q : Bool → Hp → Prop), Inv X pins σ H s → RelV x v → r x H Q →
    wpAny (model X.prog X.w) X.A (truthy v) (TP X pins σ Q) X.xe s

def tOp (r : R2) (ta tb : TE) : TE := fun σ H Q => ta σ H fun x H1 => tb σ H1 fun y H2 => r x y H2 Q
def tUn (r : V → Hp → VK → Prop) (ta : TE) : TE := fun σ H Q => ta σ H fun x H1 => r x H1 Q
/-- ints in, under C, and a value out -/
def rI (C : Int → Int → Prop) (g : Int → Int → V) : R2 := fun x y H Q => ∃ i j, x = .int i ∧ y = .int j ∧ C i j ∧ Q (g i j) H
def rI0 (g : Int → Int → V) : R2 := fun x y H Q => ∃ i j, x = .int i ∧ y = .int j ∧ Q (g i j) H
def rU (g : Int → V) : V → Hp → VK → Prop := fun x H Q => ∃ i, x = .int i ∧ Q (g i) H

section
variable {X : Cx} {a b c : Expr} {ta tb tc : TE} {pos : Pos}

theorem binT (ha : PE X a ta) (hb : PE X b tb) {pins : List (Addr × Obj)} {s : Shared} {σ : St} {H : Hp} {R : V → V → Hp → Prop} (I : Inv X pins σ H s)
    (h : ta σ H fun x H1 => tb σ H1 fun y H2 => R x y H2) {Q : Value → Shared → Prop} {f : Value → Value → Sem Value}
    (hf : ∀ v u s2 x y H2, Inv X pins σ H2 s2 → RelV x v → RelV y u → R x y H2 → wpAny (model X.prog X.w) X.A (f v u) Q X.xe s2) :
    wpAny (model X.prog X.w) X.A (eval a X.env) (fun v s₁ => wpAny (model X.prog X.w) X.A (eval b X.env) (fun u s₂ => wpAny (model X.prog X.w) X.A (f v u) Q X.xe s₂) X.xe s₁) X.xe s := by
  refine thn (ha pins s σ H _ I h) fun v s1 ⟨x, H1, I1, r1, q1⟩ => ?_
  refine thn (hb pins s1 σ H1 _ I1 q1) fun u s2 ⟨y, H2, I2, r2, q2⟩ => ?_
  exact hf v u s2 x y H2 I2 r1 r2 q2

theorem pe_op {op : Operator} {r : R2} (ho : OpR X (binaryOp op) r) (ha : PE X a ta) (hb : PE X b tb) : PE X (.BinOp a op b pos) (tOp r ta tb) := by
  intro pins s σ H Q I h
  exact wpAny_BinOp (binT ha hb I h fun v u s2 x y H2 I2 rx ry q => ho pins s2 σ H2 x y v u Q I2 rx ry q)
theorem pe_un {op : UnaryOp} {r : V → Hp → VK → Prop} (ho : UnR X (unaryOp op) r) (ha : PE X a ta) : PE X (.UnaryOp op a pos) (tUn r ta) := by
  intro pins s σ H Q I h
  exact UnaryOp_ (thn (ha pins s σ H _ I h) fun v s1 ⟨x, H1, I1, r1, q1⟩ => ho pins s1 σ H1 x v Q I1 r1 q1)
/-! ### ints -/
theorem opI {f : Value → Value → Sem Value} {C : Int → Int → Prop} {g : Int → Int → Int}
    (rule : ∀ (i j : Int) (t u : Tok) (s : Shared) (Q : Value → Shared → Prop) (E : Value → Shared → Prop), C i j → Q (.int (g i j) s.toks) { s with toks := s.toks + 1 } → wpAny (model X.prog X.w) X.A (f (.int i t) (.int j u)) Q E s) :
    OpR X f (rI C fun i j => .int (g i j)) := by
  intro pins s σ H x y v u Q I rx ry h
  obtain ⟨i, j, rfl, rfl, hc, q⟩ := h
  obtain ⟨t, rfl⟩ := rx
  obtain ⟨t', rfl⟩ := ry
  exact rule i j t t' s _ _ hc ⟨.int (g i j), H, I.tok _, ⟨_, rfl⟩, q⟩
theorem opI0 {f : Value → Value → Sem Value} {g : Int → Int → Int}
    (rule : ∀ (i j : Int) (t u : Tok) (s : Shared) (Q : Value → Shared → Prop) (E : Value → Shared → Prop), Q (.int (g i j) s.toks) { s with toks := s.toks + 1 } → wpAny (model X.prog X.w) X.A (f (.int i t) (.int j u)) Q E s) :
    OpR X f (rI0 fun i j => .int (g i j)) := by
  intro pins s σ H x y v u Q I rx ry h
  obtain ⟨i, j, rfl, rfl, q⟩ := h
  obtain ⟨t, rfl⟩ := rx
  obtain ⟨t', rfl⟩ := ry
  exact rule i j t t' s _ _ ⟨.int (g i j), H, I.tok _, ⟨_, rfl⟩, q⟩
theorem opB0 {f : Value → Value → Sem Value} {g : Int → Int → Bool}
    (rule : ∀ (i j : Int) (t u : Tok) (s : Shared) (Q : Value → Shared → Prop) (E : Value → Shared → Prop), Q (.bool (g i j)) s → wpAny (model X.prog X.w) X.A (f (.int i t) (.int j u)) Q E s) :
    OpR X f (rI0 fun i j => .bl (g i j)) := by
  intro pins s σ H x y v u Q I rx ry h
  obtain ⟨i, j, rfl, rfl, q⟩ := h
  obtain ⟨t, rfl⟩ := rx
  obtain ⟨t', rfl⟩ := ry
  exact rule i j t t' s _ _ ⟨.bl (g i j), H, I, rfl, q⟩

def CDiv (i j : Int) : Prop := 0 < j ∧ j < 1073741824
def CPow (i j : Int) : Prop := 0 ≤ j ∧ j ≤ 1000000 ∧ i.natAbs < 2 ^ 64
def CMul (i j : Int) : Prop := (-(2 ^ 64) < i ∧ i < 2 ^ 64) ∨ (-(2 ^ 64) < j ∧ j < 2 ^ 64)
theorem CMul.ok {i j : Int} (h : CMul i j) : IntMulOk i j := by
  rcases h with ⟨h1, h2⟩ | ⟨h1, h2⟩
  · exact .of_left (intBits_le_64 h1 h2)
  · exact .of_right (intBits_le_64 h1 h2)
theorem two_pow_nn (k : Nat) : (0 : Int) ≤ 2 ^ k := by
  rw [two_pow_cast]
  exact Int.natCast_nonneg _

theorem op_add : OpR X (binaryOp .Add) (rI0 fun i j => .int (i + j)) := opI0 fun _ _ _ _ _ _ _ q => add_int q
theorem op_sub : OpR X (binaryOp .Sub) (rI0 fun i j => .int (i - j)) := opI0 fun _ _ _ _ _ _ _ q => sub_int q
theorem op_mul : OpR X (binaryOp .Mult) (rI CMul fun i j => .int (i * j)) := opI fun _ _ _ _ _ _ _ hc q => mul_int q hc.ok
/-- // by a positive divisor -/
theorem op_fdiv : OpR X (binaryOp .FloorDiv) (rI CDiv fun i j => .int (i / j)) := opI fun i j _ _ _ _ _ hc q => by
  have h1 : (0 : Int) < j := hc.1
  have h2 : j < 1073741824 := hc.2
  exact floordiv_int (by omega) (by rw [Int.fdiv_eq_ediv_of_nonneg i (by omega)]; exact q) (.inl (PyProof.noPylong_small (by omega)))
/-- % by a positive divisor of any size -/
theorem op_mod : OpR X (binaryOp .Mod) (rI (fun _ j => 0 < j) fun i j => .int (i % j)) := opI fun i j _ _ _ _ _ hc q => by
  have h1 : (0 : Int) < j := hc
  exact mod_int' (by omega) (by rw [Int.fmod_eq_emod_of_nonneg i (by omega)]; exact q)
theorem op_pow : OpR X (binaryOp .Pow) (rI CPow fun i j => .int (i ^ j.toNat)) := opI fun _ _ _ _ _ _ _ hc q => pow_int_small hc.1 hc.2.1 hc.2.2 q
theorem op_shl : OpR X (binaryOp .LShift) (rI CPow fun i j => .int (i * 2 ^ j.toNat)) := opI fun _ _ _ _ _ _ _ hc q => lshift_int_small hc.1 hc.2.1 hc.2.2 q
theorem op_shr : OpR X (binaryOp .RShift) (rI (fun _ j => 0 ≤ j) fun i j => .int (i / 2 ^ j.toNat)) := opI fun i j _ _ _ _ _ hc q =>
  rshift_int hc (by rw [Int.fdiv_eq_ediv_of_nonneg i (two_pow_nn _)]; exact q)
theorem op_and : OpR X (binaryOp .BitAnd) (rI0 fun i j => .int (Builtin.bitAnd i j)) := opI0 fun _ _ _ _ _ _ _ q => and_int q
theorem unI {f : Value → Sem Value} {g : Int → Int}
    (rule : ∀ (i : Int) (t : Tok) (s : Shared) (Q : Value → Shared → Prop) (E : Value → Shared → Prop), Q (.int (g i) s.toks) { s with toks := s.toks + 1 } → wpAny (model X.prog X.w) X.A (f (.int i t)) Q E s) :
    UnR X f (rU fun i => .int (g i)) := by
  intro pins s σ H x v Q I rx h
  obtain ⟨i, rfl, q⟩ := h
  obtain ⟨t, rfl⟩ := rx
  exact rule i t s _ _ ⟨.int (g i), H, I.tok _, ⟨_, rfl⟩, q⟩
theorem un_neg : UnR X (unaryOp .USub) (rU fun i => .int (-i)) := unI fun _ _ _ _ _ q => neg_int q
/-! ### bools among ints: n += (a < b) -/
end

/-! ### comparisons -/
/-- the scalars that == tells apart as data does -/
def scal : V → V → Bool
  | .non, .non => true | .non, .int _ => true | .int _, .non => true | .non, .bl _ => true | .bl _, .non => true | .non, .str _ => true | .str _, .non => true
  | .int _, .int _ => true | .bl _, .bl _ => true | .str _, .str _ => true | .byt _, .byt _ => true
  | .int _, .str _ => true | .str _, .int _ => true | .bl _, .str _ => true | .str _, .bl _ => true
  | _, _ => false
def rEq : R2 := fun x y H Q => scal x y = true ∧ Q (.bl (decide (x = y))) H
def rNe : R2 := fun x y H Q => scal x y = true ∧ Q (.bl (!decide (x = y))) H

theorem dec_int {i j : Int} : decide (V.int i = V.int j) = (i == j) := by
  rw [Bool.eq_iff_iff]
  simp
theorem dec_bl {i j : Bool} : decide (V.bl i = V.bl j) = (i == j) := by
  rw [Bool.eq_iff_iff]
  simp
theorem dec_str {i j : Str} : decide (V.str i = V.str j) = (i == j) := by
  rw [Bool.eq_iff_iff]
  simp
theorem dec_byt {i j : Array UInt8} : decide (V.byt i = V.byt j) = (i.toList == j.toList) := by
  rw [Bool.eq_iff_iff]
  cases i
  cases j
  simp

section
variable {X : Cx} {a b c : Expr} {ta tb tc : TE} {pos : Pos}
theorem fin_bl {pins : List (Addr × Obj)} {σ : St} {H : Hp} {s : Shared} {Q : VK} {k k' : Bool} (I : Inv X pins σ H s) (q : Q (.bl k) H) (e : k = k') : EP X pins σ Q (.bool k') s := by
  subst e
  exact ⟨.bl k, H, I, rfl, q⟩
theorem op_eq : OpR X (compareOp .Eq) rEq := by
  intro pins s σ H x y v u Q I rx ry h
  obtain ⟨hs, q⟩ := h
  cases x with
  | non =>
    cases rx
    cases y with
    | non => cases ry; exact PySem.EqNone.eq_none_none (fin_bl I q (by simp))
    | bl j => cases ry; exact PySem.EqNone.eq_none_bool (fin_bl I q (by simp))
    | int j => obtain ⟨t', rfl⟩ := ry; exact PySem.EqNone.eq_none_int (fin_bl I q (by simp))
    | str j => obtain ⟨t', rfl⟩ := ry; exact PySem.EqNone.eq_none_str (fin_bl I q (by simp))
    | _ => exact absurd (show false = true from hs) Bool.false_ne_true
  | bl i =>
    cases rx
    cases y with
    | non => cases ry; exact PySem.EqNone.eq_bool_none (fin_bl I q (by simp))
    | bl j => cases ry; exact eq_bool (fin_bl I q dec_bl)
    | str j => obtain ⟨t', rfl⟩ := ry; exact PySem.EqMixed.eq_bool_str (fin_bl I q (by simp))
    | _ => exact absurd (show false = true from hs) Bool.false_ne_true
  | int i =>
    obtain ⟨t, rfl⟩ := rx
    cases y with
    | non => cases ry; exact PySem.EqNone.eq_int_none (fin_bl I q (by simp))
    | int j => obtain ⟨t', rfl⟩ := ry; exact eq_int (fin_bl I q dec_int)
    | str j => obtain ⟨t', rfl⟩ := ry; exact PySem.EqMixed.eq_int_str (fin_bl I q (by simp))
    | _ => exact absurd (show false = true from hs) Bool.false_ne_true
  | str i =>
    obtain ⟨t, rfl⟩ := rx
    cases y with
    | non => cases ry; exact PySem.EqNone.eq_str_none (fin_bl I q (by simp))
    | bl j => cases ry; exact PySem.EqMixed.eq_str_bool (fin_bl I q (by simp))
    | int j => obtain ⟨t', rfl⟩ := ry; exact PySem.EqMixed.eq_str_int (fin_bl I q (by simp))
    | str j => obtain ⟨t', rfl⟩ := ry; exact eq_str (fin_bl I q dec_str)
    | _ => exact absurd (show false = true from hs) Bool.false_ne_true
  | byt i =>
    obtain ⟨t, rfl⟩ := rx
    cases y with
    | byt j => obtain ⟨t', rfl⟩ := ry; exact PySem.W.eq_bytes (fin_bl I q dec_byt)
    | _ => exact absurd (show false = true from hs) Bool.false_ne_true
  | _ => cases y <;> exact absurd (show false = true from hs) Bool.false_ne_true
theorem op_ne : OpR X (compareOp .NotEq) rNe := by
  intro pins s σ H x y v u Q I rx ry h
  obtain ⟨hs, q⟩ := h
  cases x with
  | non =>
    cases rx
    cases y with
    | non => cases ry; exact PySem.EqNone.ne_none_none (fin_bl I q (by simp))
    | bl j => cases ry; exact PySem.EqNone.ne_none_bool (fin_bl I q (by simp))
    | int j => obtain ⟨t', rfl⟩ := ry; exact PySem.EqNone.ne_none_int (fin_bl I q (by simp))
    | str j => obtain ⟨t', rfl⟩ := ry; exact PySem.EqNone.ne_none_str (fin_bl I q (by simp))
    | _ => exact absurd (show false = true from hs) Bool.false_ne_true
  | bl i =>
    cases rx
    cases y with
    | non => cases ry; exact PySem.EqNone.ne_bool_none (fin_bl I q (by simp))
    | bl j => cases ry; exact ne_bool (fin_bl I q (congrArg not dec_bl))
    | str j => obtain ⟨t', rfl⟩ := ry; exact PySem.EqMixed.ne_bool_str (fin_bl I q (by simp))
    | _ => exact absurd (show false = true from hs) Bool.false_ne_true
  | int i =>
    obtain ⟨t, rfl⟩ := rx
    cases y with
    | non => cases ry; exact PySem.EqNone.ne_int_none (fin_bl I q (by simp))
    | int j => obtain ⟨t', rfl⟩ := ry; exact ne_int (fin_bl I q (congrArg not dec_int))
    | str j => obtain ⟨t', rfl⟩ := ry; exact PySem.EqMixed.ne_int_str (fin_bl I q (by simp))
    | _ => exact absurd (show false = true from hs) Bool.false_ne_true
  | str i =>
    obtain ⟨t, rfl⟩ := rx
    cases y with
    | non => cases ry; exact PySem.EqNone.ne_str_none (fin_bl I q (by simp))
    | bl j => cases ry; exact PySem.EqMixed.ne_str_bool (fin_bl I q (by simp))
    | int j => obtain ⟨t', rfl⟩ := ry; exact PySem.EqMixed.ne_str_int (fin_bl I q (by simp))
    | str j => obtain ⟨t', rfl⟩ := ry; exact ne_str (fin_bl I q (congrArg not dec_str))
    | _ => exact absurd (show false = true from hs) Bool.false_ne_true
  | byt i =>
    obtain ⟨t, rfl⟩ := rx
    cases y with
    | byt j => obtain ⟨t', rfl⟩ := ry; exact PySem.W.ne_bytes (fin_bl I q (congrArg not dec_byt))
    | _ => exact absurd (show false = true from hs) Bool.false_ne_true
  | _ => cases y <;> exact absurd (show false = true from hs) Bool.false_ne_true

theorem op_lt : OpR X (compareOp .Lt) (rI0 fun i j => .bl (decide (i < j))) := opB0 fun _ _ _ _ _ _ _ q => lt_int q
theorem op_le : OpR X (compareOp .LtE) (rI0 fun i j => .bl (decide (i ≤ j))) := opB0 fun _ _ _ _ _ _ _ q => le_int q
theorem op_gt : OpR X (compareOp .Gt) (rI0 fun i j => .bl (decide (j < i))) := opB0 fun _ _ _ _ _ _ _ q => gt_int q
theorem op_ge : OpR X (compareOp .GtE) (rI0 fun i j => .bl (decide (j ≤ i))) := opB0 fun _ _ _ _ _ _ _ q => ge_int q
theorem op_lt_str : OpR X (compareOp .Lt) (fun x y H Q => ∃ i j, x = .str i ∧ y = .str j ∧ Q (.bl (decide (i.cps.toList < j.cps.toList))) H) := by
  intro pins s σ H x y v u Q I rx ry h
  obtain ⟨i, j, rfl, rfl, q⟩ := h
  obtain ⟨t, rfl⟩ := rx
  obtain ⟨t', rfl⟩ := ry
  exact lt_str (fin_bl I q rfl)
theorem op_notN : OpR X (compareOp .IsNot) (fun x y H Q => y = .non ∧ Q (.bl (!decide (x = .non))) H) := by
  intro pins s σ H x y v u Q I rx ry h
  obtain ⟨rfl, q⟩ := h
  cases ry
  refine isnot_none_gen (fin_bl I q ?_)
  cases x <;> first
    | (cases rx; rfl)
    | (obtain ⟨t, rfl⟩ := rx; rfl)

/-- two rules for one operation: by cases -/
theorem OpR.or {f : Value → Value → Sem Value} {r r' : R2} (h : OpR X f r) (h' : OpR X f r') : OpR X f (fun x y H Q => r x y H Q ∨ r' x y H Q) := by
  intro pins s σ H x y v u Q I rx ry q
  rcases q with q | q
  · exact h pins s σ H x y v u Q I rx ry q
  · exact h' pins s σ H x y v u Q I rx ry q

theorem nomark (b : Expr) {op : CmpOp} (h : op ≠ .In := by decide) (h2 : op ≠ .NotIn := by decide) : behindInMarks op b = false := by
  have e1 : (op == CmpOp.In) = false := by cases op <;> first | rfl | exact absurd rfl h
  have e2 : (op == CmpOp.NotIn) = false := by cases op <;> first | rfl | exact absurd rfl h2
  cases b <;> simp [behindInMarks, e1, e2]
/-- a comparison as a value; hm: nomark b, or (for in, not in) by with_unfolding_all rfl -/
theorem pe_cmpR {op : CmpOp} {r : R2} (ho : OpR X (compareOp op) r) (ha : PE X a ta) (hb : PE X b tb) (hm : behindInMarks op b = false) : PE X (.Compare a [op] [b] pos) (tOp r ta tb) := by
  intro pins s σ H Q I h
  exact wpAny_Compare1 (binT ha hb I h fun v u s2 x y H2 I2 rx ry q => ho pins s2 σ H2 x y v u Q I2 rx ry q) hm
/-- a reading of a value as a test -/
def tTest (t : TE) : TT := fun σ H Q => t σ H fun x H' => ∃ k, x = .bl k ∧ Q k H'
theorem pt_cmpR {op : CmpOp} {r : R2} (ho : OpR X (compareOp op) r) (ha : PE X a ta) (hb : PE X b tb) (hm : behindInMarks op b = false) : PT X (.Compare a [op] [b] pos) (tTest (tOp r ta tb)) := by
  intro pins s σ H Q I h
  refine wpAny_isTrue_Compare1 (thn (ha pins s σ H _ I h) fun v s1 ⟨x, H1, I1, r1, q1⟩ => thn (hb pins s1 σ H1 _ I1 q1) fun u s2 ⟨y, H2, I2, r2, q2⟩ =>
    thn (ho pins s2 σ H2 x y v u _ I2 r1 r2 q2) fun c s3 ⟨z, H3, I3, r3, k, e, q3⟩ => ?_) hm
  subst e
  cases r3
  exact wpAny_truthy_bool ⟨H3, I3, q3⟩
/-! ### truth -/
/-- a value's truth by the abstract heap -/
def TruV (K : PySem.W.Frag) (x : V) (H : Hp) (k : Bool) : Prop :=
  match x with
  | .non => k = false
  | .bl b => k = b
  | .int i => k = (i != 0)
  | .str y => y.length ≤ sizeLine ∧ k = ((y.length : Int) != 0)
  | .byt y => y.size ≤ sizeLine ∧ k = ((y.size : Int) != 0)
  | .ref p => (∃ xs, SqL K H p xs ∧ k = !xs.isEmpty) ∨ (∃ xs, SqT K H p xs ∧ k = !xs.isEmpty) ∨ ∃ kvs, H p = some (.dK kvs) ∧ k = !kvs.isEmpty
  | _ => False
theorem isEmpty_kv {κ : Type} {kvs : List (κ × V)} {vs : List (κ × Value)} (r : KV kvs vs) : (!vs.isEmpty) = !kvs.isEmpty := by
  cases r <;> rfl
theorem isEmpty_of {xs : List V} {its : List Value} (r : Vals xs its) : (!its.toArray.isEmpty) = !xs.isEmpty := by
  cases r <;> simp
theorem line63 : (sizeLine : Nat) < 2 ^ 63 := by rw [sizeLine_eq]; decide
theorem tru_ok : TruR X (fun x H Q => ∃ k, TruV X.K x H k ∧ Q k H) := by
  intro pins s σ H x v Q I rx h
  obtain ⟨k, e, q⟩ := h
  have hl := line63
  have hs : sizeLine = 16777216 := sizeLine_eq
  cases x with
  | non =>
    cases rx
    have e' : k = false := e
    subst e'
    exact truthy_none ⟨H, I, q⟩
  | bl b =>
    cases rx
    have e' : k = b := e
    subst e'
    exact wpAny_truthy_bool ⟨H, I, q⟩
  | int i =>
    obtain ⟨t, rfl⟩ := rx
    have e' : k = (i != 0) := e
    subst e'
    exact PySem.P.truthy_int ⟨H, I, q⟩
  | str y =>
    obtain ⟨t, rfl⟩ := rx
    obtain ⟨hy, e'⟩ : y.length ≤ sizeLine ∧ k = ((y.length : Int) != 0) := e
    subst e'
    exact PySem.P.truthy_str (by omega) ⟨H, I.tok _, q⟩
  | byt y =>
    obtain ⟨t, rfl⟩ := rx
    obtain ⟨hy, e'⟩ : y.size ≤ sizeLine ∧ k = ((y.size : Int) != 0) := e
    subst e'
    exact PySem.W.truthy_bytes (by omega) ⟨H, I.tok _, q⟩
  | ref p =>
    cases rx
    have e' : (∃ xs, SqL X.K H p xs ∧ k = !xs.isEmpty) ∨ (∃ xs, SqT X.K H p xs ∧ k = !xs.isEmpty) ∨ ∃ kvs, H p = some (.dK kvs) ∧ k = !kvs.isEmpty := e
    rcases e' with ⟨xs, hx, e'⟩ | ⟨xs, hx, e'⟩ | ⟨kvs, hx, e'⟩
    · subst e'
      obtain ⟨its, r, pl, hz⟩ := I.list hx
      have hlen := r.length
      exact wpAny_truthy_list pl.isList (by simp only [List.size_toArray]; omega) ⟨H, I.tok _, by rw [isEmpty_of r]; exact q⟩
    · subst e'
      obtain ⟨its, r, pl, hz⟩ := I.tuple hx
      have hlen := r.length
      exact truthy_tuple pl (by simp only [List.size_toArray]; omega) ⟨H, I.tok _, by rw [isEmpty_of r]; exact q⟩
    · subst e'
      obtain ⟨hz, hS, vs, r, m⟩ : kvs.length ≤ sizeLine ∧ (p == sysModules) = false ∧ ∃ vs, KV kvs vs ∧ s.heap.DictOf (mixKind X.prog X.w) p vs := I.hok p _ hx
      have hlen : kvs.length = vs.length := Paired.length r
      exact wpAny_truthy_dict hS m (by omega) ⟨H, I.tok _, by rw [isEmpty_kv r]; exact q⟩
  | _ => exact (show False from e).elim
/-- any expression whose test is its value's truth (a name, a call, a subscript, a field ..: he by fun _ => rfl) -/
theorem pt_truth (ha : PE X a ta) (he : ∀ whole, isTrue a X.env whole = (do let v ← whole; standAt a.pos; holding [v] (truthy v))) :
    PT X a (fun σ H Q => ta σ H fun x H' => ∃ k, TruV X.K x H' k ∧ Q k H') := by
  intro pins s σ H Q I h
  exact isTrue_plain (thn (ha pins s σ H _ I h) fun v s1 ⟨x, H1, I1, r1, q1⟩ => tru_ok pins s1 σ H1 x v Q I1 r1 q1) (he _)

/-! ### strs and bytes -/
theorem op_add_str : OpR X (binaryOp .Add) (fun x y H Q => ∃ i j, x = .str i ∧ y = .str j ∧ i.length + j.length ≤ sizeLine ∧ Q (.str (i ++ j)) H) := by
  intro pins s σ H x y v u Q I rx ry h
  obtain ⟨i, j, rfl, rfl, hz, q⟩ := h
  obtain ⟨t, rfl⟩ := rx
  obtain ⟨t', rfl⟩ := ry
  exact add_str (fun t' tk => ⟨.str (i ++ j), H, I.tok _, ⟨_, rfl⟩, q⟩) hz
/-! ### scalar builtins, by CallR -/
theorem vals1 {x : V} {us : List Value} (r : Vals [x] us) : ∃ u, us = [u] ∧ RelV x u := by
  cases r with
  | cons r1 r2 => cases r2; exact ⟨_, rfl, r1⟩
theorem vals2 {x y : V} {us : List Value} (r : Vals [x, y] us) : ∃ u w', us = [u, w'] ∧ RelV x u ∧ RelV y w' := by
  cases r with
  | cons r1 r2 =>
    cases r2 with
    | cons r3 r4 => cases r4; exact ⟨_, _, rfl, r1, r3⟩
theorem call_max2 (hc : X.calm = true) : CallR X (.builtin "max") (fun xs H Q => ∃ i j, xs = [.int i, .int j] ∧ Q (.int (if j > i then j else i)) H) := by
  intro pins s σ H xs us Q I r h
  obtain ⟨i, j, rfl, q⟩ := h
  obtain ⟨u, w', rfl, ⟨t, rfl⟩, ⟨t', rfl⟩⟩ := vals2 r
  refine max_two_ints (I.ok.hd hc) fun h' tk k => ⟨_, H, I.kept k, ?_, q⟩
  by_cases hj : j > i
  · rw [if_pos hj, if_pos hj]; exact ⟨_, rfl⟩
  · rw [if_neg hj, if_neg hj]; exact ⟨_, rfl⟩
/-- len of a str, a bytes, a list, a tuple -/
def LenV (K : PySem.W.Frag) (x : V) (H : Hp) (n : Nat) : Prop :=
  match x with
  | .str y => y.length ≤ sizeLine ∧ n = y.length
  | .byt y => y.size ≤ sizeLine ∧ n = y.size
  | .ref p => (∃ xs, SqL K H p xs ∧ n = xs.length) ∨ ∃ xs, SqT K H p xs ∧ n = xs.length
  | _ => False
theorem call_len : CallR X (.builtin "len") (fun xs H Q => ∃ x n, xs = [x] ∧ LenV X.K x H n ∧ Q (.int n) H) := by
  intro pins s σ H xs us Q I r h
  obtain ⟨x, n, rfl, e, q⟩ := h
  obtain ⟨u, rfl, rx⟩ := vals1 r
  have hl := line63
  have hs : sizeLine = 16777216 := sizeLine_eq
  cases x with
  | str y =>
    obtain ⟨t, rfl⟩ := rx
    obtain ⟨hy, e'⟩ : y.length ≤ sizeLine ∧ n = y.length := e
    subst e'
    exact len_str (by omega) ⟨.int _, H, I.tok _, ⟨_, rfl⟩, q⟩
  | byt y =>
    obtain ⟨t, rfl⟩ := rx
    obtain ⟨hy, e'⟩ : y.size ≤ sizeLine ∧ n = y.size := e
    subst e'
    exact PySem.W.len_bytes (by omega) ⟨.int _, H, I.tok _, ⟨_, rfl⟩, q⟩
  | ref p =>
    cases rx
    have e' : (∃ xs, SqL X.K H p xs ∧ n = xs.length) ∨ ∃ xs, SqT X.K H p xs ∧ n = xs.length := e
    rcases e' with ⟨xs, hx, e'⟩ | ⟨xs, hx, e'⟩
    · subst e'
      obtain ⟨its, r', pl, hz⟩ := I.list hx
      have hlen := r'.length
      exact Calls.call_len_list pl.isList (by simp only [List.size_toArray]; omega) ⟨.int xs.length, H, I.tok _, ⟨_, by simp only [List.size_toArray]; rw [hlen]⟩, q⟩
    · subst e'
      obtain ⟨its, r', pl, hz⟩ := I.tuple hx
      have hlen := r'.length
      exact len_tuple pl (by simp only [List.size_toArray]; omega) ⟨.int xs.length, H, I.tok _, ⟨_, by simp only [List.size_toArray]; rw [hlen]⟩, q⟩
  | _ => exact (show False from e).elim
end
end L2

namespace L2
open PySem PySem.Spec PyProof.Rows

/-! ### an instance, its attributes a map -/
structure ObjM (h : Heap) (x dx C : Addr) (mA : Str → Option Value) : Prop where
  obj : h.get? x = some (PySem.W.instObj C dx)
  ns : h.Ns1 dx mA
  ne : dx ≠ x

theorem lookIn_ns {h : Heap} {dx : Addr} {mA : Str → Option Value} (n : h.Ns1 dx mA) : ∃ od, h.get? dx = some od ∧ ∀ name, PySem.W.lookIn name od = some (mA name) := by
  obtain ⟨o, es, ep, ho, hd, hk, _, hm⟩ := n
  refine ⟨o, ho, fun name => ?_⟩
  have e := hm name
  unfold nsFind findBy at e
  rw [← Array.find?_toList] at e
  unfold PySem.W.lookIn
  rw [hd]
  dsimp only
  split
  · rename_i y q
    rw [q] at e
    exact congrArg some e
  · rename_i q
    rw [q] at e
    have a : es.toList.any (·.refKey) = false := by
      rw [List.any_eq_false]
      intro y hy
      obtain ⟨z, t, hkey⟩ := hk y (Array.mem_toList_iff.mp hy)
      simp [DictEntry.refKey, hkey]
    have a' : ¬ es.toList.any (·.refKey) = true := by rw [a]; exact Bool.false_ne_true
    rw [if_neg a']
    exact congrArg some e

theorem ObjM.look {h : Heap} {x dx C : Addr} {mA : Str → Option Value} (I : ObjM h x dx C mA) : ∃ od, PySem.W.InstAt h x (PySem.W.instObj C dx) C (some od) ∧ ∀ name, PySem.W.lookIn name od = some (mA name) :=
  let ⟨od, ho, hl⟩ := lookIn_ns I.ns
  ⟨od, ⟨I.obj, rfl, rfl, ho⟩, hl⟩

section
variable {prog : Program} {w : World} {A : Around} {E : Value → Shared → Prop} {s : Shared} {K : PySem.W.Frag} {x dx C f : Addr} {mA : Str → Option Value} {name : Str} {v : Value}

theorem get_meth {pl : Sem Bool} {Q : Value × List Value → Shared → Prop} (X : K.In s.heap) (I : ObjM s.heap x dx C mA) (hg : PySem.W.plainGet K C name = true)
    (hf : PySem.W.findIn K (.ref C) name = some (some (.ref f))) (ht : PySem.W.isFn K (.ref f) = true) (hv : mA name = none) (h : Q (.ref f, [.ref x]) s) :
    wpAny (model prog w) A (getMethod (.ref x) name pl) Q E s := by
  obtain ⟨od, J, hl⟩ := I.look
  exact PySem.W.method_fn X J (PySem.W.plainGet_of hg).1 (PySem.W.plainGet_of hg).2 hf (beq_iff_eq.mp ht) (by show (PySem.W.lookIn name od).map (·.isSome) = some false; rw [hl, hv]; rfl) h

end

/-! ### the attributes as a list of pairs -/
theorem RelO.none_of {o : Option Value} (r : RelO none o) : o = none := by
  cases o with
  | none => rfl
  | some u => exact (show False from r).elim
section
variable {P : Program} {w : World} {H H' : Hp} {h h' : Heap} {a C dx : Addr} {fs fs' : List (Str × V)}
theorem ins_get (hok : HOk P w H h) (e : H a = some (.ins C dx fs)) : ∃ mA, ObjM h a dx C mA ∧ (∀ f, RelO (fs.lookup f) (mA f)) ∧ PySem.Within mA (fs.map (·.1)) ∧ fs.length ≤ 1000 ∧ H dx = some (.own a) := by
  obtain ⟨d, z, ne, ob, mA, n, r, q⟩ := (show ObjOk P w H h a (.ins C dx fs) from hok a _ e)
  exact ⟨mA, ⟨ob, n, ne⟩, r, q, z, d⟩
end

/-! ### what of the text a class must have -/
structure Cls (K : PySem.W.Frag) (C : Addr) : Prop where
  pg : PySem.W.plainGet K C Str.empty = true
  hd : PySem.W.hasDictIn K C = true
  po : PySem.W.plainOver K C = true
  sa : PySem.W.findIn K (.ref C) "__setattr__" = some (some (.builtin "object.__setattr__"))
theorem Cls.get {K : PySem.W.Frag} {C : Addr} (c : Cls K C) (f : Str) : PySem.W.plainGet K C f = true := c.pg
/-- no class of it has the name -/
def NoAttr (K : PySem.W.Frag) (C : Addr) (f : Str) : Prop := PySem.W.findIn K (.ref C) f = some none
/-- a constant of the class -/
structure Con (K : PySem.W.Frag) (C : Addr) (f : Str) (v : V) (u : Value) : Prop where
  at_ : PySem.W.findIn K (.ref C) f = some (some u)
  rel : RelV v u
  get : PySem.W.specialIn K u "__get__" = some none
  cp : PySem.W.copiedNames.contains f = false
/-- a method: a plain def of the class or of one above it -/
structure Meth (K : PySem.W.Frag) (C : Addr) (m : Str) (f : Addr) : Prop where
  at_ : PySem.W.findIn K (.ref C) m = some (some (.ref f))
  fn : PySem.W.isFn K (.ref f) = true
  kp : PySem.W.keepIn K (.ref f) = true

section
variable {X : Cx} {pins : List (Addr × Obj)} {σ : St} {H : Hp} {s : Shared} {a C dx : Addr} {fs : List (Str × V)} {f : Str} {v : V} {A : Around} {E : Value → Shared → Prop}

theorem getmeth_ok {m : Str} {g : Addr} {pl : Sem Bool} {Q : Value × List Value → Shared → Prop} (I : Inv X pins σ H s) (e : H a = some (.ins C dx fs)) (c : Cls X.K C) (k : Meth X.K C m g) (l : fs.lookup m = none)
    (h : Q (.ref g, [.ref a]) s) : wpAny (model X.prog X.w) A (getMethod (.ref a) m pl) Q E s := by
  obtain ⟨mA, O, r, _, _, _⟩ := ins_get I.hok e
  have hn : mA m = none := RelO.none_of (by rw [← l]; exact r m)
  exact get_meth I.kIn O (c.get m) k.at_ k.fn hn h

end

/-! ### readings and rules -/
section
variable {X : Cx} {o e value : Expr} {f : Str} {pos pos' tpos : Pos} {ta tv : TE}
end

/-! ### isinstance -/
section
variable {X : Cx} {pins : List (Addr × Obj)} {σ : St} {H : Hp} {s : Shared} {A : Around} {E : Value → Shared → Prop} {Q : Value → Shared → Prop} {c : Value} {b : Bool}
/-- the type of a value, as the fragment's deciders take it; for an instance its class -/
inductive TyOf (K : PySem.W.Frag) (H : Hp) : V → Value → Prop where
  | non : TyOf K H .non (.type "NoneType")
  | bl (x : Bool) : TyOf K H (.bl x) (.type "bool")
  | int (i : Int) : TyOf K H (.int i) (.type "int")
  | str (x : Str) : TyOf K H (.str x) (.type "str")
  | flt (x : UInt64) : TyOf K H (.flt x) (.type "float")
  | lst {a : Addr} {xs : List V} (e : H a = some (.lst xs)) : TyOf K H (.ref a) (.type "list")
  | frz {a : Addr} {o : Obj} {xs : List V} (e : H a = some (.frz o (.lst xs))) : TyOf K H (.ref a) (.type "list")
  | tup {a : Addr} {xs : List V} (e : H a = some (.tup xs)) : TyOf K H (.ref a) (.type "tuple")
  | dK {a : Addr} {kvs : List (Key × V)} (e : H a = some (.dK kvs)) : TyOf K H (.ref a) (.type "dict")
  | dT {a : Addr} {kvs : List (List Key × V)} (e : H a = some (.dT kvs)) : TyOf K H (.ref a) (.type "dict")
  | ins {a C dx : Addr} {fs : List (Str × V)} (e : H a = some (.ins C dx fs)) (cl : Cls K C) (ha : PySem.W.findIn K (.ref C) "__class__" = some (some (.builtin "object.__class__")))
      (hn : PySem.W.specialIn K (.builtin "object.__class__") "__get__" = some (some (.builtin "getset_descriptor.__get__"))) (htk : PySem.W.takesIn K (.builtin "object.__class__") = some true)
      (hm : PySem.W.mroIn K C (.type "object") = some true) : TyOf K H (.ref a) (.ref C)
/-- isinstance(x, c) for one class c, a built-in or an own one: kitOne's answer -/
theorem isinst_ok {x : V} {u t : Value} (I : Inv X pins σ H s) (rx : RelV x u) (ty : TyOf X.K H x t) (e : PySem.W.kitOne X.K t c = some b) (h : ∀ tk, Q (.bool b) { s with toks := tk }) :
    wpAny (model X.prog X.w) A (call (.builtin "isinstance") [u, c]) Q E s := by
  cases ty with
  | non => cases (show u = Value.none from rx); exact PySem.W.kia_one PySem.W.kitx_none I.kIn True.intro e (fun z => nomatch z) h
  | bl y => cases (show u = Value.bool y from rx); exact PySem.W.kia_one PySem.W.kitx_bool I.kIn True.intro e (fun z => nomatch z) h
  | int i => obtain ⟨t, q⟩ := (show ∃ t, u = Value.int i t from rx); cases q; exact PySem.W.kia_one PySem.W.kitx_int I.kIn True.intro e (fun z => nomatch z) h
  | str y => obtain ⟨t, q⟩ := (show ∃ t, u = Value.str y t from rx); cases q; exact PySem.W.kia_one PySem.W.kitx_str I.kIn True.intro e (fun z => nomatch z) h
  | flt y => obtain ⟨t, q⟩ := (show ∃ t, u = Value.float y t from rx); cases q; exact PySem.W.kia_one PySem.W.kitx_float I.kIn True.intro e (fun z => nomatch z) h
  | @lst a xs ea =>
    cases (show u = Value.ref a from rx)
    obtain ⟨_, _, n, _, h1⟩ := (show ObjOk X.prog X.w H s.heap a (.lst xs) from I.hok a _ ea)
    exact PySem.W.kia_one PySem.W.kitx_list I.kIn ⟨_, h1, rfl⟩ e (fun z => nomatch z) h
  | @frz a ob xs ea =>
    cases (show u = Value.ref a from rx)
    obtain ⟨_, _, _, n, _, h1⟩ := (show ObjOk X.prog X.w H s.heap a (.frz ob (.lst xs)) from I.hok a _ ea)
    exact PySem.W.kia_one PySem.W.kitx_list I.kIn ⟨_, h1, rfl⟩ e (fun z => nomatch z) h
  | @tup a xs ea =>
    cases (show u = Value.ref a from rx)
    obtain ⟨_, _, _, p⟩ := (show ObjOk X.prog X.w H s.heap a (.tup xs) from I.hok a _ ea)
    obtain ⟨o, h1, h2, _⟩ := p
    exact PySem.W.kia_one PySem.W.kitx_tuple I.kIn ⟨o, h1, h2⟩ e (fun z => nomatch z) h
  | @dK a kvs ea =>
    cases (show u = Value.ref a from rx)
    obtain ⟨_, _, vs, _, p⟩ := (show ObjOk X.prog X.w H s.heap a (.dK kvs) from I.hok a _ ea)
    obtain ⟨o, es, ep, h1, h2, _⟩ := p
    exact PySem.W.kia_one PySem.W.kitx_dict I.kIn ⟨o, h1, h2.1⟩ e (fun z => nomatch z) h
  | @dT a kvs ea => exact (show False from I.hok a _ ea).elim
  | @ins a C dx fs ea cl ha hn htk hm =>
    cases (show u = Value.ref a from rx)
    obtain ⟨mA, O, _⟩ := ins_get I.hok ea
    obtain ⟨od, J, _⟩ := O.look
    exact PySem.W.kia_one (PySem.W.kitx_own (cl.get _) cl.hd ha hn htk hm) I.kIn J e (fun z => nomatch z) h
end
end L2

namespace L2
open PySem PySem.Spec PyProof.Rows

/-! ### room -/
structure Room (k : Nat) (A : Around) : Prop where
  hd : A.handled = none
  dp : A.depth + 3 * k + 5 < recursionLimit
  un : A.units + 16 * k + 200 < cLine
theorem Room.mono {j k : Nat} {A : Around} (r : Room k A) (h : j ≤ k) : Room j A := ⟨r.hd, by have := r.dp; omega, by have := r.un; omega⟩
theorem Room.deeper {k : Nat} {A : Around} (r : Room (k + 1) A) (env : Env) : Room k (A.deeper env) :=
  ⟨r.hd, by have := r.dp; show A.depth + 1 + 3 * k + 5 < _; omega, by have := r.un; show A.units + 3 + 16 * k + 200 < _; omega⟩
theorem Room.in1 {k : Nat} {A : Around} (r : Room (k + 1) A) : Room k A.in1 :=
  ⟨r.hd, by have := r.dp; show A.depth + 3 * k + 5 < _; omega, by have := r.un; show A.units + 1 + 16 * k + 200 < _; omega⟩
theorem Room.depth {k : Nat} {A : Around} (r : Room k A) : A.depth < recursionLimit := by have := r.dp; omega
theorem Room.units {k : Nat} {A : Around} (r : Room k A) : A.units + 64 < cLine := by have := r.un; omega
/-! ### argument lists and displays -/
def tNil : TA := fun _ H Q => Q [] H
def tCons (ta : TE) (tr : TA) : TA := fun σ H Q => ta σ H fun x H1 => tr σ H1 fun xs H2 => Q (x :: xs) H2
section
variable {X : Cx} {e : Expr} {es : List Expr} {te : TE} {t : TA} {pos : Pos}
theorem pa_nil : PA X [] tNil := fun _ _ _ _ H Q I h => Calls.spliced_nil ⟨[], H, I, .nil, h⟩
theorem pa_cons (ha : PE X e te) (hr : PA X es t) (hs : starEach (e :: es) X.env = (false, eval e X.env) :: starEach es X.env := by rfl) : PA X (e :: es) (tCons te t) := by
  intro pos pins s σ H Q I h
  rw [hs]
  show wpAny _ _ (spliced ((false, eval e X.env) :: backTo pos (starEach es X.env))) _ _ s
  refine Calls.spliced_cons (thn (ha pins s σ H _ I h) fun u s1 ⟨x, H1, I1, r1, q1⟩ => ?_)
  exact thn (hr pos pins s1 σ H1 _ I1 q1) fun us s2 ⟨xs, H2, I2, r2, q2⟩ => ⟨x :: xs, H2, I2, .cons r1 r2, q2⟩

/-- a tuple, a list of written items -/
def tTup (t : TA) : TE := fun σ H Q => t σ H fun xs H1 => xs.length ≤ sizeLine ∧ ∀ p, H1 p = none → Q (.ref p) (upd H1 p (.tup xs))
def tLst (t : TA) : TE := fun σ H Q => t σ H fun xs H1 => xs.length ≤ sizeLine ∧ ∀ p, H1 p = none → Q (.ref p) (upd H1 p (.lst xs))
theorem pe_tup {x1} (h : PA X es t) : PE X (.Tuple es x1 pos) (tTup t) := by
  intro pins s σ H Q I hq
  refine wpAny_Tuple_spliced (thn (h pos pins s σ H _ I hq) fun us s1 ⟨xs, H1, I1, r, z, q⟩ => ⟨by rw [← r.length]; exact z, ?_⟩)
  have hf : H1 s1.heap.objs.size = none := I1.hok.fresh (Nat.le_refl _)
  refine ⟨.ref s1.heap.objs.size, upd H1 s1.heap.objs.size (.tup xs), I1.laid (t' := s1.toks) (fun b u e => Heap.get?_push_of_some _ e) (Nat.le_refl _) ?_, rfl, q _ hf⟩
  exact ⟨z, us, r, ⟨_, Heap.get?_push_size _ rfl, rfl, _, rfl⟩⟩
theorem pe_lst (h : PA X es t) : PE X (.List es pos) (tLst t) := by
  intro pins s σ H Q I hq
  refine wpAny_List_spliced (thn (h pos pins s σ H _ I hq) fun us s1 ⟨xs, H1, I1, r, z, q⟩ => ⟨by rw [← r.length]; exact z, ?_⟩)
  have hf : H1 s1.heap.objs.size = none := I1.hok.fresh (Nat.le_refl _)
  refine ⟨.ref s1.heap.objs.size, upd H1 s1.heap.objs.size (.lst xs), I1.laid (t' := s1.toks) (fun b u e => Heap.get?_push_of_some _ e) (Nat.le_refl _) ?_, rfl, q _ hf⟩
  exact ⟨z, us, 0, r, Heap.get?_push_size _ rfl⟩
end

/-! ### what a def promises -/
/-- a def's promise: the bound arguments in the parameters' order, the heap, the wanted end, the wanted exception -/
abbrev Sp := List V → Hp → VK → XK → Prop
/-- how an exception lies behind a call (file 08 gives it): the callers' frames, abstract heap and state ahead of the call, the wish, the exception, the state -/
abbrev CXT := List Env → Hp → Shared → XK → Value → Shared → Prop

/-- the state at a call -/
structure Env0 (P : Program) (w : World) (K : PySem.W.Frag) (mg : Str → Option Value) (base : Heap) (A : Around) (outer : List Env) (s : Shared) (H : Hp) : Prop where
  frames : A.frames = some outer
  mod : Mod K mg base
  bs : ∀ b o, base.get? b = some o → s.heap.get? b = some o ∧ H b = none
  bsz : base.objs.size ≤ s.heap.objs.size
  funs : s.heap.FunFrames base outer
  frf : ∀ b ∈ frs outer, H b = none
  hok : HOk P w H s.heap
  bare : AllBare s.gens
/-- a call's end -/
def CE (outer : List Env) (P : Program) (w : World) (H : Hp) (s : Shared) (Q : VK) (u : Value) (s' : Shared) : Prop :=
  ∃ v H', s'.os = s.os ∧ AllBare s'.gens ∧ Un (frs outer) [] H H' s.heap s'.heap ∧ HOk P w H' s'.heap ∧ RelV v u ∧ Q v H'
def CR (CX : CXT) (outer : List Env) (P : Program) (w : World) (H : Hp) (s : Shared) (Q : VK) (E : XK) (r : Result) (s' : Shared) : Prop :=
  match r with
  | .ok (.ret u) => CE outer P w H s Q u s'
  | .ok _ => False
  | .error e => CX outer H s E e s'
structure FnOk (P : Program) (w : World) (K : PySem.W.Frag) (mg : Str → Option Value) (base : Heap) (CX : CXT) (k : Nat) (f : Addr) (fd : FuncData) (ps : List Str) (sp : Sp) : Prop where
  len : ∀ vs H Q E, sp vs H Q E → vs.length = ps.length
  run : ∀ (A : Around) (outer : List Env) (s : Shared) (H : Hp) (args : Args) (us : List Value) (vs : List V) (Q : VK) (E : XK), Room k A → Env0 P w K mg base A outer s H → BindsTo s fd args (ps.zip us) → Vals vs us → sp vs H Q E →
    codeAny (model P w) A (.call (.ref f) args) (CR CX outer P w H s Q E) s
theorem FnOk.mono {P : Program} {w : World} {K : PySem.W.Frag} {mg : Str → Option Value} {base : Heap} {CX : CXT} {j k : Nat} {f : Addr} {fd : FuncData} {ps : List Str} {sp : Sp} (F : FnOk P w K mg base CX j f fd ps sp) (h : j ≤ k) :
    FnOk P w K mg base CX k f fd ps sp := ⟨F.len, fun A outer s H args us vs Q E hr => F.run A outer s H args us vs Q E (hr.mono h)⟩
theorem Env0.in1 {P : Program} {w : World} {K : PySem.W.Frag} {mg : Str → Option Value} {base : Heap} {A : Around} {outer : List Env} {s : Shared} {H : Hp} (e : Env0 P w K mg base A outer s H) :
    Env0 P w K mg base A.in1 outer s H := ⟨e.frames, e.mod, e.bs, e.bsz, e.funs, e.frf, e.hok, e.bare⟩

section
variable {X : Cx} {pins : List (Addr × Obj)} {σ : St} {H : Hp} {s s' : Shared}
/-- from a body: what a callee wants -/
theorem Inv.env0 (I : Inv X pins σ H s) : Env0 X.prog X.w X.K X.mg X.base X.A X.stack s H :=
  ⟨I.ok.frames, I.ok.mod, I.bs, Nat.le_trans I.ok.bsz I.sz, I.stack, I.stkFree, I.hok, I.bare⟩
/-- behind a call -/
theorem Inv.after {Q : VK} {u : Value} (I : Inv X pins σ H s) (h : CE X.stack X.prog X.w H s Q u s') : EP X pins σ Q u s' := by
  obtain ⟨v, H', os, bare, un, hok, r, q⟩ := h
  obtain ⟨hh, g, d, t, os'⟩ := s'
  obtain rfl : os' = s.os := os
  exact ⟨v, H', I.call (h' := hh) (g' := g) (d' := d) (t' := t) (ch := []) un hok bare (fun b z => absurd z (by simp)), r, q⟩
end

/-! ### calls -/
/-- f(..): the written arguments, then the defaults dvs; E: what is wanted of an exception -/
def tCall (sp : Sp) (dvs : List V) (E : XK) (t : TA) : TE := fun σ H Q => t σ H fun vs H1 => sp (vs ++ dvs) H1 Q E
/-- o.m(..) of an instance of the class at C -/
def tMeth (C : Addr) (m : Str) (sp : Sp) (dvs : List V) (E : XK) (ta : TE) (t : TA) : TE := fun σ H Q => ta σ H fun x H1 => ∃ a dx fs, x = .ref a ∧ H1 a = some (.ins C dx fs) ∧ fs.lookup m = none ∧
  t σ H1 fun vs H2 => sp (x :: (vs ++ dvs)) H2 Q E
/-- how the parameters are bound: us the positional arguments, kw the keywords' values by name, ds the defaults that fill up -/
def Binds (K : PySem.W.Frag) (fd : FuncData) (ps : List Str) (ds : List Value) : Prop :=
  ∀ (s : Shared) (us : List Value), K.In s.heap → (us ++ ds).length = ps.length → BindsTo s fd ⟨us, []⟩ (ps.zip (us ++ ds))
/-- every parameter is given -/
theorem Binds.all {K : PySem.W.Frag} {fd : FuncData} {ps : List Str} (h : ∀ us : List Value, us.length = ps.length → bindArgs fd ⟨us, []⟩ = pure (ps.zip us)) : Binds K fd ps [] := fun s us _ hl => by
  rw [List.append_nil] at hl ⊢
  exact .of_eq (h us hl)

/-- an exception of a callee reaches what this body wants of exceptions -/
def Passes (CX : CXT) (X : Cx) (E : XK) : Prop := ∀ (pins : List (Addr × Obj)) (σ : St) (H : Hp) (s : Shared) (e : Value) (s' : Shared), Inv X pins σ H s → CX X.stack H s E e s' → X.xe e s'

section
variable {X : Cx} {CX : CXT} {k : Nat} {f C : Addr} {fd : FuncData} {ps : List Str} {sp : Sp} {dvs : List V} {ds : List Value} {E : XK} {x m : Str} {p pos apos : Pos} {e o : Expr} {es : List Expr} {ta : TE} {t : TA}

/-- the callee runs -/
theorem run_fn {pins : List (Addr × Obj)} {σ : St} {H : Hp} {s : Shared} {Q : VK} {us : List Value} {vs : List V} (F : FnOk X.prog X.w X.K X.mg X.base CX k f fd ps sp) (hr : Room k X.A) (hb : Binds X.K fd ps ds) (hd : Vals dvs ds) (hx : Passes CX X E)
    (I : Inv X pins σ H s) (r : Vals vs us) (h : sp (vs ++ dvs) H Q E) : wpAny (model X.prog X.w) X.A (call (.ref f) us) (EP X pins σ Q) X.xe s := by
  have r2 : Vals (vs ++ dvs) (us ++ ds) := r.append hd
  have hl : (us ++ ds).length = ps.length := by rw [← r2.length]; exact F.len _ _ _ _ h
  refine wpAny_call (codeAny_mono (F.run X.A X.stack s H ⟨us, []⟩ (us ++ ds) (vs ++ dvs) Q E hr I.env0 (hb s us I.kIn hl) r2 h) fun r s' hq => ?_)
  cases r with
  | error e => exact hx pins σ H s e s' I hq
  | ok fl =>
    cases fl with
    | ret u => exact I.after hq
    | next => exact False.elim hq
    | brk => exact False.elim hq
    | cont => exact False.elim hq

theorem pe_call (F : FnOk X.prog X.w X.K X.mg X.base CX k f fd ps sp) (hr : Room k X.A) (hg : Gl X x) (hm : X.mg x = some (.ref f)) (hk : PySem.W.keepIn X.K (.ref f) = true) (hb : Binds X.K fd ps ds) (hd : Vals dvs ds) (hx : Passes CX X E)
    (ha : PA X (e :: es) t) (hdb : (x == ("__debug__" : Str)) = false := by decide) (he : starEach (e :: es) X.env = (false, eval e X.env) :: starEach es X.env := by rfl) (hpl : (backTo pos (starEach es X.env)).any (·.1) = false := by rfl) :
    PE X (.Call (.Name x p) (e :: es) [] pos) (tCall sp dvs E t) := by
  intro pins s σ H Q I h
  refine wpAny_Call_Name_kw (ld_glob I hg hm ?_ hdb)
  refine PySem.W.callWith_K (h₀ := X.base) I.ok.mod.kin hk (thn (ha pos pins s σ H _ I h) fun us s1 ⟨vs, H1, I1, r, q⟩ => ⟨I1.kIn, ?_⟩) he hpl
  exact run_fn F hr hb hd hx I1 r q
/-- o.m(e, ..) -/
theorem pe_meth {pl : Sem Bool} (he : PE X o ta) (c : Cls X.K C) (hm : Meth X.K C m f) (F : FnOk X.prog X.w X.K X.mg X.base CX k f fd ps sp) (hr : Room k X.A) (hb : Binds X.K fd ps ds) (hd : Vals dvs ds) (hx : Passes CX X E) (ha : PA X (e :: es) t)
    (hst : starEach (e :: es) X.env = (false, eval e X.env) :: starEach es X.env := by rfl) (hpl : (backTo pos (starEach es X.env)).any (·.1) = false := by rfl)
    (ht : eval (.Call (.Attribute o m apos) (e :: es) [] pos) X.env = (do
      let ov ← eval o X.env
      standAt apos.atName
      let (f, first) ← holding [ov] (getMethod ov m pl)
      callWith pos f first (backTo pos (starEach (e :: es) X.env)) (backToKw pos (keywordEach [] X.env))) := by rfl) :
    PE X (.Call (.Attribute o m apos) (e :: es) [] pos) (tMeth C m sp dvs E ta t) := by
  intro pins s σ H Q I h
  refine PySem.W.methodCall_KW (pl := pl) (thn (he pins s σ H _ I h) fun u s1 ⟨x, H1, I1, rx, a, dx, fs, ex, ea, l, q⟩ => ?_) ht
  subst ex
  obtain rfl : u = Value.ref a := rx
  refine getmeth_ok I1 ea c hm l ?_
  refine PySem.W.callWith_K (first := [.ref a]) (h₀ := X.base) I.ok.mod.kin hm.kp (thn (ha pos pins s1 σ H1 _ I1 q) fun us s2 ⟨vs, H2, I2, r, q2⟩ => ⟨I2.kIn, ?_⟩) hst hpl
  exact run_fn (us := .ref a :: us) (vs := .ref a :: vs) F hr hb hd hx I2 (.cons rfl r) q2
/-- what a class must have to be made -/
structure Mk (K : PySem.W.Frag) (C f : Addr) : Prop where
  makes : PySem.W.makesIn K C = true
  init : PySem.W.findIn K (.ref C) "__init__" = some (some (.ref f))
  fn : PySem.W.isFn K (.ref f) = true
  kp : PySem.W.keepIn K (.ref C) = true

end

/-! ### keywords -/
section
variable {X : Cx} {CX : CXT} {k : Nat} {f C : Addr} {fd : FuncData} {ps ks : List Str} {sp : Sp} {E : XK} {x m : Str} {p pos apos kpos : Pos} {e o : Expr} {es : List Expr} {kws : List Keyword} {te ta : TE} {t tk : TA} {nm : Option Str}
/-- how a call with keywords binds: g puts the positional values us and the keywords' values ws (names ks) in the parameters' order, defaults among them -/
structure KBinds (K : PySem.W.Frag) (fd : FuncData) (ps ks : List Str) (g : List Value → List Value → List Value) (gV : List V → List V → List V) : Prop where
  to : ∀ (s : Shared) (us ws : List Value), K.In s.heap → (g us ws).length = ps.length → BindsTo s fd ⟨us, ks.zip ws⟩ (ps.zip (g us ws))
  rel : ∀ {vs : List V} {us : List Value} {zs : List V} {ws : List Value}, Vals vs us → Vals zs ws → Vals (gV vs zs) (g us ws)
variable {g : List Value → List Value → List Value} {gV : List V → List V → List V}
end

/-! ### a def's body keeps its promise -/
/-- names: the parameters first -/
structure FnScope (N P : List Str) (sc : Scope) : Prop where
  kind : sc.kind = .function
  co : sc.isCoroutine = false
  gen : sc.isGenerator = false
  nd : N.Nodup
  pre : N.take P.length = P
  par : ∀ x ∈ P, sc.names.lookup x = some .local ∨ sc.names.lookup x = some .cell
  nofree : ∀ y ∈ sc.names, y.2 ≠ .free

theorem bindL_out {kindOf : Str → Option NameKind} {x : Str} : ∀ {binds : List (Str × Value)} {m : Str → Option Value}, (∀ v, (x, v) ∉ binds) → bindL kindOf binds m x = m x
  | [], _, _ => rfl
  | (n, v) :: r, m, h => by
    unfold bindL
    rw [bindL_out fun w hw => h w (List.mem_cons_of_mem _ hw)]
    split
    · have : x ≠ n := by rintro rfl; exact h v List.mem_cons_self
      simp [this]
    · rfl
theorem bindC_out {kindOf : Str → Option NameKind} {x : Str} : ∀ {binds : List (Str × Value)} {m : Str → Option Value}, (∀ v, (x, v) ∉ binds) → bindC kindOf binds m x = m x
  | [], _, _ => rfl
  | (n, v) :: r, m, h => by
    unfold bindC
    rw [bindC_out fun w hw => h w (List.mem_cons_of_mem _ hw)]
    split
    · rfl
    · have : x ≠ n := by rintro rfl; exact h v List.mem_cons_self
      simp [this]
theorem bindL_get {kindOf : Str → Option NameKind} {x : Str} {v : Value} : ∀ {P : List Str} {vs : List Value} {i : Nat} {m : Str → Option Value}, P.Nodup → P[i]? = some x → vs[i]? = some v → kindOf x = some .local →
    bindL kindOf (P.zip vs) m x = some v
  | [], _, _, _, _, h, _, _ => by simp at h
  | _ :: _, [], _, _, _, _, h, _ => by simp at h
  | p :: P, w :: vs, 0, m, nd, h1, h2, hk => by
    simp at h1 h2; subst h1; subst h2
    show bindL kindOf ((p, w) :: P.zip vs) m p = _
    unfold bindL
    rw [bindL_out fun v hv => (List.nodup_cons.mp nd).1 (List.of_mem_zip hv).1, if_pos hk]
    simp
  | p :: P, w :: vs, i + 1, m, nd, h1, h2, hk => by
    show bindL kindOf ((p, w) :: P.zip vs) m x = _
    unfold bindL
    exact bindL_get (i := i) (List.nodup_cons.mp nd).2 (by simpa using h1) (by simpa using h2) hk
theorem bindC_get {kindOf : Str → Option NameKind} {x : Str} {v : Value} : ∀ {P : List Str} {vs : List Value} {i : Nat} {m : Str → Option Value}, P.Nodup → P[i]? = some x → vs[i]? = some v → kindOf x ≠ some .local →
    bindC kindOf (P.zip vs) m x = some v
  | [], _, _, _, _, h, _, _ => by simp at h
  | _ :: _, [], _, _, _, _, h, _ => by simp at h
  | p :: P, w :: vs, 0, m, nd, h1, h2, hk => by
    simp at h1 h2; subst h1; subst h2
    show bindC kindOf ((p, w) :: P.zip vs) m p = _
    unfold bindC
    rw [bindC_out fun v hv => (List.nodup_cons.mp nd).1 (List.of_mem_zip hv).1, if_neg hk]
    simp
  | p :: P, w :: vs, i + 1, m, nd, h1, h2, hk => by
    show bindC kindOf ((p, w) :: P.zip vs) m x = _
    unfold bindC
    exact bindC_get (i := i) (List.nodup_cons.mp nd).2 (by simpa using h1) (by simpa using h2) hk

/-- the names' values at the entry -/
def start (N : List Str) (vs : List V) : St := vs.map some ++ List.replicate (N.length - vs.length) none

/-- the context of a def's body, at its entry; an exception leaves the frame, then lies as CX says -/
def cxOf (CX : CXT) (P : Program) (w : World) (K : PySem.W.Frag) (mg : Str → Option Value) (base : Heap) (N : List Str) (qual : Str) (scope : Scope) (f : Addr) (cd : Value) (A : Around) (outer : List Env) (s : Shared) (H : Hp) (E : XK) : Cx where
  prog := P
  w := w
  K := K
  mg := mg
  base := base
  A := A.deeper (envOfC qual scope s.heap.objs.size f cd)
  N := N
  s₀ := s
  H₀ := H
  env := envOfC qual scope s.heap.objs.size f cd
  outer := outer
  stack := envOfC qual scope s.heap.objs.size f cd :: outer
  ex := []
  calm := true
  fn := fun _ => true
  pn := []
  xe := fun e s' => wpAny (model P w) (A.deeper (envOfC qual scope s.heap.objs.size f cd)) (leaving (envOfC qual scope s.heap.objs.size f cd) e) (fun _ s'' => CX outer H s E e s'') (fun e' s'' => CX outer H s E e' s'') s'

theorem cell_has {sc : Scope} {n : Nat} {x : Str} (h : sc.names.lookup x = some .cell) : ∃ c, (cellsFrom n sc.names []).lookup x = some c := by
  have q := PySem.W.cellsFrom_some sc.names n [] (.inl h)
  exact Option.isSome_iff_exists.mp q

theorem inv_start {CX : CXT} {P : Program} {w : World} {K : PySem.W.Frag} {mg : Str → Option Value} {base : Heap} {N ps : List Str} {qual : Str} {scope : Scope} {f : Addr} {cd : Value} {A : Around} {outer : List Env} {s s1 : Shared} {H : Hp} {E : XK} {us : List Value} {vs : List V}
    (S : FnScope N ps scope) (hd : A.handled = none) (e0 : Env0 P w K mg base A outer s H) (hl : vs.length = ps.length) (r : Vals vs us)
    (x : InCallC s s.heap.objs.size (bindL (envOfC qual scope s.heap.objs.size f cd).kindOf (ps.zip us) fun _ => none) (cellsFrom (s.heap.objs.size + 1) scope.names []) (bindC (envOfC qual scope s.heap.objs.size f cd).kindOf (ps.zip us) fun _ => none) s1) :
    Inv (cxOf CX P w K mg base N qual scope f cd A outer s H E) [] (start N vs) H s1 := by
  have hpl : ps.length ≤ N.length := by have := congrArg List.length S.pre; rw [List.length_take] at this; omega
  obtain ⟨h1, tk, rfl, hk⟩ := x.done
  have noA : ∀ b : Addr, b ∉ (cxOf CX P w K mg base N qual scope f cd A outer s H E).ex := fun b z => absurd (show b ∈ ([] : List Addr) from z) (by simp)
  refine ⟨⟨e0.mod, S.kind, rfl, rfl, Nat.le_refl _, fun y z c h1 h2 => ?_, fun y hy => ?_, fun y c _ h => ?_, fun _ => hd, Around.frames_deeper e0.frames, .inr ⟨rfl, rfl⟩, fun b z => absurd z (noA b), e0.bs, e0.bsz, fun b _ _ => noA b, fun b z => absurd z (noA b), e0.funs, e0.frf⟩,
    rfl, e0.bare, Un.kept hk, ⟨_, x.toInCall.ns, fun i y v h1 h2 h3 => ?_⟩, fun y c h => ⟨_, x.cell y c h⟩, e0.hok.fresh (Nat.le_refl _), fun y c h => ?_, fun p hp => absurd (show p ∈ ([] : List (Addr × Obj)) from hp) (by simp), e0.hok.kept hk, ?_⟩
  · exact name_of_addr x.apart (PySem.mem_of_lookup h1) (PySem.mem_of_lookup h2)
  · have hy : scope.names.lookup y = some .cell ∨ scope.names.lookup y = some .free := hy
    rcases hy with hy | hy
    · exact cell_has hy
    · exact absurd rfl (S.nofree _ (PySem.mem_of_lookup hy))
  · exact Nat.le_of_lt (x.above y c (PySem.mem_of_lookup h))
  · have hi : i < vs.length := by
      unfold start at h2
      by_cases hi : i < vs.length
      · exact hi
      · rw [List.getElem?_append_right (by simpa using hi)] at h2
        rw [List.getElem?_replicate] at h2
        split at h2 <;> cases h2
    have ha : vs[i]? = some v := by
      unfold start at h2
      rw [List.getElem?_append_left (by simpa using hi), List.getElem?_map] at h2
      cases e : vs[i]? with
      | none => rw [e] at h2; cases h2
      | some a => rw [e] at h2; cases h2; rfl
    obtain ⟨u, hu, rv⟩ := r.get ha
    have hp : ps[i]? = some y := by
      rw [← S.pre, List.getElem?_take_of_lt (by omega)]; exact h1
    have ndP : ps.Nodup := by rw [← S.pre]; exact S.nd.sublist (List.take_sublist _ _)
    refine ⟨u, rv, ?_⟩
    rcases S.par y (List.mem_of_getElem? hp) with k | k
    · exact .inl ⟨k, bindL_get ndP hp hu k⟩
    · obtain ⟨c, e⟩ := cell_has (n := s.heap.objs.size + 1) k
      refine .inr ⟨.inl k, c, e, ?_⟩
      have q := x.cell y c e
      rw [bindC_get ndP hp hu (by show scope.names.lookup y ≠ _; rw [k]; decide)] at q
      exact q
  · exact e0.hok.fresh (Nat.le_of_lt (x.above y c (PySem.mem_of_lookup h)))
  · unfold start
    show _ = N.length
    rw [List.length_append, List.length_map, List.length_replicate]
    omega

/-- THE RULE: a def (or a method) of the text, by its body. The body's reading t is chosen for each entry; it is run at the parameters' values -/
theorem fn_of {CX : CXT} {P : Program} {w : World} {K : PySem.W.Frag} {mg : Str → Option Value} {base : Heap} {k : Nat} {f : Addr} {name qual : Str} {params : Arguments} {body : List Stmt} {scope : Scope} {dV kV doc pm cdv ct oc : Value} {an od : Option Addr}
    {osl : Array (Option Value)} {N ps : List Str} {sp : Sp} (lk : K.lookup f = some ⟨oc, od, .func (PySem.W.fnOf name qual params body scope dV kV doc pm an cdv ct), osl⟩) (hcd : PySem.W.codeIn K cdv qual = true) (S : FnScope N ps scope)
    (len : ∀ vs H Q E, sp vs H Q E → vs.length = ps.length)
    (hbody : ∀ (A : Around) (outer : List Env) (s : Shared) (H : Hp) (vs : List V) (Q : VK) (E : XK), Room k (A.deeper (envOfC qual scope s.heap.objs.size f cdv)) → sp vs H Q E →
      ∃ t, PSs (cxOf CX P w K mg base N qual scope f cdv A outer s H E) body t ∧ t { nx := fun _ H' => Q .non H', rt := Q } (start N vs) H) :
    FnOk P w K mg base CX (k + 1) f (PySem.W.fnOf name qual params body scope dV kV doc pm an cdv ct) ps sp := by
  refine ⟨len, fun A outer s H args us vs Q E hr e0 hb r hsp => ?_⟩
  have hl := len _ _ _ _ hsp
  have KX : K.In s.heap := e0.mod.kin.keeps fun b o e => (e0.bs b o e).1
  have lim : s.heap.NoLimit := e0.mod.nolimit.keeps fun b o e => (e0.bs b o e).1
  have hkind : ∀ y ∈ ps.zip us, scope.names.lookup y.1 = some .local ∨ (scope.names.lookup y.1 = some .cell ∧ ((cellsFrom (s.heap.objs.size + 1) scope.names []).lookup y.1).isSome = true) := fun ⟨n, v⟩ hy => by
    rcases S.par n (List.of_mem_zip hy).1 with q | q
    · exact .inl q
    · exact .inr ⟨q, PySem.W.cellsFrom_some _ _ _ (.inl q)⟩
  refine codeAny_call_function hr.depth (KX _ _ lk) rfl S.co S.gen rfl (PySem.W.codeRec_of KX hcd) (hb _ _ _ _ ?_)
  refine wpAny_newFunctionEnv_cells S.kind hkind fun env he s1 x => ?_
  subst he
  refine ⟨lim.keeps x.toInCall.keep, codeAny_func ?_⟩
  obtain ⟨t, ht, hq⟩ := hbody A outer s H vs Q E (hr.deeper _) hsp
  have I : Inv (cxOf CX P w K mg base N qual scope f cdv A outer s H E) [] (start N vs) H s1 := inv_start S hr.hd e0 hl r x
  refine wpAny_mono (ht [] s1 (start N vs) H _ I hq) (fun fl s' hs => ?_) fun e s' hs => hs
  have fin : ∀ {σ' : St} {H' : Hp} {v : V} {u : Value}, Inv (cxOf CX P w K mg base N qual scope f cdv A outer s H E) [] σ' H' s' → RelV v u → Q v H' → CE outer P w H s Q u s' :=
    fun {σ' H' v u} J rv q => ⟨v, H', J.os, J.bare, J.base, J.hok, rv, q⟩
  cases fl with
  | ret u =>
    obtain ⟨v, σ', H', J, rv, q⟩ := hs
    exact fin J rv q
  | next =>
    obtain ⟨σ', H', J, q⟩ := hs
    exact fin (v := V.non) (u := Value.none) J rfl q
  | brk =>
    obtain ⟨_, _, _, q⟩ := hs
    exact False.elim q
  | cont =>
    obtain ⟨_, _, _, q⟩ := hs
    exact False.elim q
end L2

namespace L2
open PySem PySem.Spec PyProof.Rows
section
variable {X : Cx} {x : Str} {p pos : Pos} {e : Expr} {es : List Expr} {t : TA} {id T : String} {r : List V → Hp → VK → Prop}

def tCB (r : List V → Hp → VK → Prop) (t : TA) : TE := fun σ H Q => t σ H fun vs H1 => r vs H1 Q
/-- f(e, ..), f a built-in function -/
theorem pe_callB (hc : CallR X (.builtin id) r) (hg : Gl X x) (hm : X.mg x = none) (hv : bootBuiltins x = some (.builtin id)) (ha : PA X (e :: es) t) (hn : x ≠ "__name__" := by decide) (hdb : (x == ("__debug__" : Str)) = false := by decide)
    (he : starEach (e :: es) X.env = (false, eval e X.env) :: starEach es X.env := by rfl) (hpl : (backTo pos (starEach es X.env)).any (·.1) = false := by rfl) : PE X (.Call (.Name x p) (e :: es) [] pos) (tCB r t) := by
  intro pins s σ H Q I h
  refine wpAny_Call_Name_kw (ld_blt I hg hm hv ?_ hn hdb)
  exact PyProof.Rows.callWith_builtin1 (thn (ha pos pins s σ H _ I h) fun us s1 ⟨vs, H1, I1, r1, q1⟩ => hc pins s1 σ H1 vs us Q I1 r1 q1) he hpl
end
end L2

namespace HT
open PySem PyProof.Rows

section
open PySem.SeqAt
open PySem.AutoSeq1 (wpAny_loadPart')
open PySem.MeetsSeq PySem.MeetsSeq2 PySem.MeetsSeq3

end

section
variable {prog : Program} {w : World} {A : Around} {E : Value → Shared → Prop} {s : Shared}

/-! ### t[a:b], not the whole -/
/-- a slice's bound as a place among n (d where it is left out) -/
def sIx (n d : Nat) : Option Int → Nat
  | none => d
  | some v => if v < 0 then (v + (n : Int)).toNat else min v.toNat n
end
end HT

namespace L2
open PySem PySem.Spec PyProof.Rows

/-! ### the parts of a slice -/
abbrev TO := St → Hp → (Option Int → Hp → Prop) → Prop
/-- a slice's part (left out, or an int) -/
def PO (X : Cx) (e : Option Expr) (t : TO) : Prop :=
  ∀ (pins : List (Addr × Obj)) (s : Shared) (σ : St) (H : Hp) (Q : Option Int → Hp → Prop), Inv X pins σ H s → t σ H Q →
    wpAny (model X.prog X.w) X.A (evalPart e X.env) (fun u s' => ∃ o H', Inv X pins σ H' s' ∧ IsPart u o ∧ Q o H') X.xe s
def tNoPart : TO := fun _ H Q => Q none H
def tPart (t : TE) : TO := fun σ H Q => t σ H fun x H1 => ∃ i, x = .int i ∧ Q (some i) H1

section
variable {X : Cx} {e : Expr} {te : TE} {lo hi : Option Expr} {tl th : TO} {pos p2 : Pos}

theorem po_none : PO X none tNoPart := by
  intro pins s σ H Q I h
  rw [evalPart_none]
  exact wpAny_pure ⟨none, H, I, .none, h⟩
theorem po_some (h : PE X e te) : PO X (some e) (tPart te) := by
  intro pins s σ H Q I hw
  rw [evalPart_some]
  refine thn (h pins s σ H _ I hw) fun u s1 ⟨x, H1, I1, r1, q1⟩ => ?_
  obtain ⟨i, rfl, q⟩ := q1
  obtain ⟨t, rfl⟩ := r1
  exact ⟨some i, H1, I1, .int i t, q⟩

/-- what a slice of a value is, by values: the slice object stands at sl -/
def SlR (X : Cx) (r : V → Option Int → Option Int → Hp → VK → Prop) : Prop :=
  ∀ (pins : List (Addr × Obj)) (s : Shared) (σ : St) (H : Hp) (x : V) (v vl vu : Value) (lo hi : Option Int) (sl : Addr) (Q : VK), Inv X pins σ H s → RelV x v → s.heap.IsSliceOf sl vl vu .none → IsPart vl lo → IsPart vu hi → r x lo hi H Q →
    ∃ T id, typeLookup (.type T) "__getitem__" = pure (some (.builtin id)) ∧ s.TypeIs v T ∧ wpAny (model X.prog X.w) X.A (getItem v (.ref sl)) (EP X pins σ Q) X.xe s
theorem SlR.or {r r' : V → Option Int → Option Int → Hp → VK → Prop} (h : SlR X r) (h' : SlR X r') : SlR X (fun x lo hi H Q => r x lo hi H Q ∨ r' x lo hi H Q) := by
  intro pins s σ H x v vl vu lo hi sl Q I rx hs pl pu q
  rcases q with q | q
  · exact h pins s σ H x v vl vu lo hi sl Q I rx hs pl pu q
  · exact h' pins s σ H x v vl vu lo hi sl Q I rx hs pl pu q
def tSl (r : V → Option Int → Option Int → Hp → VK → Prop) (te : TE) (tl th : TO) : TE := fun σ H Q => te σ H fun x H1 => tl σ H1 fun l H2 => th σ H2 fun u H3 => r x l u H3 Q
/-- a[lo:hi], any a -/
theorem pe_slice {r : V → Option Int → Option Int → Hp → VK → Prop} (hr : SlR X r) (he : PE X e te) (hl : PO X lo tl) (hu : PO X hi th) : PE X (.Subscript e (.Slice lo hi none p2) pos) (tSl r te tl th) := by
  intro pins s σ H Q I h
  refine Subscript_ (thn (he pins s σ H _ I h) fun v s1 ⟨x, H1, I1, r1, q1⟩ => ?_)
  refine wpAny_Slice (thn (hl pins s1 σ H1 _ I1 q1) fun vl s2 ⟨l, H2, I2, pl, q2⟩ => thn (hu pins s2 σ H2 _ I2 q2) fun vu s3 ⟨u, H3, I3, pu, q3⟩ => ?_)
  rw [evalPart_none]
  refine wpAny_pure ?_
  have I4 : Inv X pins σ H3 { s3 with heap := s3.heap.push { cls := .type "slice", data := .fields #[vl, vu, .none] } } := I3.kept (t' := s3.toks) fun b ob q => Heap.get?_push_of_some _ q
  obtain ⟨T, id, hT, ht, hg⟩ := hr pins { s3 with heap := s3.heap.push { cls := .type "slice", data := .fields #[vl, vu, .none] } } σ H3 x v vl vu l u s3.heap.objs.size Q I4 r1 (Heap.IsSliceOf.new ..) pl pu q3
  show wpAny (model X.prog X.w) X.A (subscriptTail e (.Slice lo hi none p2) v (.ref s3.heap.objs.size)) (EP X pins σ Q) X.xe { s3 with heap := s3.heap.push { cls := .type "slice", data := .fields #[vl, vu, .none] } }
  exact tail_any (ops := [.ref s3.heap.objs.size, v]) ht hT hg (by with_unfolding_all rfl)

/-- the items of xs[lo:hi] -/
def cutV (xs : List V) (lo hi : Option Int) : List V := (xs.drop (HT.sIx xs.length 0 lo)).take (HT.sIx xs.length xs.length hi - HT.sIx xs.length 0 lo)
theorem cutV_length (xs : List V) (lo hi : Option Int) : (cutV xs lo hi).length ≤ xs.length := by
  unfold cutV
  rw [List.length_take, List.length_drop]
  omega
/-! ### t < u, t + u -/
end
end L2

namespace L2
open PySem PySem.Spec PyProof.Rows

/-! ### places -/
/-- the place that an index of any sign means -/
def ixN (n : Nat) (i : Int) : Option Nat := if 0 ≤ i then (if i < n then some i.toNat else none) else if -(n : Int) ≤ i then some (i + n).toNat else none
def atI {α : Type} (xs : List α) (i : Int) : Option α := (ixN xs.length i).bind fun j => xs[j]?
theorem ixN_seq {n : Nat} {i : Int} {j : Nat} (h : ixN n i = some j) : seqIndex? i n = some j ∧ j < n ∧ -(n : Int) ≤ i ∧ i < n := by
  unfold ixN at h
  by_cases h0 : 0 ≤ i
  · rw [if_pos h0] at h
    by_cases h1 : i < n
    · rw [if_pos h1] at h
      have e : i.toNat = j := Option.some.inj h
      exact ⟨by rw [seqIndex_of h0 h1, e], by omega, by omega, h1⟩
    · rw [if_neg h1] at h; cases h
  · rw [if_neg h0] at h
    by_cases h1 : -(n : Int) ≤ i
    · rw [if_pos h1] at h
      have e : (i + n).toNat = j := Option.some.inj h
      exact ⟨by rw [seqIndex_neg (by omega) h1, e], by omega, h1, by omega⟩
    · rw [if_neg h1] at h; cases h
theorem atI_get {α : Type} {xs : List α} {i : Int} {v : α} (h : atI xs i = some v) : ∃ j, seqIndex? i xs.length = some j ∧ xs[j]? = some v ∧ j < xs.length ∧ -(xs.length : Int) ≤ i ∧ i < xs.length := by
  unfold atI at h
  cases e : ixN xs.length i with
  | none => rw [e] at h; cases h
  | some j =>
    rw [e] at h
    obtain ⟨h1, h2, h3, h4⟩ := ixN_seq e
    exact ⟨j, h1, h, h2, h3, h4⟩
theorem atI_nat {α : Type} {xs : List α} {j : Nat} {v : α} (h : xs[j]? = some v) : atI xs (j : Int) = some v := by
  have hj : j < xs.length := (List.getElem?_eq_some_iff.mp h).1
  have e : ixN xs.length (j : Int) = some j := by
    unfold ixN
    rw [if_pos (by omega), if_pos (by omega)]; simp
  unfold atI; rw [e]; exact h
/-! ### what may be subscripted -/
/-- what stands as an index of a plain subscript -/
def PlainIx (b : Expr) : Prop := ∀ o i, subscripted b false o i = operate [o, i] (getItem o i)
/-- a subscript by values -/
def IxR (X : Cx) (r : R2) : Prop :=
  ∀ (value slice : Expr) (pins : List (Addr × Obj)) (s : Shared) (σ : St) (H : Hp) (x y : V) (v u : Value) (Q : VK), Inv X pins σ H s → RelV x v → RelV y u → r x y H Q →
    subscripted slice false v u = operate [v, u] (getItem v u) → wpAny (model X.prog X.w) X.A (subscriptTail value slice v u) (EP X pins σ Q) X.xe s
/-- a call of a builtin's method by values: the receiver, the arguments -/
def MtR (X : Cx) (id : String) (r : V → List V → Hp → VK → Prop) : Prop :=
  ∀ (pins : List (Addr × Obj)) (s : Shared) (σ : St) (H : Hp) (x : V) (xs : List V) (v : Value) (us : List Value) (Q : VK), Inv X pins σ H s → RelV x v → Vals xs us → r x xs H Q →
    wpAny (model X.prog X.w) X.A (call (.builtin id) (v :: us)) (EP X pins σ Q) X.xe s
section
variable {X : Cx} {a b : Expr} {ta tb : TE} {pos : Pos}
theorem IxR.or {r r' : R2} (h : IxR X r) (h' : IxR X r') : IxR X (fun x y H Q => r x y H Q ∨ r' x y H Q) := by
  intro value slice pins s σ H x y v u Q I rx ry q hs
  rcases q with q | q
  · exact h value slice pins s σ H x y v u Q I rx ry q hs
  · exact h' value slice pins s σ H x y v u Q I rx ry q hs
theorem MtR.or {id : String} {r r' : V → List V → Hp → VK → Prop} (h : MtR X id r) (h' : MtR X id r') : MtR X id (fun x xs H Q => r x xs H Q ∨ r' x xs H Q) := by
  intro pins s σ H x xs v us Q I rx rs q
  rcases q with q | q
  · exact h pins s σ H x xs v us Q I rx rs q
  · exact h' pins s σ H x xs v us Q I rx rs q
/-- a[b] -/
theorem pe_ix {r : R2} (hr : IxR X r) (ha : PE X a ta) (hb : PE X b tb) (hs : PlainIx b) : PE X (.Subscript a b pos) (tOp r ta tb) := by
  intro pins s σ H Q I h
  exact Subscript_ (binT ha hb I h fun v u s2 x y H2 I2 rx ry q => hr a b pins s2 σ H2 x y v u Q I2 rx ry q (hs _ _))

def rIxL (K : PySem.W.Frag) : R2 := fun x y H Q => ∃ p xs i v, x = .ref p ∧ y = .int i ∧ SqL K H p xs ∧ atI xs i = some v ∧ Q v H
def rIxT (K : PySem.W.Frag) : R2 := fun x y H Q => ∃ p xs i v, x = .ref p ∧ y = .int i ∧ SqT K H p xs ∧ atI xs i = some v ∧ Q v H
def rIxS : R2 := fun x y H Q => ∃ z i c, x = .str z ∧ y = .int i ∧ z.length ≤ sizeLine ∧ atI z.cps.toList i = some c ∧ Q (.str ⟨#[c]⟩) H
theorem ix_list : IxR X (rIxL X.K) := by
  intro value slice pins s σ H x y v u Q I rx ry h hs
  obtain ⟨p, xs, i, z, rfl, rfl, hq, he, q⟩ := h
  cases rx
  obtain ⟨t, rfl⟩ := ry
  obtain ⟨its, r, pl, hz⟩ := I.list hq
  obtain ⟨j, h1, h2, h3, h4, h5⟩ := atI_get he
  obtain ⟨w, ew, rw'⟩ := r.get h2
  have hl := r.length
  have hn := line63
  have fin : EP X pins σ Q w s := ⟨z, H, I, rw', q⟩
  by_cases h0 : 0 ≤ i
  · have hj : i.toNat = j := by
      rw [seqIndex_of h0 h5] at h1
      exact Option.some.inj h1
    exact item_listR pl.isList h0 (by omega) (by rw [hj]; simpa using ew) fin hs
  · have hj : (i + (its.toArray.size : Int)).toNat = j := by
      rw [seqIndex_neg (by omega) h4] at h1
      rw [List.size_toArray, ← hl]
      exact Option.some.inj h1
    exact subscriptTail_builtinR (x := w) pl.isList.typeIs slot_list_getitem.lookup
      (wpAny_getItem_list_neg (Q := fun r s' => r = w ∧ EP X pins σ Q r s') pl.isList (by omega) (by rw [List.size_toArray] <;> omega) (by omega) (by rw [hj]; simpa using ew) ⟨rfl, fin⟩) hs
theorem ix_tup : IxR X (rIxT X.K) := by
  intro value slice pins s σ H x y v u Q I rx ry h hs
  obtain ⟨p, xs, i, z, rfl, rfl, hq, he, q⟩ := h
  cases rx
  obtain ⟨t, rfl⟩ := ry
  obtain ⟨its, r, pl, hz⟩ := I.tuple hq
  obtain ⟨j, h1, h2, h3, h4, h5⟩ := atI_get he
  obtain ⟨w, ew, rw'⟩ := r.get h2
  have hl := r.length
  have hn := line63
  have fin : EP X pins σ Q w s := ⟨z, H, I, rw', q⟩
  exact subscriptTail_builtinR (x := w) pl.typeIs slot_tuple_getitem.lookup
    (getItem_tuple (j := j) (Q := fun r s' => r = w ∧ EP X pins σ Q r s') pl (by omega) (by omega) (by rw [List.size_toArray, ← hl]; exact h1) (by simpa using ew) ⟨rfl, fin⟩) hs
theorem ix_str : IxR X rIxS := by
  intro value slice pins s σ H x y v u Q I rx ry h hs
  obtain ⟨z, i, c, rfl, rfl, hz, he, q⟩ := h
  obtain ⟨t, rfl⟩ := rx
  obtain ⟨t', rfl⟩ := ry
  obtain ⟨j, h1, h2, h3, h4, h5⟩ := atI_get he
  have hl : z.cps.toList.length = z.length := by simp [Str.length]
  rw [hl] at h1 h4 h5
  have hn := line63
  exact tail_any (typeIs_str s z t) slot_str_getitem.lookup (getItem_str (c := c) (by
    have e1 : decide (i < -(2 ^ 63 : Int)) = false := decide_eq_false (by omega)
    have e2 : decide (i ≥ 2 ^ 63) = false := decide_eq_false (by omega)
    rw [e1, e2, Bool.or_false]) (by rw [h1]; simpa using h2) ⟨.str ⟨#[c]⟩, H, I.tok _, ⟨_, rfl⟩, q⟩) hs
/-! ### xs[i] = v, any sign -/
theorem Inv.lst {pins : List (Addr × Obj)} {σ : St} {H : Hp} {s : Shared} {p : Addr} {xs : List V} (I : Inv X pins σ H s) (h : H p = some (.lst xs)) :
    ∃ (its : List Value) (n : Nat), Vals xs its ∧ s.heap.get? p = some { cls := .type "list", data := .seq its.toArray n } ∧ xs.length ≤ sizeLine := by
  obtain ⟨z, its, n, r, e⟩ := I.hok p _ h
  exact ⟨its, n, r, e, z⟩
/-! ### slices -/
theorem slice_bounds (lo hi : Option Int) (n : Nat) : (sliceBounds lo hi none n).1 = ((HT.sIx n 0 lo : Nat) : Int) ∧ (sliceBounds lo hi none n).2.1 = ((HT.sIx n n hi : Nat) : Int) ∧ (sliceBounds lo hi none n).2.2 = 1 := by
  refine ⟨?_, ?_, rfl⟩
  · cases lo with
    | none => simp [sliceBounds, HT.sIx]
    | some i =>
      simp only [sliceBounds, HT.sIx, Option.getD_none, show (1 : Int) > 0 by decide, if_true]
      by_cases h : i < 0
      · simp only [h, if_true] <;> omega
      · simp only [h, if_false] <;> omega
  · cases hi with
    | none => simp [sliceBounds, HT.sIx]
    | some i =>
      simp only [sliceBounds, HT.sIx, Option.getD_none, show (1 : Int) > 0 by decide, if_true]
      by_cases h : i < 0
      · simp only [h, if_true] <;> omega
      · simp only [h, if_false] <;> omega
theorem slicePick_cut (its : List Value) (lo hi : Option Int) : slicePick its.toArray lo hi none = ((its.drop (HT.sIx its.length 0 lo)).take (HT.sIx its.length its.length hi - HT.sIx its.length 0 lo)).toArray := by
  obtain ⟨h1, h2, h3⟩ := slice_bounds lo hi its.toArray.size
  unfold slicePick
  rw [h1, h2, h3]
  simp only [sliceRange_one, pick_run, List.size_toArray] <;> rfl
/-- xs[lo:hi] of a list: a new list -/
def rSlL (K : PySem.W.Frag) : V → Option Int → Option Int → Hp → VK → Prop := fun x lo hi H Q => ∃ a xs, x = .ref a ∧ SqL K H a xs ∧ ∀ p, H p = none → Q (.ref p) (upd H p (.lst (cutV xs lo hi)))
theorem sl_list : SlR X (rSlL X.K) := by
  intro pins s σ H x v vl vu lo hi sl Q I rx hs pl pu h
  obtain ⟨a, xs, rfl, hx, q⟩ := h
  cases rx
  obtain ⟨its, r, ht, hz⟩ := I.list hx
  have hlen := r.length
  refine ⟨"list", _, slot_list_getitem.lookup, ht.isList.typeIs, ?_⟩
  refine wpAny_getItem_list_slice ht.isList hs pl pu .none (by simp) ?_ (by rw [List.size_toArray] <;> omega)
  rw [slicePick_cut, ← hlen]
  refine ⟨.ref s.heap.objs.size, _, I.laid (t' := s.toks) (o := .lst (cutV xs lo hi)) (fun b ob q => Heap.get?_push_of_some _ q) (Nat.le_refl _) ?_, rfl, q _ (I.hok.fresh (Nat.le_refl _))⟩
  exact ⟨Nat.le_trans (cutV_length xs lo hi) hz, _, 0, (r.drop (HT.sIx xs.length 0 lo)).take (HT.sIx xs.length xs.length hi - HT.sIx xs.length 0 lo), Heap.get?_push_size _ rfl⟩

/-! ### in, not in: flat items -/
/-! ### len, list(x), tuple(x) of any list or tuple that is read -/
theorem CallR.or {f : Value} {r r' : List V → Hp → VK → Prop} (h : CallR X f r) (h' : CallR X f r') : CallR X f (fun xs H Q => r xs H Q ∨ r' xs H Q) := by
  intro pins s σ H xs us Q I rs q
  rcases q with q | q
  · exact h pins s σ H xs us Q I rs q
  · exact h' pins s σ H xs us Q I rs q
/-! ### the call of a builtin's method: o.m(..) -/
/-- the value is of that builtin type -/
def tyV (K : PySem.W.Frag) (T : String) (x : V) (H : Hp) : Prop := match x with
  | .str _ => T = "str"
  | .int _ => T = "int"
  | .ref p => (T = "list" ∧ ∃ xs, SqL K H p xs) ∨ (T = "tuple" ∧ ∃ o, K.lookup p = some o ∧ o.cls = .type "tuple" ∧ o.dict = none) ∨
      (T = "dict" ∧ ((∃ kvs, H p = some (.dK kvs)) ∨ ∃ kvs, H p = some (.dT kvs))) ∨ (T = "set" ∧ ∃ S n, H p = some (.set S n))
  | _ => False
theorem tyV_is {pins : List (Addr × Obj)} {σ : St} {H : Hp} {s : Shared} {T : String} {x : V} {v : Value} (I : Inv X pins σ H s) (r : RelV x v) (ty : tyV X.K T x H) :
    s.TypeIs v T ∧ ∀ a, v = .ref a → ∃ ob, s.heap.get? a = some ob ∧ ob.dict = none := by
  cases x with
  | str z =>
    obtain ⟨t, rfl⟩ := r
    cases (show T = "str" from ty)
    exact ⟨typeIs_str s z t, fun _ e => nomatch e⟩
  | int i =>
    obtain ⟨t, rfl⟩ := r
    cases (show T = "int" from ty)
    exact ⟨typeIs_int s i t, fun _ e => nomatch e⟩
  | ref p =>
    cases r
    rcases ty with ⟨rfl, xs, hq⟩ | ⟨rfl, o, hk, hc, hd⟩ | ⟨rfl, hk⟩ | ⟨rfl, S, n, hk⟩
    · obtain ⟨its, _, pl, _⟩ := I.list hq
      refine ⟨pl.isList.typeIs, fun a e => ?_⟩
      cases e
      obtain ⟨o, n, e, c, hd, _⟩ := pl
      exact ⟨o, e, hd⟩
    · refine ⟨⟨o, I.kIn p o hk, hc⟩, fun a e => ?_⟩
      cases e
      exact ⟨o, I.kIn _ o hk, hd⟩
    · have z : ∃ o, s.heap.get? p = some o ∧ o.ExactDict := by
        rcases hk with ⟨kvs, hk⟩ | ⟨kvs, hk⟩
        · obtain ⟨_, _, _, _, o, _, _, e, ex, _⟩ := I.hok p _ hk
          exact ⟨o, e, ex⟩
        · exact (show False from I.hok p _ hk).elim
      obtain ⟨o, e, ex⟩ := z
      refine ⟨⟨o, e, ex.1⟩, fun a e2 => ?_⟩
      cases e2
      exact ⟨o, e, ex.2.1⟩
    · obtain ⟨o, _, _, _, e, ex, _⟩ := I.hok p _ hk
      refine ⟨⟨o, e, ex.1⟩, fun a e2 => ?_⟩
      cases e2
      exact ⟨o, e, ex.2.1⟩
  | _ => exact False.elim ty
def tBM0 (K : PySem.W.Frag) (T : String) (r : V → List V → Hp → VK → Prop) (to : TE) : TE := fun σ H Q => to σ H fun x H1 => tyV K T x H1 ∧ r x [] H1 Q
def tBM (K : PySem.W.Frag) (T : String) (r : V → List V → Hp → VK → Prop) (to : TE) (t : TA) : TE := fun σ H Q => to σ H fun x H1 => tyV K T x H1 ∧ t σ H1 fun xs H2 => r x xs H2 Q
variable {o e : Expr} {es : List Expr} {to : TE} {t : TA} {name : Str} {apos cpos : Pos} {T id : String} {r : V → List V → Hp → VK → Prop}
theorem pe_bm0 (pa : PlainAttrs T) (slot : Slot T name id) (hty : typeOf (.builtin id) = pure (.type "method_descriptor")) (hm : MtR X id r) (ho : PE X o to)
    (hbase : attributeBase o name X.env (eval o X.env) = eval o X.env := by rfl) (hline : (apos.endLine == cpos.line) = true := by rfl) : PE X (.Call (.Attribute o name apos) [] [] cpos) (tBM0 X.K T r to) := by
  intro pins s σ H Q I h
  refine wpAny_Call_method0_late hbase hline (thn (ho pins s σ H _ I h) fun v s1 ⟨x, H1, I1, r1, ty, q1⟩ => ?_)
  obtain ⟨h1, h2⟩ := tyV_is I1 r1 ty
  exact ⟨T, id, pa, slot, hty, h1, h2, Calls.callWith_builtin rfl (PySem.evalArgs_none (hm pins s1 σ H1 x [] v [] Q I1 r1 .nil q1))⟩
theorem pe_bm (pa : PlainAttrs T) (slot : Slot T name id) (hty : typeOf (.builtin id) = pure (.type "method_descriptor")) (hm : MtR X id r) (ho : PE X o to) (ha : PA X (e :: es) t)
    (hbase : attributeBase o name X.env (eval o X.env) = eval o X.env := by rfl)
    (hfew : ((backTo cpos (starEach (e :: es) X.env)).all (fun x => !x.1) && (backToKw cpos (keywordEach [] X.env)).all (fun x => x.1.isSome)
      && decide ((e :: es).length + ([] : List Keyword).length + (if ([] : List Keyword).isEmpty then 0 else 1) < 30)) = true := by rfl)
    (hline : (apos.endLine == cpos.line) = true := by rfl) (hs : starEach (e :: es) X.env = (false, eval e X.env) :: starEach es X.env := by rfl) (hplain : (backTo cpos (starEach es X.env)).any (·.1) = false := by rfl) :
    PE X (.Call (.Attribute o name apos) (e :: es) [] cpos) (tBM X.K T r to t) := by
  intro pins s σ H Q I h
  refine wpAny_Call_method_late hbase hfew hline rfl (thn (ho pins s σ H _ I h) fun v s1 ⟨x, H1, I1, r1, ty, q1⟩ => ?_)
  obtain ⟨h1, h2⟩ := tyV_is I1 r1 ty
  refine ⟨T, id, pa, slot, hty, h1, h2, ?_⟩
  have hA := ha cpos pins s1 σ H1 _ I1 q1
  rw [hs] at hA ⊢
  refine Calls.callWith_builtin (by show (false || (backTo cpos (starEach es X.env)).any (·.1)) = false; rw [hplain] <;> rfl) (Calls.evalArgs_plain ?_)
  exact thn hA fun us s2 ⟨vs, H2, I2, r2, q2⟩ => hm pins s2 σ H2 x vs v us Q I2 r1 r2 q2
/- xs.append(e), list.index on a module's tuple .. are MtR facts of 06m -/
end
end L2

namespace L2
open PySem PySem.Spec PyProof.Rows

def MtM (X : Cx) (id : String) (r : V → List V → Hp → VK → Prop) : Prop :=
  ∀ (pins : List (Addr × Obj)) (s : Shared) (σ : St) (H : Hp) (x : V) (xs : List V) (v : Value) (us : List Value) (Q : VK), Inv X pins σ H s → RelV x v → Vals xs us → r x xs H Q →
    wpAny (model X.prog X.w) X.A (call (.builtin id) (v :: us)) (EP X pins σ Q) X.xe s

/-! ### lists of values -/
theorem Vals.one : ∀ {x : V} {us : List Value}, Vals [x] us → ∃ u, us = [u] ∧ RelV x u
  | _, _, .cons r .nil => ⟨_, rfl, r⟩
theorem Vals.two : ∀ {x y : V} {us : List Value}, Vals [x, y] us → ∃ u v, us = [u, v] ∧ RelV x u ∧ RelV y v
  | _, _, _, .cons r (.cons q .nil) => ⟨_, _, rfl, r, q⟩
theorem Vals.zero : ∀ {us : List Value}, Vals [] us → us = []
  | _, .nil => rfl
theorem Vals.reverse {xs : List V} {us : List Value} (h : Vals xs us) : Vals xs.reverse us.reverse := by
  induction h with
  | nil => exact .nil
  | cons r t ih => rw [List.reverse_cons, List.reverse_cons]; exact Vals.append ih (.cons r .nil)
section
variable {X : Cx} {pins : List (Addr × Obj)} {σ : St} {H : Hp} {s : Shared} {l b : Addr} {xs ys zs : List V}

/-! ### the two steps: a tracked list is rewritten, a new list is laid -/
theorem Inv.lset {its its' : List Value} {n : Nat} {f : Array Value → Array Value} {t' : Nat} (I : Inv X pins σ H s) (hH : H l = some (.lst xs))
    (e : s.heap.get? l = some { cls := .type "list", data := .seq its.toArray n }) (hf : f its.toArray = its'.toArray) (hv : Vals ys its') (hz : ys.length ≤ sizeLine) :
    Inv X pins σ (upd H l (.lst ys)) { s with heap := s.heap.update l (Obj.mapSeq f), toks := t' } := by
  have q := PySem.IsL.update e f
  rw [hf] at q
  refine I.write (x := l) (e := l) (by rw [hH]; exact trivial) (.inl rfl) (fun b' u hb hu => (Heap.get?_update_other s.heap (Obj.mapSeq f) (Ne.symm hb)).trans hu) ⟨_, q⟩ ?_
  exact ⟨hz, its', _, hv, q⟩
theorem Inv.lnew {its : List Value} {t' : Nat} (I : Inv X pins σ H s) (hv : Vals ys its) (hz : ys.length ≤ sizeLine) :
    Inv X pins σ (upd H s.heap.objs.size (.lst ys)) { s with heap := s.heap.push { cls := .type "list", data := .seq its.toArray }, toks := t' } :=
  I.laid (fun _ _ q => Heap.get?_push_of_some _ q) (Nat.le_refl _) ⟨hz, its, 0, hv, Heap.get?_push_size _ rfl⟩
theorem Inv.fresh (I : Inv X pins σ H s) : H s.heap.objs.size = none := I.hok.fresh (Nat.le_refl _)
theorem Inv.lstM (I : Inv X pins σ H s) (hH : H l = some (.lst xs)) : xs.length ≤ sizeLine ∧ ∃ (its : List Value) (n : Nat), Vals xs its ∧ xs.length = its.length ∧ s.heap.get? l = some { cls := .type "list", data := .seq its.toArray n } := by
  obtain ⟨z, its, n, r, e⟩ := I.hok l _ hH
  exact ⟨z, its, n, r, r.length, e⟩

end

section
variable {X : Cx}

/-! ### methods -/
def rAppend : V → List V → Hp → VK → Prop := fun x vs H Q => ∃ l xs y, x = .ref l ∧ vs = [y] ∧ H l = some (.lst xs) ∧ xs.length < sizeLine ∧ Q .non (upd H l (.lst (xs ++ [y])))
theorem mt_append : MtM X "list.append" rAppend := by
  intro pins s σ H x vs v us Q I rx rv h
  obtain ⟨l, xs, y, rfl, rfl, hH, hz, q⟩ := h
  cases rx
  obtain ⟨u, rfl, ru⟩ := rv.one
  obtain ⟨z, its, n, r, hl, e⟩ := I.lstM hH
  refine call_meets F.slot_list_append ⟨_, e, rfl⟩ F.entry_list_append (F.args_list_append_2 _ _) (PySem.list_append l its.toArray n u (by rw [List.size_toArray]; omega)) ⟨e, ?_⟩
  refine ⟨.non, _, I.lset (its' := its ++ [u]) hH e (by simp) (r.append (.cons ru .nil)) ?_, rfl, q⟩
  rw [List.length_append, List.length_singleton]
  omega

/-! ### list + list, list += list, list * int -/
def rCat : R2 := fun x y H Q => ∃ l b xs zs, x = .ref l ∧ y = .ref b ∧ H l = some (.lst xs) ∧ H b = some (.lst zs) ∧ xs.length + zs.length ≤ sizeLine ∧ ∀ p, H p = none → Q (.ref p) (upd H p (.lst (xs ++ zs)))
theorem op_cat : OpR X (binaryOp .Add) rCat := by
  intro pins s σ H x y v u Q I rx ry h
  obtain ⟨l, b, xs, zs, rfl, rfl, hH, hB, hz, q⟩ := h
  cases rx
  cases ry
  obtain ⟨z, its, n, r, hl, e⟩ := I.lstM hH
  obtain ⟨z2, its2, n2, r2, hl2, e2⟩ := I.lstM hB
  refine PySem.P.add_list e e2 ?_ (by rw [List.size_toArray, List.size_toArray]; omega)
  have ea : its.toArray ++ its2.toArray = (its ++ its2).toArray := by simp
  rw [ea]
  exact ⟨.ref _, _, I.lnew (t' := s.toks) (r.append r2) (by rw [List.length_append]; omega), rfl, q _ I.fresh⟩
/-! ### del xs[i] -/
end

/-! ### xs[a:b] = ys -/
section
variable {prog : Program} {w : World} {A : Around} {E : Value → Shared → Prop} {s : Shared}
set_option maxRecDepth 100000 in
end

section
variable {X : Cx}
end
end L2

namespace Att
open PySem PySem.W PySem.Calls PyProof.Rows

/-! ### the script -/
theorem ints_of_wellAll {P : Params} {h : Heap} : ∀ (ns : List Int) (vs : List Value), WellAll P h vs (ns.map WData.int) → IntsAre vs ns := by
  intro ns
  induction ns with
  | nil =>
    intro vs w
    rw [List.map_nil] at w
    cases w
    exact .nil
  | cons n ns ih =>
    intro vs w
    rw [List.map_cons] at w
    cases w with
    | cons a b =>
      cases a
      exact .cons _ _ (ih _ b)

theorem script_of {l : OpenLaw} {n : Nat} (hn : l.most = some n) {P : Params} {h : Heap} {args : List WData} {vals : List Value}
    (hpre : l.row.toRowW.claim.pre args = true) (hwl : WellAll P h vals args) :
    ∃ a vs ns, vals = [Value.ref a] ∧ args = [WData.list (ns.map WData.int)] ∧ h.get? a = some { cls := .type "list", data := .seq vs.toArray } ∧ IntsAre vs ns ∧ ns.length ≤ n := by
  have hsh : WShape.hasAll [] args [.list .int] = true := (pre_splitW hpre).1
  have hc : l.pre.holds [] { args := args } = true := (pre_splitW hpre).2
  obtain ⟨d, r, rfl, h1, h2⟩ := hasAllW_cons hsh
  obtain rfl := hasAllW_nil h2
  obtain ⟨xs, rfl, h3⟩ := hasW_list h1
  obtain ⟨ns, rfl⟩ := items_int h3
  have hlen : ns.length ≤ n := by
    unfold OpenLaw.pre at hc
    have h4 : (WTm.not (.lt (.lit (.int (n : Int))) (.len (.arg 0)))).holds [] { args := [.list (ns.map .int)] } = true := by
      have h4 := (holds_andW hc).1
      rw [hn] at h4
      exact h4
    have h5 := condW_of h4 (w_not (w_lt w_lit (w_len_list (w_arg rfl))))
    rw [List.length_map] at h5
    refine Nat.le_of_not_lt fun q => ?_
    have q' : (n : Int) < ((ns.length : Nat) : Int) := by omega
    first
      | (rw [decide_eq_true q'] at h5; exact absurd h5 (by decide))
      | (simp at h5; omega)
  cases hwl with
  | cons w1 w2 =>
    cases w2
    cases w1 with
    | list ho hall => exact ⟨_, _, ns, rfl, rfl, ho, ints_of_wellAll ns _ hall, hlen⟩

theorem post_true (l : OpenLaw) (args : List WData) : l.row.toRowW.claim.post args (.bool true) args = true :=
  postW_of (r := l.row.toRowW) (X := (true == true))
    (show WShape.has [] (.bool true) .bool = true by first | rfl | decide | simp [WShape.has, WShape.arms, WShape.armsAll])
    (show (WTm.eq .res (.lit (.bool true))).value [] { args := args, res := some (.bool true), after := args } = some (.bool (true == true)) from w_eq_bool (w_res rfl) w_lit) rfl

/-! ### the attachment: holds_open's last premise (the goal 'hc' behind k_head) from a wpAny of the law's body -/
/-- the same from a codeAny of the CALL (for a layer whose function contracts speak of calls) -/
theorem attach_call {l : OpenLaw} {n : Nat} {q : Program} {loose : List Str} {XP : (Str → Option Value) → Heap → Prop} {YP : World → Heap → Prop} {d : DefRec}
    (hn : l.most = some n) (hdf : d.params.defaults = [])
    (call : ∀ (w : World) (s₀ s₁ : Shared) (mg mb : Str → Option Value) (fa : Addr) (o : Obj) (pm cd doc : Value) (a : Addr) (vs : List Value) (ns : List Int),
      Ground q loose [] XP w s₀ mg mb s₁.heap → YP w s₁.heap →
      s₁.heap.get? fa = some o → o.data = .func (docDef d.name d.params d.body d.scope pm cd doc) → s₁.heap.CodeRec cd d.name → mg d.name = some (.ref fa) →
      s₁.heap.get? a = some { cls := .type "list", data := .seq vs.toArray } → IntsAre vs ns → ns.length ≤ n → s₁.gens = #[] →
      codeAny (model l.prog w) callerA (.call (.ref fa) ⟨[.ref a], []⟩) (fun r s' => r = .ok (.ret (.bool true)) ∧ OldK s₁.heap s'.heap ∧ s'.os = s₁.os ∧ AllBare s'.gens) s₁) :
    WalkO q loose XP YP l.row.toRowW d [] (fun f vs => PySem.call f vs) := by
  intro w s₀ s₁ mg mb G Y fa o pm cd doc dV kV ho hd hcd hD hmg hg args vals as hpre hlay hrd hwl hlo
  obtain rfl : dV = .none := Dflts.none hD hdf
  obtain rfl : kV = .none := Dflts.noKw hD
  obtain ⟨a, vs, ns, rfl, rfl, hobj, hints, hlen⟩ := script_of hn hpre hwl
  refine enter_call (codeAny_mono (call w s₀ s₁ mg mb fa o pm cd doc a vs ns G Y ho (fd_plain hd) hcd hmg hobj hints hlen hg) fun r s' hq => ?_)
  obtain ⟨rfl, h2, h3, h4⟩ := hq
  exact ⟨.inl ⟨.bool true, .bool true, [], rfl, fun _ => rfl, .bool true, post_true l _, fun _ => ⟨List.Pairwise.nil, fun _ hm => (nomatch hm)⟩⟩, h2, h3, h4⟩

/-! ### rules over ANY heap (no ledger) from facts about the written part K: the library's own take a ledger (News) for what they write -/
section
variable {prog : Program} {w : World} {A : Around} {E : Value → Shared → Prop} {s : Shared} {K : Frag}

/-! the whole heap as the ledger: makes every rule that writes through a ledger a rule over any heap -/
def ledger (h : Heap) (L d : Addr) : List (Addr × Obj) := (List.range h.objs.size).filterMap fun a => if a = L ∨ a = d then none else (h.get? a).map fun o => (a, o)
end
end Att

namespace L2
open PySem PySem.Spec PyProof.Rows

theorem vals_ints : ∀ {vs : List Value} {ns : List Int}, IntsAre vs ns → Vals (ns.map V.int) vs
  | _, _, .nil => .nil
  | _, _, .cons n t h => .cons ⟨t, rfl⟩ (vals_ints h)

/-- nothing is tracked but the script, known to the object (or it is an object of the module) -/
def Only (H : Hp) : Prop := ∀ b, H b = none ∨ ∃ o xs, H b = some (.frz o (.lst xs))

/-- THE HEAD: the law's promise, at the heap behind the top. F, the promise of the law's def, may use that base is part of the heap (so K.In base, base.Ns mainGlobals mg stand in Mod) -/
theorem law_call {P : Program} {w : World} {K : PySem.W.Frag} {mg mb : Str → Option Value} {CX : CXT} {k : Nat} {fa a : Addr} {fd : FuncData} {x : Str} {sp : Sp} {s₁ : Shared} {vs : List Value} {ns : List Int}
    (KX : K.In s₁.heap) (hns : s₁.heap.Ns mainGlobals mg) (hb : s₁.heap.Ns builtinsNs mb) (hbb : ∀ x : Str, x ≠ "__name__" → mb x = bootBuiltins x) (hlim : s₁.heap.NoLimit) (hg : s₁.gens = #[])
    (ha : s₁.heap.get? a = some { cls := .type "list", data := .seq vs.toArray }) (hi : IntsAre vs ns) (hl : ns.length ≤ sizeLine) (hr : Room k callerA)
    (F : ∀ base : Heap, K.In base → base.Ns mainGlobals mg → FnOk P w K mg base CX k fa fd [x] sp) (hbind : ∀ (s : Shared) (u : Value), BindsTo s fd ⟨[u], []⟩ [(x, u)])
    (hsp : ∀ H : Hp, Only H → SqL K H a (ns.map V.int) → sp [.ref a] H (fun v _ => v = .bl true) fun _ _ _ => False)
    (hCX : ∀ H e s', CX [] H s₁ (fun _ _ _ => False) e s' → False) :
    codeAny (model P w) callerA (.call (.ref fa) ⟨[.ref a], []⟩) (fun r s' => r = .ok (.ret (.bool true)) ∧ OldK s₁.heap s'.heap ∧ s'.os = s₁.os ∧ AllBare s'.gens) s₁ := by
  have rv := vals_ints hi
  have lenV := hi.length
  -- from an abstract heap in which nothing but the script may be tracked
  have core : ∀ H : Hp, Only H → SqL K H a (ns.map V.int) → HOk P w H s₁.heap → (∀ b, H b ≠ none → b = a) → (H a ≠ none → K.lookup a = none) →
      codeAny (model P w) callerA (.call (.ref fa) ⟨[.ref a], []⟩) (fun r s' => r = .ok (.ret (.bool true)) ∧ OldK s₁.heap s'.heap ∧ s'.os = s₁.os ∧ AllBare s'.gens) s₁ := by
    intro H hO hS hok hA hK
    have base_of : ∀ {b : Addr} {o : Obj}, s₁.heap.get? b = some o → H b = none → (hidT s₁.heap H).get? b = some o := fun e n => hidT_get e n
    have noA : ∀ {b : Addr} {o : Obj} {es : Array DictEntry} {ep : Nat}, s₁.heap.get? b = some o → o.data = .dict es ep → H b = none := fun {b o es ep} e d => by
      cases q : H b with
      | none => rfl
      | some u =>
        have e' : b = a := hA b (by rw [q]; simp)
        subst e'
        rw [ha] at e; cases e
        have d' : Data.seq vs.toArray _ = Data.dict es ep := d
        cases d'
    have nsK : ∀ {b : Addr} {m : Str → Option Value}, s₁.heap.Ns b m → (hidT s₁.heap H).Ns b m := fun {b m} ⟨o, es, ep, e, d, r⟩ => ⟨o, es, ep, base_of e (noA e d), d, r⟩
    have hKb : K.In (hidT s₁.heap H) := fun b o e => base_of (KX b o e) (by
      cases q : H b with
      | none => rfl
      | some u =>
        have e' : b = a := hA b (by rw [q]; simp)
        subst e'
        rw [hK (by rw [q]; simp)] at e; cases e)
    have hM : Mod K mg (hidT s₁.heap H) := ⟨hKb, nsK hns, ⟨mb, nsK hb, hbb⟩, let ⟨mc, h1, h2⟩ := hlim; ⟨mc, nsK h1, h2⟩⟩
    have e0 : Env0 P w K mg (hidT s₁.heap H) callerA [] s₁ H := ⟨rfl, hM, fun b o e => of_hidT e, Nat.le_of_eq (hidT_size _ _), trivial, fun b hb => absurd (show b ∈ ([] : List Addr) from hb) (by simp), hok, .of_eq hg⟩
    refine codeAny_mono ((F _ hKb (nsK hns)).run callerA [] s₁ H ⟨[.ref a], []⟩ [.ref a] [.ref a] _ _ hr e0 (hbind s₁ (.ref a)) (.cons rfl .nil) (hsp H hO hS)) fun r s' h => ?_
    cases r with
    | error e => exact (hCX H e s' h).elim
    | ok fl =>
      cases fl with
      | next => exact False.elim h
      | brk => exact False.elim h
      | cont => exact False.elim h
      | ret u =>
        obtain ⟨v, H', os, bare, un, hok', r', q⟩ := h
        have q' : v = .bl true := q
        subst q'
        obtain rfl : u = Value.bool true := r'
        refine ⟨rfl, OldK.of_keep fun b o e => ?_, os, bare⟩
        cases q : H b with
        | none => exact un.keep b o e q (by intro z; exact absurd (show b ∈ ([] : List Addr) from z) (by simp)) (by simp)
        | some u =>
          rcases hO b with z | ⟨ob, xs, z⟩
          · rw [q] at z; cases z
          · have z2 := un.frzs b ob _ z
            obtain ⟨e1, _⟩ := hok b _ z
            obtain ⟨e2, _⟩ := hok' b _ z2
            rw [e] at e1; cases e1
            exact e2
  cases hk : K.lookup a with
  | some o =>
    -- the script is one of the module's own objects
    have e := KX a o hk
    rw [ha] at e
    cases e
    refine core (fun _ => none) (fun _ => .inl rfl) (.inr ⟨_, vs.toArray, _, hk, rfl, rfl, rfl, by rw [List.size_toArray, lenV]; exact hl, by simpa using rv⟩) (fun b u z => by have z' : (none : Option HO) = some u := z; cases z') (fun b z => absurd rfl z) fun z => absurd rfl z
  | none =>
    refine core (fun b => if b = a then some (.frz { cls := .type "list", data := .seq vs.toArray } (.lst (ns.map V.int))) else none) (fun b => ?_) (.inl (.inr ⟨{ cls := .type "list", data := .seq vs.toArray }, if_pos rfl⟩)) (fun b u z => ?_) (fun b z => ?_) fun _ => hk
    · by_cases hb : b = a
      · exact .inr ⟨_, _, if_pos hb⟩
      · exact .inl (if_neg hb)
    · by_cases hb : b = a
      · have z' := (if_pos hb).symm.trans z
        cases z'
        subst hb
        exact ⟨ha, by rw [List.length_map]; exact hl, vs, _, rv, ha⟩
      · have z' := (if_neg hb).symm.trans z
        cases z'
    · by_cases hb : b = a
      · exact hb
      · exact absurd (if_neg hb) z
end L2

namespace L2
open PySem PySem.Spec PyProof.Rows

/-- the goal that k_head leaves (case hc), from the law's promise. F gives the function object fd (K's own) once, then the promise over every base -/
theorem walk_of {l : PySem.W.OpenLaw} {n k : Nat} {q : Program} {loose : List Str} {XP : (Str → Option Value) → Heap → Prop} {YP : World → Heap → Prop} {d : DefRec} {K : Params → PySem.W.Frag} {CX : World → CXT} {sp : World → Sp} {x : Str}
    (hn : l.most = some n) (hn2 : n ≤ sizeLine) (hdf : d.params.defaults = []) (hr : Room k callerA)
    (hY : ∀ (w : World) (h : Heap), YP w h → (K w.params).In h)
    (F : ∀ (w : World) (mg : Str → Option Value) (fa : Addr) (h : Heap), (K w.params).In h → h.Ns mainGlobals mg → mg d.name = some (.ref fa) →
      ∃ fd : FuncData, (∀ (s : Shared) (u : Value), BindsTo s fd ⟨[u], []⟩ [(x, u)]) ∧
        ∀ base : Heap, (K w.params).In base → base.Ns mainGlobals mg → FnOk l.prog w (K w.params) mg base (CX w) k fa fd [x] (sp w))
    (hsp : ∀ (w : World) (H : Hp) (a : Addr) (ns : List Int), ns.length ≤ n → Only H → SqL (K w.params) H a (ns.map V.int) → sp w [.ref a] H (fun v _ => v = .bl true) fun _ _ _ => False)
    (hCX : ∀ (w : World) (H : Hp) (s : Shared) (e : Value) (s' : Shared), CX w [] H s (fun _ _ _ => False) e s' → False) :
    PySem.W.WalkO q loose XP YP l.row.toRowW d [] (fun f vs => PySem.call f vs) := by
  refine Att.attach_call hn hdf fun w s₀ s₁ mg mb fa o pm cd doc a vs ns G Y ho hd hcd hmg hobj hints hlen hg => ?_
  have KX := hY w _ Y
  obtain ⟨fd, hb, hF⟩ := F w mg fa _ KX G.T.g hmg
  exact law_call KX G.T.g G.T.b G.T.builtins G.T.nolimit hg hobj hints (Nat.le_trans hlen hn2) hr hF hb (fun H hO hS => hsp w H a ns hlen hO hS) fun H e s' => hCX w H s₁ e s'
end L2


/-! SHORT WORDS over the layer: a def of the text, its body, what a loop and a test want. -/
namespace L2
open PySem PySem.Spec PyProof.Rows

/-! ### the text by places -/
def defArgs (s : Stmt) : Arguments := match s with
  | .FunctionDef _ a _ _ _ _ _ _ _ _ => a
  | _ => { posonlyargs := [], args := [], vararg := none, kwonlyargs := [], kw_defaults := [], kwarg := none, defaults := [] }
def defBody (s : Stmt) : List Stmt := match s with
  | .FunctionDef _ _ b _ _ _ _ _ _ _ => b
  | _ => []
def defScope (s : Stmt) : Scope := match s with
  | .FunctionDef _ _ _ _ _ _ sc _ _ _ => sc
  | _ => { kind := .function, names := [], isGenerator := false, isCoroutine := false }

/-! ### no exception leaves a def -/
abbrev CX0 : CXT := fun _ _ _ _ _ _ => False
abbrev E0 : XK := fun _ _ _ => False
theorem pass0 {X : Cx} : Passes CX0 X E0 := fun _ _ _ _ _ _ _ h => h.elim

/-! ### a def (or method) of the text as it stands behind the top -/
structure Fun (K : PySem.W.Frag) (x qual : Str) (st : Stmt) (f : Addr) (fd : FuncData) : Prop where
  ex : ∃ (oc : Value) (od : Option Addr) (kV doc pm : Value) (an : Option Addr) (cdv ct : Value) (osl : Array (Option Value)),
    fd = PySem.W.fnOf x qual (defArgs st) (defBody st) (defScope st) .none kV doc pm an cdv ct ∧ K.lookup f = some ⟨oc, od, .func fd, osl⟩ ∧ PySem.W.codeIn K cdv qual = true
  kp : PySem.W.keepIn K (.ref f) = true
section
variable {P : Program} {w : World} {K : PySem.W.Frag} {mg : Str → Option Value} {base : Heap}
/-- THE RULE for a def: its body as a term of rules, and the reading of that term -/
theorem Fun.ok {x qual : Str} {st : Stmt} {f : Addr} {fd : FuncData} {N ps : List Str} {k : Nat} {sp : Sp} (F : Fun K x qual st f fd) (S : FnScope N ps (defScope st)) (len : ∀ vs H Q E, sp vs H Q E → vs.length = ps.length)
    (hbody : ∀ (cdv : Value) (A : Around) (outer : List Env) (s : Shared) (H : Hp) (vs : List V) (Q : VK) (E : XK), Room k (A.deeper (envOfC qual (defScope st) s.heap.objs.size f cdv)) → sp vs H Q E →
      ∃ t, PSs (cxOf CX0 P w K mg base N qual (defScope st) f cdv A outer s H E).nox (defBody st) t ∧ t { nx := fun _ H' => Q .non H', rt := Q } (start N vs) H) : FnOk P w K mg base CX0 (k + 1) f fd ps sp := by
  obtain ⟨oc, od, kV, doc, pm, an, cdv, ct, osl, rfl, lk, hcd⟩ := F.ex
  refine fn_of lk hcd S len fun A outer s H vs Q E hr hsp => ?_
  obtain ⟨t, h, q⟩ := hbody cdv A outer s H vs Q E hr hsp
  exact ⟨t, h.nox, q⟩
/-- how its arguments bind (no defaults): h is «fun _ _ _ _ _ _ us hl => match us, hl with | [_, _], _ => rfl», one _ a parameter -/
theorem Fun.binds {x qual : Str} {st : Stmt} {f : Addr} {fd : FuncData} {ps : List Str} (F : Fun K x qual st f fd)
    (h : ∀ (kV doc pm : Value) (an : Option Addr) (cdv ct : Value) (us : List Value), us.length = ps.length → bindArgs (PySem.W.fnOf x qual (defArgs st) (defBody st) (defScope st) .none kV doc pm an cdv ct) ⟨us, []⟩ = pure (ps.zip us)) : Binds K fd ps [] := by
  obtain ⟨oc, od, kV, doc, pm, an, cdv, ct, osl, rfl, lk, hcd⟩ := F.ex
  exact .all (h kV doc pm an cdv ct)
theorem fun_mk {x qual : Str} {st : Stmt} {f : Addr} {oc : Value} {od an : Option Addr} {osl : Array (Option Value)} {kV doc pm cdv ct : Value} (l : K.lookup f = some ⟨oc, od, .func (PySem.W.fnOf x qual (defArgs st) (defBody st) (defScope st) .none kV doc pm an cdv ct), osl⟩)
    (c : PySem.W.codeIn K cdv qual = true) (k : PySem.W.keepIn K (.ref f) = true) : Fun K x qual st f (PySem.W.fnOf x qual (defArgs st) (defBody st) (defScope st) .none kV doc pm an cdv ct) := ⟨⟨oc, od, kV, doc, pm, an, cdv, ct, osl, rfl, l, c⟩, k⟩
end
/-! ### expressions in short: the name that stands in the i-th slot -/
section
variable {X : Cx}
theorem pv (i : Nat) {x : Str} {pos : Pos} (hN : X.N[i]? = some x := by rfl) (hv : Vis X.env.scope x := by first | exact Or.inl rfl | exact Or.inr (Or.inl rfl) | exact Or.inr (Or.inr rfl)) (hd : (x == ("__debug__" : Str)) = false := by decide)
    (hcd : (x == ("__classdict__" : Str)) = false := by decide) : PE X (.Name x pos) (tVar i) := pe_var hN hv hd hcd
end

/-! ### tests -/
theorem iteF {A B : Prop} (h : B) : if false = true then A else B := by
  rw [if_neg Bool.false_ne_true]
  exact h
theorem iteT {A B : Prop} (h : A) : if true = true then A else B := by
  rw [if_pos rfl]
  exact h
/-! ### heaps -/
/-- all that was tracked is as it was -/
def Same (H H' : Hp) : Prop := ∀ b o, H b = some o → H' b = some o
theorem Same.refl (H : Hp) : Same H H := fun _ _ h => h
theorem Same.trans {H H1 H2 : Hp} (a : Same H H1) (b : Same H1 H2) : Same H H2 := fun c o h => b c o (a c o h)
theorem Same.free {H H' : Hp} (e : Same H H') {l : Addr} (h : H' l = Option.none) : H l = Option.none := by
  cases q : H l with
  | none => rfl
  | some o =>
    rw [e l o q] at h
    cases h
theorem Same.seq {K : PySem.W.Frag} {H H' : Hp} {a : Addr} {xs : List V} (e : Same H H') (h : SqL K H a xs) : SqL K H' a xs := by
  rcases h with (h | ⟨o, h⟩) | h
  · exact .inl (.inl (e _ _ h))
  · exact .inl (.inr ⟨o, e _ _ h⟩)
  · exact .inr h

end L2

section
namespace L2
open PySem PySem.Spec PyProof.Rows
/-! ### more rules: texts, ranges down, comprehensions -/
section
variable {X : Cx}
theorem mt_bitlen : MtR X "int.bit_length" (fun x xs H Q => ∃ i, x = .int i ∧ xs = [] ∧ Q (.int ((Builtin.Int.intBits i : Nat) : Int)) H) := by
  intro pins s σ H x xs v us Q I rx rv h
  obtain ⟨i, rfl, rfl, q⟩ := h
  obtain ⟨t, rfl⟩ := rx
  cases rv
  exact call_gives F.slot_int_bit_length (typeIs_int s i t) F.entry_int_bit_length (F.args_int_bit_length_1 _) (AutoIntG2.int_bit_length_int_0 i t) ⟨.int _, H, I.tok _, ⟨_, rfl⟩, q⟩
theorem strs_of : ∀ {ys : List Str} {its : List Value}, Vals (ys.map V.str) its → StrsAre its ys
  | [], _, .nil => .nil
  | _ :: _, _, .cons ⟨_, e⟩ r => by subst e; exact .cons _ _ (strs_of r)
/-- sep.join(a list of texts) -/
theorem mt_join : MtR X "str.join" (fun x xs H Q => ∃ y a ys, x = .str y ∧ xs = [.ref a] ∧ SqL X.K H a (ys.map V.str) ∧ (ys.map (·.length)).sum + ys.length * y.length ≤ 16777216 ∧ Q (.str (Txt.join y ys)) H) := by
  intro pins s σ H x xs v us Q I rx rv h
  obtain ⟨y, a, ys, rfl, rfl, hq, hz, q⟩ := h
  obtain ⟨t, rfl⟩ := rx
  obtain ⟨u, rfl, ru⟩ := rv.one
  cases ru
  obtain ⟨its, r, pl, _⟩ := I.list hq
  exact join_list pl.isList (by simpa using strs_of r) hz fun t' k => ⟨.str _, H, I.tok _, ⟨_, rfl⟩, q⟩
theorem op_mul_str : OpR X (binaryOp .Mult) (fun x y H Q => ∃ z i, x = .str z ∧ y = .int i ∧ i < 2 ^ 40 ∧ -(2 ^ 40) < i ∧ z.length * i.toNat ≤ sizeLine ∧ Q (.str (Txt.mul z i)) H) := by
  intro pins s σ H x y v u Q I rx ry h
  obtain ⟨z, i, rfl, rfl, h1, h2, h3, q⟩ := h
  obtain ⟨t, rfl⟩ := rx
  obtain ⟨t', rfl⟩ := ry
  refine SB.mul ⟨?_, fun h4 _ => ?_, fun h4 _ => ?_⟩ fun t' k => ⟨.str _, H, I.tok _, ⟨_, rfl⟩, q⟩
  · simp only [Bool.or_eq_false_iff, decide_eq_false_iff_not]; omega
  · intro c
    have hn : (0 : Int) < i := by omega
    have h63 := line63
    have e : (z.length : Int) * i ≤ 2 ^ 63 - 1 := by
      have : ((z.length * i.toNat : Nat) : Int) = (z.length : Int) * i := by rw [Int.natCast_mul]; congr 1; omega
      omega
    have := (Int.le_ediv_iff_mul_le hn).mpr e
    omega
  · unfold Builtin.Str.tooLong; simpa using h3
theorem sl_str : SlR X (fun x lo hi H Q => ∃ z, x = .str z ∧ z.length ≤ sizeLine ∧ Q (.str (Txt.slice z lo hi)) H) := by
  intro pins s σ H x v vl vu lo hi sl Q I rx hs pl pu h
  obtain ⟨z, rfl, hz, q⟩ := h
  obtain ⟨t, rfl⟩ := rx
  refine ⟨"str", _, F.slot_str_getitem.lookup, typeIs_str s z t, ?_⟩
  have fin : ∀ (t' : Tok) (k : Nat), EP X pins σ Q (.str (Txt.slice z lo hi) t') { s with toks := k } := fun t' k => ⟨.str _, H, I.tok _, ⟨_, rfl⟩, q⟩
  obtain ⟨o, ho, hc, hd⟩ := hs
  cases pl with
  | none =>
    cases pu with
    | none => exact wpAny_getItem_str_slice (l := none) (u := none) (st := none) ⟨o, ho, hc, hd⟩ rfl (post_val_or_str ⟨Nat.le_trans (Txt.slice_le z _ _) hz, fin⟩)
    | int j uj => exact wpAny_getItem_str_slice (l := none) (u := some (j, uj)) (st := none) ⟨o, ho, hc, hd⟩ rfl (post_val_or_str ⟨Nat.le_trans (Txt.slice_le z _ _) hz, fin⟩)
  | int i ui =>
    cases pu with
    | none => exact wpAny_getItem_str_slice (l := some (i, ui)) (u := none) (st := none) ⟨o, ho, hc, hd⟩ rfl (post_val_or_str ⟨Nat.le_trans (Txt.slice_le z _ _) hz, fin⟩)
    | int j uj => exact wpAny_getItem_str_slice (l := some (i, ui)) (u := some (j, uj)) (st := none) ⟨o, ho, hc, hd⟩ rfl (post_val_or_str ⟨Nat.le_trans (Txt.slice_le z _ _) hz, fin⟩)
/-- isinstance(x, T), T a built-in type -/
theorem call_isinst : CallR X (.builtin "isinstance") (fun xs H Q => ∃ x T t b, xs = [x, .ty T] ∧ TyOf X.K H x t ∧ PySem.W.kitOne X.K t (.type T) = some b ∧ Q (.bl b) H) := by
  intro pins s σ H xs us Q I r h
  obtain ⟨x, T, t, b, rfl, ty, e, q⟩ := h
  obtain ⟨u, w', rfl, r1, r2⟩ := vals2 r
  cases (show w' = Value.type T from r2)
  exact isinst_ok I r1 ty e fun tk => ⟨.bl b, H, I.tok _, rfl, q⟩
/-- isinstance(x, C), C a class of the text -/
theorem call_isinstC : CallR X (.builtin "isinstance") (fun xs H Q => ∃ x C t b, xs = [x, .ref C] ∧ TyOf X.K H x t ∧ PySem.W.kitOne X.K t (.ref C) = some b ∧ Q (.bl b) H) := by
  intro pins s σ H xs us Q I r h
  obtain ⟨x, C, t, b, rfl, ty, e, q⟩ := h
  obtain ⟨u, w', rfl, r1, r2⟩ := vals2 r
  cases (show w' = Value.ref C from r2)
  exact isinst_ok I r1 ty e fun tk => ⟨.bl b, H, I.tok _, rfl, q⟩
end
/-! ### a range with a step -/
/-- lo, lo + c, .. (n of them) -/
def Itc (lo c : Int) (n : Nat) : It := ⟨fun i _ => i < n, fun i H x H' => H' = H ∧ x = .int (lo + i * c), fun i _ => n ≤ i⟩
theorem turn_rangeC {P : Program} {w : World} {K : PySem.W.Frag} {tg : Expr} (it : Addr) (lo c : Int) (n : Nat) : Turn P w K tg (Itc lo c n) [it] it (fun i h => IsRangeIter h it (lo + (i : Nat) * c) ((n : Int) - (i : Nat)) c) where
  mem := by simp
  obj := fun i h st b hb => by
    have e : b = it := by simpa using hb
    subst e
    exact ⟨_, st, fun v z => by
      have z' : Data.fields _ = Data.cell v := z
      cases z'⟩
  keep := fun i h h' st k => k it (by simp) _ st
  item := by
    intro X hP hw hK hc i pins s σ H E I hf st hg
    subst hP hw hK
    obtain ⟨f0, f1, f2, f3, f4, f5⟩ := hf it (by simp)
    have W := Walks.range (prog := X.prog) (w := X.w) (I.ok.hd hc) it lo c n
    refine W.item i s _ _ hg st fun v h' tk hv st' kk => ?_
    obtain ⟨t, rfl⟩ := hv
    have I1 : Inv X pins σ H { s with heap := h', toks := tk } := I.turned (fun b o hb e => kk b o (by simpa using hb) e) f0 f1 f3 f4 f5
    exact ⟨_, rfl, go_of (s := { s with heap := h', toks := tk }) (n := "range_iterator") st' rfl rfl (by decide) ⟨.int (lo + i * c), H, I1, ⟨t, rfl⟩, ⟨rfl, rfl⟩, st', fun b hb => (hf b hb).1⟩⟩
  done := by
    intro X hP hw hK hc i pins s σ H E I hf st hg
    subst hP hw hK
    obtain ⟨f0, f1, f2, f3, f4, f5⟩ := hf it (by simp)
    exact wpAny_pyNext_range_end (I.ok.hd hc) st (by have : n ≤ i := hg; omega) fun h' eb => ⟨rfl, I.turned (t' := s.toks) (fun b o hb e => eb b o hb e) f0 f1 f3 f4 f5⟩
  self := fun _ _ _ _ _ st h => wpAny_pyIter_rangeiter st h
section
variable {X : Cx} {tg : Expr}
/-- range(a, b, -1) -/
def iRngD (ta : TA) : TI := fun σ H R => ta σ H fun vs H1 => ∃ i j : Int, vs = [.int i, .int j, .int (-1)] ∧ (-(2 ^ 61) ≤ i ∧ i < 2 ^ 61 ∧ -(2 ^ 61) ≤ j ∧ j < 2 ^ 61) ∧ R (Itc i (-1) (i - j).toNat) H1
end
end L2

end

section
namespace L2
open PySem PySem.Spec PyProof.Rows
/-! ### range(a, b, -1) -/
section
variable {X : Cx} {tg : Expr}
theorem small_down {a b : Int} (ha : -(2 ^ 61) ≤ a) (ha' : a < 2 ^ 61) (hb : -(2 ^ 61) ≤ b) (hb' : b < 2 ^ 61) : Builtin.Range.small a b (-1) = true := by
  unfold Builtin.Range.small Builtin.Range.rangeSize
  simp only [Builtin.Range.rangeFitsLong, Bool.and_eq_true, Bool.or_eq_true, decide_eq_true_eq, beq_iff_eq, show ¬ ((-1 : Int) > 0) by decide, if_false, Int.neg_neg, Int.ediv_one]
  split <;> omega
theorem rangeSize_down (a b : Int) : Builtin.Range.rangeSize a b (-1) = (((a - b).toNat : Nat) : Int) := by
  unfold Builtin.Range.rangeSize
  rw [if_neg (by decide)]
  simp only [Int.neg_neg, Int.ediv_one]
  split <;> omega
theorem pi_rangeD {a b c : Expr} {ta : TA} {p pos : Pos} (hg : Gl X "range") (hm : X.mg "range" = none) (ha : PA X [a, b, c] ta)
    (hs : starEach [a, b, c] X.env = [(false, eval a X.env), (false, eval b X.env), (false, eval c X.env)] := by rfl) (hs2 : starEach [b, c] X.env = [(false, eval b X.env), (false, eval c X.env)] := by rfl) :
    PI X tg (.Call (.Name "range" p) [a, b, c] [] pos) (iRngD ta) := by
  intro pins s σ H R I h
  refine Call_ (ld_blt I hg hm boot_range (PyProof.Rows.callWith_type1 (thn (ha pos pins s σ H _ I h) fun us s1 ⟨vs, H1, I1, r1, q1⟩ => ?_) (by rw [hs, hs2]) (by rw [hs2]; rfl)))
  obtain ⟨i, j, e, ⟨q1, q2, q3, q4⟩, q⟩ := q1
  subst e
  cases r1 with
  | cons r rr =>
    cases rr with
    | cons r' rr =>
      cases rr with
      | cons r'' rr =>
        cases rr
        obtain ⟨t, rfl⟩ := r
        obtain ⟨t', rfl⟩ := r'
        obtain ⟨t'', rfl⟩ := r''
        refine call_range_3 (by decide) ?_ (.inl (PyProof.noPylong_small (by decide)))
        refine wpAny_pyIter_range (IsRange.new ..) (small_down q1 q2 q3 q4) ?_
        have I2 : Inv X pins σ H1 { s1 with heap := s1.heap.push { cls := .type "range", data := .fields #[.int i t, .int j t', .int (-1) t''] } } := I1.kept (t' := s1.toks) fun b o e => Heap.get?_push_of_some _ e
        refine ⟨_, [_], _, _, H1, rfl, I2.kept (t' := s1.toks) fun b o e => Heap.get?_push_of_some _ e, turn_rangeC _ i (-1) (i - j).toNat, ?_, fun b hb => ?_, q⟩
        · have e1 : i + ((0 : Nat) : Int) * (-1) = i := by simp
          have e2 : (((i - j).toNat : Nat) : Int) - ((0 : Nat) : Int) = Builtin.Range.rangeSize i j (-1) := by rw [rangeSize_down]; simp
          show IsRangeIter _ _ (i + ((0 : Nat) : Int) * (-1)) ((((i - j).toNat : Nat) : Int) - ((0 : Nat) : Int)) (-1)
          rw [e1, e2]
          exact Heap.get?_push_size _ rfl
        · have e := List.mem_singleton.mp hb
          subst e
          exact I2.fpOk (Nat.le_refl _) (I2.hok.fresh (Nat.le_refl _))
end
/-! ### a text's signs -/
def Its (x : Str) : It := ⟨fun i _ => i < x.cps.size, fun i H v H' => H' = H ∧ ∃ c, x.cps[i]? = some c ∧ v = .str ⟨#[c]⟩, fun i _ => x.cps.size ≤ i⟩
section
variable {X : Cx} {tg : Expr}
theorem turn_str {P : Program} {w : World} {K : PySem.W.Frag} {tg : Expr} (x : Str) (it : Addr) (n : String) (t : Tok) (W : ∀ A' : Around, A'.handled = none → Walks P w A' it [it] [it] x.cps.size (SignAt x) (fun i h => h.IsStrIter it n x t i))
    (hn : ["enumerate", "zip", "dict_itemiterator", "dict_reverseitemiterator", "odict_iterator", "itertools.zip_longest", "itertools.pairwise"].contains n = false)
    (hdone : ∀ (A : Around) (i : Nat) (s : Shared) (Q : Option Value → Shared → Prop) (E : Value → Shared → Prop), A.handled = none → s.heap.IsStrIter it n x t i → x.cps.size ≤ i → (∀ h', (∀ b o, b ≠ it → s.heap.get? b = some o → h'.get? b = some o) → Q none { s with heap := h' }) → wpAny (model P w) A (pyNext (.ref it)) Q E s)
    (hself : ∀ (A : Around) (i : Nat) (s : Shared) (Q : Value → Shared → Prop) (E : Value → Shared → Prop), s.heap.IsStrIter it n x t i → Q (.ref it) s → wpAny (model P w) A (pyIter (.ref it)) Q E s) :
    Turn P w K tg (Its x) [it] it (fun i h => h.IsStrIter it n x t i) where
  mem := by simp
  obj := fun i h st b hb => by
    have e : b = it := by simpa using hb
    subst e
    obtain ⟨o, ho, hc, hd⟩ := st
    exact ⟨o, ho, fun v z => by rw [hd] at z; cases z⟩
  keep := fun i h h' st k => by
    obtain ⟨o, ho, r⟩ := st
    exact ⟨o, k it (by simp) o ho, r⟩
  item := by
    intro X hP hw hK hc i pins s σ H E I hf st hg
    subst hP hw hK
    obtain ⟨f0, f1, f2, f3, f4, f5⟩ := hf it (by simp)
    refine (W X.A (I.ok.hd hc)).item i s _ _ hg st fun v h' tk hv st' kk => ?_
    obtain ⟨c, u, hc', rfl⟩ := hv
    have I1 : Inv X pins σ H { s with heap := h', toks := tk } := I.turned (fun b o hb e => kk b o (by simpa using hb) e) f0 f1 f3 f4 f5
    obtain ⟨o, ho, hcl, hd⟩ := id st'
    exact ⟨_, rfl, go_of (s := { s with heap := h', toks := tk }) (n := n) ho hcl hd hn ⟨.str ⟨#[c]⟩, H, I1, ⟨u, rfl⟩, ⟨rfl, c, hc', rfl⟩, st', fun b hb => (hf b hb).1⟩⟩
  done := by
    intro X hP hw hK hc i pins s σ H E I hf st hg
    subst hP hw hK
    obtain ⟨f0, f1, f2, f3, f4, f5⟩ := hf it (by simp)
    exact hdone X.A i s _ _ (I.ok.hd hc) st hg fun h' eb => ⟨rfl, I.turned (t' := s.toks) (fun b o hb e => eb b o hb e) f0 f1 f3 f4 f5⟩
  self := fun A i s Q E st h => hself A i s Q E st h
def iStr (tl : TE) : TI := fun σ H R => tl σ H fun x H1 => ∃ y, x = .str y ∧ R (Its y) H1
theorem pi_str {l : Expr} {tl : TE} (hl : PE X l tl) : PI X tg l (iStr tl) := by
  intro pins s σ H R I h
  refine thn (hl pins s σ H _ I h) fun v s1 ⟨x, H1, I1, r1, q1⟩ => ?_
  obtain ⟨y, e, q⟩ := q1
  subst e
  obtain ⟨t, rfl⟩ := r1
  have fin : ∀ (o : Obj) (tn : Nat → Heap → Prop), Turn X.prog X.w X.K tg (Its y) [s1.heap.objs.size] s1.heap.objs.size tn → tn 0 (s1.heap.push o) → PIE X pins σ tg R (.ref s1.heap.objs.size) { s1 with heap := s1.heap.push o } := fun o tn T h0 => by
    refine ⟨s1.heap.objs.size, [s1.heap.objs.size], tn, Its y, H1, rfl, I1.kept (t' := s1.toks) fun b o e => Heap.get?_push_of_some _ e, T, h0, fun b hb => ?_, q⟩
    have e := List.mem_singleton.mp hb
    subst e
    exact I1.fpOk (Nat.le_refl _) (I1.hok.fresh (Nat.le_refl _))
  cases ha : y.cps.all (· < 128)
  · refine wpAny_pyIter_wide ha (fin _ _ (turn_str y _ "str_iterator" t (fun A' hA => Walks.strWide hA _ y t) (by decide) (fun A i s Q E hh st hi hQ => ?_) fun A i s Q E st hq => wpAny_pyIter_striter_wide st hq) ⟨_, Heap.get?_push_size _ rfl, rfl, rfl⟩)
    exact wpAny_pyNext_wide_end hh st (by simpa using hi) fun h' he' => hQ h' fun b o hb e => he' b o hb e
  · refine wpAny_pyIter_ascii ha (fin _ _ (turn_str y _ "str_ascii_iterator" t (fun A' hA => Walks.strAscii hA _ y t) (by decide) (fun A i s Q E hh st hi hQ => ?_) fun A i s Q E st hq => wpAny_pyIter_striter_ascii st hq) ⟨_, Heap.get?_push_size _ rfl, rfl, rfl⟩)
    exact wpAny_pyNext_ascii_end hh st (by simpa using hi) fun h' he' => hQ h' fun b o hb e => he' b o hb e
end
/-! ### list comprehensions -/
/-- what is asked of a comprehension's scope: cs the names that it takes from around -/
def compScopeOk (sc : Scope) (cs : List Str) : Bool :=
  sc.kind == .function && sc.names.all (fun y => y.2 != .cell) && sc.names.all (fun y => y.2 != .local || sc.names.lookup y.1 == some .local) &&
    sc.names.all (fun y => y.2 != .free || cs.contains y.1) && cs.all (fun x => sc.names.lookup x == some .free)
/-- the captured names: place in the frame around, name -/
def CapsOk (X : Cx) : List (Nat × Str) → Prop
  | [] => True
  | (j, x) :: r => X.N[j]? = some x ∧ (X.env.kindOf x = some .cell ∨ X.env.kindOf x = some .free) ∧ CapsOk X r
theorem CapsOk.at {X : Cx} : ∀ {cs : List (Nat × Str)}, CapsOk X cs → ∀ p ∈ cs, X.N[p.1]? = some p.2 ∧ (X.env.kindOf p.2 = some .cell ∨ X.env.kindOf p.2 = some .free)
  | [], _, _, h => nomatch h
  | (j, x) :: r, ⟨h1, h2, h3⟩, p, h => by
    rcases List.mem_cons.mp h with e | e
    · subst e; exact ⟨h1, h2⟩
    · exact CapsOk.at h3 p e
def cxComp (X : Cx) (scope : Scope) (cl : List (Str × Addr)) (C : Addr) (N : List Str) (s2 : Shared) (H2 : Hp) (fp : List Addr) : Cx where
  prog := X.prog
  w := X.w
  K := X.K
  mg := X.mg
  base := X.base
  A := X.A
  N := N
  s₀ := s2
  H₀ := H2
  env := compEnvC scope cl C X.env
  outer := X.stack
  stack := X.stack
  ex := fp
  calm := X.calm
  fn := fun _ => false
  pn := []
  xe := fun _ _ => False
theorem closure_of {env : Env} : ∀ (names : List (Str × NameKind)), (∀ y ∈ names, y.2 = .free → ∃ c, env.cells.lookup y.1 = some c) →
    ∀ acc : List (Str × Addr), (∀ x c, acc.lookup x = some c → env.cells.lookup x = some c) → ∃ cl,
    (forIn names acc fun (x : Str × NameKind) r => do
      if x.2 == .free then pure (ForInStep.yield ((x.1, ← cellOf env x.1) :: r)) else pure (ForInStep.yield r) : Sem (List (Str × Addr))) = pure cl ∧
    (∀ x c, cl.lookup x = some c → env.cells.lookup x = some c) ∧ (∀ y ∈ names, y.2 = .free → ∃ c, cl.lookup y.1 = some c) ∧ ∀ x c, acc.lookup x = some c → ∃ c', cl.lookup x = some c'
  | [], _, acc, ha => ⟨acc, rfl, ha, (fun _ h => nomatch h), fun _ c h => ⟨c, h⟩⟩
  | (n, k) :: r, hn, acc, ha => by
    by_cases hk : k = .free
    · subst hk
      obtain ⟨c, hc⟩ := hn _ List.mem_cons_self rfl
      have ha' : ∀ x c', ((n, c) :: acc).lookup x = some c' → env.cells.lookup x = some c' := fun x c' e => by
        rw [List.lookup_cons] at e
        by_cases hx : x = n
        · subst hx
          rw [beq_self_eq_true] at e
          cases e
          exact hc
        · rw [beq_false_of_ne hx] at e
          exact ha x c' e
      obtain ⟨cl, e, h1, h2, h3⟩ := closure_of r (fun y hy => hn y (List.mem_cons_of_mem _ hy)) ((n, c) :: acc) ha'
      refine ⟨cl, ?_, h1, fun y hy hf => ?_, fun x c' hx => ?_⟩
      · rw [List.forIn_cons]
        simp only [cellOf, hc, beq_self_eq_true, if_true]
        exact e
      · rcases List.mem_cons.mp hy with e' | e'
        · subst e'
          exact h3 n c (by rw [List.lookup_cons, beq_self_eq_true])
        · exact h2 y e' hf
      · by_cases hxn : x = n
        · subst hxn
          exact h3 x c (by rw [List.lookup_cons, beq_self_eq_true])
        · exact h3 x c' (by rw [List.lookup_cons, beq_false_of_ne hxn]; exact hx)
    · obtain ⟨cl, e, h1, h2, h3⟩ := closure_of r (fun y hy => hn y (List.mem_cons_of_mem _ hy)) acc ha
      refine ⟨cl, ?_, h1, fun y hy hf => ?_, h3⟩
      · rw [List.forIn_cons]
        have hb : (k == NameKind.free) = false := by simpa using hk
        simp only [hb, Bool.false_eq_true, if_false]
        exact e
      · rcases List.mem_cons.mp hy with e' | e'
        · subst e'
          exact absurd hf hk
        · exact h2 y e' hf
end L2

end

section
namespace L2
open PySem PySem.Spec PyProof.Rows
/-- the turns of a comprehension over J from the block's frame σ0 on, its list at D -/
def CompGo (J : It) (g : TG) (tc : TT) (te : TE) (Q : VK) (σ0 : St) (H1 : Hp) (D : Addr) : Prop :=
  ∃ W : Nat → Nat → St → Hp → Prop, (∃ m, W 0 m σ0 (upd H1 D (.lst []))) ∧ ∀ i m σ1 H2, W i m σ1 H2 →
    (J.stop i H2 ∧ Q (.ref D) H2) ∨
    (J.go i H2 ∧ ∀ x H3, J.yld i H2 x H3 → g x σ1 H3 fun σ2 H4 => tc σ2 H4 fun b H5 =>
      if b = true then te σ2 H5 fun y H6 => ∃ xs m', H6 D = some (.lst xs) ∧ xs.length < sizeLine ∧ m' < m ∧ W (i + 1) m' σ2 (upd H6 D (.lst (xs ++ [y])))
      else ∃ m', m' < m ∧ W (i + 1) m' σ2 H5)
def tComp (wi : TI) (g : TG) (tc : TT) (te : TE) (σ0 : St → St) : TE := fun σ H Q => wi σ H fun J H1 => ∀ D, H1 D = none → CompGo J g tc te Q (σ0 σ) H1 D
def tYes : TT := fun _ H Q => Q true H
/-- the tests of a comprehension -/
def PTs (X : Cx) (ifs : List Expr) (t : TT) : Prop :=
  ∀ (pins : List (Addr × Obj)) (s : Shared) (σ : St) (H : Hp) (Q : Bool → Hp → Prop), Inv X pins σ H s → t σ H Q →
    wpAny (model X.prog X.w) X.A (forIn ifs true fun c r => if r = true then do let ok ← isTrue c X.env (eval c X.env); pure (ForInStep.yield ok) else pure (ForInStep.yield r)) (TP X pins σ Q) X.xe s
theorem pts_nil {X : Cx} : PTs X [] tYes := fun _ _ _ H _ I h => wpAny_tests_nil ⟨H, I, h⟩
theorem pts_one {X : Cx} {c : Expr} {t : TT} (h : PT X c t) : PTs X [c] t := fun pins s σ H Q I q => wpAny_tests_one (h pins s σ H Q I q)
section
variable {prog : Program} {w : World} {A : Around} {E : Value → Shared → Prop} {R : Result → Shared → Prop} {s : Shared}
theorem compLoop_gen {elt target iter : Expr} {ifs : List Expr} {scope : Scope} {pos : Pos} {it acc : Value} {env : Env} (I : Nat → Shared → Prop)
    (turn : ∀ n s, I n s → wpAny (model prog w) A (pyNext it) (fun r s₁ => match r with
      | none => R (.ok .next) s₁
      | some v => wpAny (model prog w) A (letOwnedTupleGo target it v) (fun _ s₁' => wpAny (model prog w) A (assign target env v) (fun _ s₂ =>
          wpAny (model prog w) A (forIn ifs true fun c r => if r = true then do let ok ← isTrue c env (eval c env); pure (ForInStep.yield ok) else pure (ForInStep.yield r)) (fun ok s₃ =>
            if ok = true then wpAny (model prog w) A (eval elt env) (fun x s₄ =>
              wpAny (model prog w) A (call (.builtin "list.append") [acc, x]) (fun _ s₅ => ∃ m, m < n ∧ I m s₅) (notedBy (model prog w) A env fun e s' => R (.error e) s') s₄) (notedBy (model prog w) A env fun e s' => R (.error e) s') s₃
            else ∃ m, m < n ∧ I m s₃) (notedBy (model prog w) A env fun e s' => R (.error e) s') s₂) (notedBy (model prog w) A env fun e s' => R (.error e) s') s₁') (notedBy (model prog w) A env fun e s' => R (.error e) s') s₁) (notedBy (model prog w) A env fun e s' => R (.error e) s') s)
    (n : Nat) (h : I n s) :
    codeAny (model prog w) A (.compLoop (.ListComp elt [⟨target, iter, ifs, 0⟩] scope pos) 0 it acc env) R s := by
  refine codeAny_loop rfl I (fun n s hI => ?_) n h
  show wpAny _ A ((compTurn (.ListComp elt [⟨target, iter, ifs, 0⟩] scope pos) 0 it acc env).onRaise (fun x => do noteFrame x env; theTreesLotGoes x)) _ _ s
  refine wpAny_noted ?_
  rw [compTurn_list]
  refine wpAny_bind (wpAny_standAt (wpAny_bind (wpAny_mono (turn n s hI) (fun r s₁ h₁ => ?_) fun _ _ h' => h')))
  cases r with
  | none => exact wpAny_pure h₁
  | some v =>
    refine wpAny_bind (wpAny_mono h₁ (fun _ s₁' h₁' => ?_) fun _ _ h' => h')
    refine wpAny_bind (wpAny_mono h₁' (fun _ s₂ h₂ => wpAny_bind (wpAny_mono h₂ (fun ok s₃ h₃ => ?_) fun _ _ h' => h')) fun _ _ h' => h')
    cases ok with
    | false => exact wpAny_pure ⟨rfl, h₃⟩
    | true =>
      exact wpAny_bind (wpAny_bind (wpAny_mono h₃ (fun x s₄ h₄ => wpAny_bind (wpAny_mono h₄ (fun _ s₅ h₅ => wpAny_pure (wpAny_pure ⟨rfl, h₅⟩)) fun _ _ h' => h')) fun _ _ h' => h'))
end
section
variable {X : Cx} {elt target iter : Expr} {ifs : List Expr} {scope : Scope} {pos p : Pos} {caps : List (Nat × Str)} {tgs : List Str} {wi : TI} {g : TG} {tc : TT} {te : TE}
/-- the block's frame at its start -/
def compSt (tgs : List Str) (caps : List (Nat × Str)) : St → St := fun σ => List.replicate tgs.length none ++ caps.map fun p => (σ[p.1]?).join
theorem relabel_free {env : Env} : ∀ {names : List (Str × NameKind)} {x : Str}, names.lookup x = some .free →
    ((names.map fun (n, k) => if (k == NameKind.free && env.scope.kind == .function && env.kindOf n == some .cell) then (n, NameKind.cell) else (n, k)).lookup x = some .cell ∨
     (names.map fun (n, k) => if (k == NameKind.free && env.scope.kind == .function && env.kindOf n == some .cell) then (n, NameKind.cell) else (n, k)).lookup x = some .free)
  | [], _, h => by cases h
  | (n, k) :: r, x, h => by
    rw [List.lookup_cons] at h
    rw [List.map_cons]
    by_cases hx : x = n
    · subst hx
      rw [beq_self_eq_true] at h
      cases h
      dsimp only
      split
      · exact .inl (by rw [List.lookup_cons, beq_self_eq_true])
      · exact .inr (by rw [List.lookup_cons, beq_self_eq_true])
    · rw [beq_false_of_ne hx] at h
      have ih := relabel_free (env := env) h
      dsimp only
      split <;> (rw [List.lookup_cons, beq_false_of_ne hx]; exact ih)
theorem relabel_back {env : Env} : ∀ {names : List (Str × NameKind)} {x : Str}, ((names.map fun (n, k) => if (k == NameKind.free && env.scope.kind == .function && env.kindOf n == some .cell) then (n, NameKind.cell) else (n, k)).lookup x = some .cell ∨
     (names.map fun (n, k) => if (k == NameKind.free && env.scope.kind == .function && env.kindOf n == some .cell) then (n, NameKind.cell) else (n, k)).lookup x = some .free) → (∀ y ∈ names, y.2 ≠ .cell) → names.lookup x = some .free
  | [], _, h, _ => by rcases h with h | h <;> cases h
  | (n, k) :: r, x, h, hn => by
    rw [List.lookup_cons]
    by_cases hx : x = n
    · subst hx
      rw [beq_self_eq_true]
      have hk := hn _ List.mem_cons_self
      rw [List.map_cons] at h
      dsimp only at h
      split at h
      · rename_i c
        simp only [Bool.and_eq_true, beq_iff_eq] at c
        exact congrArg some c.1.1
      · rw [List.lookup_cons, beq_self_eq_true] at h
        rcases h with h | h
        · cases h; exact absurd rfl hk
        · exact h
    · rw [beq_false_of_ne hx]
      refine relabel_back (env := env) ?_ fun y hy => hn y (List.mem_cons_of_mem _ hy)
      rw [List.map_cons] at h
      dsimp only at h
      split at h <;> (rw [List.lookup_cons, beq_false_of_ne hx] at h; exact h)
theorem mem_lookup_free : ∀ {names : List (Str × NameKind)} {x : Str} {k : NameKind}, names.lookup x = some k → (x, k) ∈ names
  | [], _, _, h => by cases h
  | (n, k') :: r, x, k, h => by
    rw [List.lookup_cons] at h
    by_cases hx : x = n
    · subst hx
      rw [beq_self_eq_true] at h
      cases h
      exact List.mem_cons_self
    · rw [beq_false_of_ne hx] at h
      exact List.mem_cons_of_mem _ (mem_lookup_free h)
set_option maxHeartbeats 1000000
theorem comp_core {use : Option (Value → Sem Unit)} {Qf : Value → Shared → Prop} {pins : List (Addr × Obj)} {σ : St} {H : Hp} {s : Shared} {Q : VK}
    (hc : X.calm = true) (hsc : compScopeOk scope (caps.map (·.2)) = true) (hcap : CapsOk X caps) (hi : PI X target iter wi)
    (hg : ∀ cl C s2 H2 fp, PG (cxComp X scope cl C (tgs ++ caps.map (·.2)) s2 H2 fp) target g)
    (ht : ∀ cl C s2 H2 fp, PTs (cxComp X scope cl C (tgs ++ caps.map (·.2)) s2 H2 fp) ifs tc)
    (he : ∀ cl C s2 H2 fp, PE (cxComp X scope cl C (tgs ++ caps.map (·.2)) s2 H2 fp) elt te)
    (I : Inv X pins σ H s) (h : tComp wi g tc te (compSt tgs caps) σ H Q)
    (fin : ∀ D C H' s', Inv X pins σ H' s' → Q (.ref D) H' → H' C = none → C ≠ X.env.locals → X.s₀.heap.objs.size ≤ C → (∀ x c, X.env.cells.lookup x = some c → c ≠ C) → (∀ p ∈ X.pn ++ pins, p.1 ≠ C) → (∃ m, s'.heap.Ns C m) →
      compPost (model X.prog X.w) X.A X.xe use Qf (.ref D) C (.ok .next) s')
    (hs : ∀ x, foldedSetIterable iter X.env x = pure x := by intro _; rfl) :
    wpAny (model X.prog X.w) X.A (comprehension (.ListComp elt [⟨target, iter, ifs, 0⟩] scope pos) scope X.env p (newList []) false (eval iter X.env) use) Qf X.xe s := by
  simp only [compScopeOk, Bool.and_eq_true, List.all_eq_true, beq_iff_eq, bne_iff_ne, Bool.or_eq_true, List.contains_iff_mem] at hsc
  obtain ⟨⟨⟨⟨k1, k2⟩, k3⟩, k4⟩, k5⟩ := hsc
  have hnames : ∀ y ∈ scope.names, y.2 = .local → scope.names.lookup y.1 = some .local := fun y hy hl => (k3 y hy).resolve_left fun z => z hl
  have capAt := hcap.at
  have hfr : ∀ y ∈ scope.names, y.2 = .free → ∃ c, X.env.cells.lookup y.1 = some c := fun y hy hf => by
    have hm := (k4 y hy).resolve_left fun z => z hf
    obtain ⟨q, hq, e⟩ := List.mem_map.mp hm
    have := (capAt q hq).2
    rw [e] at this
    exact I.ok.has _ this
  obtain ⟨cl, hcl, hin, hall, _⟩ := closure_of scope.names hfr [] (fun x c e => by cases e)
  have hclos : closureFor scope X.env = pure cl := by
    refine (show closureFor scope X.env = (_ >>= pure) from rfl).trans ((congrArg (· >>= pure) hcl).trans ?_)
    rfl
  refine wpAny_comprehension_free (use := use) rfl hs hclos k1 hnames (thn (hi pins s σ H _ I h) fun v s1 h1 => thn h1 fun itv s2 h2 => ?_)
  obtain ⟨it, fp, tn, J, H2, e, I2, T, st2, f2, hW⟩ := h2
  subst e
  have fD : H2 s2.heap.objs.size = none := I2.fresh
  obtain ⟨W, ⟨m0, w0⟩, turn⟩ := hW _ fD
  refine wpAny_newObj_type (wpAny_newFunctionEnv k2 (by intro y hy; simp at hy) (fun h₁ hns₁ hsb₁ => ?_) k1)
  dsimp only at hns₁ hsb₁ ⊢
  generalize hH3 : s2.heap.push { cls := .type "list", dict := none, data := .seq ([] : List Value).toArray } = H3 at hns₁ hsb₁ ⊢
  have hC : H3.objs.size = s2.heap.objs.size + 1 := by rw [← hH3, Heap.size_push]
  have hDC : s2.heap.objs.size ≠ H3.objs.size := by rw [hC]; exact Nat.ne_of_lt (Nat.lt_succ_self _)
  have hCle : s2.heap.objs.size ≤ H3.objs.size := by rw [hC]; exact Nat.le_succ _
  have below : ∀ b, b < s2.heap.objs.size → b ≠ H3.objs.size := fun b hb => by rw [hC]; exact Nat.ne_of_lt (Nat.lt_succ_of_lt hb)
  have old : ∀ b o, s2.heap.get? b = some o → h₁.get? b = some o := fun b o e => hsb₁.extBut b o (below b (Heap.lt_size e)) (Heap.get?_push_of_some _ (hH3 ▸ Heap.get?_push_of_some _ e))
  have hacc : h₁.get? s2.heap.objs.size = some { cls := .type "list", dict := none, data := .seq ([] : List Value).toArray } := hsb₁.extBut _ _ hDC (Heap.get?_push_of_some _ (hH3 ▸ Heap.get?_push_size _ rfl))
  have fC : H2 H3.objs.size = none := I2.hok.fresh hCle
  have fpl : ∀ b ∈ fp, b < s2.heap.objs.size := fun b hb => by
    obtain ⟨o, ho, _⟩ := T.obj _ _ st2 b hb
    exact Heap.lt_size ho
  -- the block's context
  let X' := cxComp X scope cl H3.objs.size (tgs ++ caps.map (·.2)) s2 H2 fp
  have ok' : X'.Ok := by
    refine ⟨I2.ok.mod, k1, I2.ok.glob, I2.ok.blt, hCle, fun x y c hx hy => I2.ok.inj x y c (hin _ _ hx) (hin _ _ hy), fun x hx => ?_, (fun x c hf => nomatch hf), I2.ok.hd, I2.ok.frames, .inl rfl, fun b hb => ⟨below b (fpl b hb), fun x c hx => (f2 b hb).2.2.2.2.1 x c (hin _ _ hx)⟩, I2.bs,
      Nat.le_trans I2.ok.bsz I2.sz, fun b o e hb => ?_, fun b hb z => ?_, I2.stack, I2.stkFree⟩
    · exact hall (x, .free) (mem_lookup_free (relabel_back hx k2)) rfl
    · rcases (f2 b hb).2.2.2.1 with z | z
      · exact I2.ok.noex b o e z
      · exact absurd (Nat.lt_of_lt_of_le (Heap.lt_size e) I2.ok.bsz) (Nat.not_lt.mpr z)
    · rcases List.mem_cons.mp (I2.stkSub b z) with q | q
      · exact (f2 b hb).2.1 q
      · exact (f2 b hb).2.2.1 q
  have un4 : Un (frs X.stack) fp H2 (upd H2 s2.heap.objs.size (.lst [])) s2.heap h₁ := Un.laid old (Nat.le_refl _) fD
  have hok4 : HOk X.prog X.w (upd H2 s2.heap.objs.size (.lst [])) h₁ := I2.hok.laid old (Nat.le_refl _) ⟨Nat.zero_le _, [], 0, .nil, hacc⟩
  have I4 : ∀ tk, Inv X' [] (compSt tgs caps σ) (upd H2 s2.heap.objs.size (.lst [])) { s2 with heap := h₁, toks := tk } := fun tk => by
    refine ⟨ok', rfl, I2.bare, un4, ⟨_, hns₁, fun i x v e1 e2 e3 => ?_⟩, fun x c hx => ?_, ?_, fun x c hx => ?_, fun q hq => ?_, hok4, ?_⟩
    · -- a captured name
      obtain ⟨m2, _, hl2⟩ := I2.loc
      have hlt : tgs.length ≤ i := by
        rcases Nat.lt_or_ge i tgs.length with z | z
        · have : (compSt tgs caps σ)[i]? = some none := by
            unfold compSt
            rw [List.getElem?_append_left (by simpa using z), List.getElem?_replicate, if_pos z]
          rw [this] at e2
          cases e2
        · exact z
      have e1' : (tgs ++ caps.map (·.2))[i]? = some x := e1
      rw [List.getElem?_append_right hlt, List.getElem?_map] at e1'
      have e2' : (caps.map fun p => (σ[p.1]?).join)[i - tgs.length]? = some (some v) := by
        have : (compSt tgs caps σ)[i]? = (caps.map fun p => (σ[p.1]?).join)[i - tgs.length]? := by
          unfold compSt
          rw [List.getElem?_append_right (by simpa using hlt), List.length_replicate]
        rw [← this]
        exact e2
      rw [List.getElem?_map] at e2'
      cases hq : caps[i - tgs.length]? with
      | none => rw [hq] at e1'; cases e1'
      | some q =>
        rw [hq] at e1' e2'
        obtain rfl : q.2 = x := Option.some.inj e1'
        have e2'' : (σ[q.1]?).join = some v := Option.some.inj e2'
        have hσ : σ[q.1]? = some (some v) := by
          cases z : σ[q.1]? with
          | none => rw [z] at e2''; cases e2''
          | some y => rw [z] at e2''; exact congrArg some e2''
        have hqm : q ∈ caps := List.mem_of_getElem? hq
        obtain ⟨n1, n2⟩ := capAt q hqm
        have hvis : Vis X.env.scope q.2 := by
          rcases n2 with z | z
          · exact .inr (.inl z)
          · exact .inr (.inr z)
        obtain ⟨u, ru, lk⟩ := hl2 q.1 q.2 v n1 hσ hvis
        have hfree : scope.names.lookup q.2 = some .free := k5 q.2 (List.mem_map_of_mem hqm)
        refine ⟨u, ru, .inr ⟨relabel_free hfree, ?_⟩⟩
        rcases lk with ⟨z, _⟩ | ⟨_, c, hcc, oc, hoc, hocd⟩
        · rcases n2 with y | y <;> (rw [y] at z; cases z)
        · obtain ⟨c', hc'⟩ := hall (q.2, .free) (mem_lookup_free hfree) rfl
          have := hin _ _ hc'
          rw [hcc] at this
          cases this
          exact ⟨c, hc', oc, old _ _ hoc, hocd⟩
    · obtain ⟨v, o, ho, hd⟩ := I2.cell x c (hin _ _ hx)
      exact ⟨v, o, old _ _ ho, hd⟩
    · show upd H2 s2.heap.objs.size (.lst []) H3.objs.size = none
      rw [upd_ne (Ne.symm hDC)]
      exact fC
    · have hcf := I2.freeC x c (hin _ _ hx)
      obtain ⟨v, o, ho, hd⟩ := I2.cell x c (hin _ _ hx)
      rw [upd_ne (Nat.ne_of_lt (Heap.lt_size ho))]
      exact hcf
    · have : q ∈ ([] : List (Addr × Obj)) := hq
      cases this
    · show (compSt tgs caps σ).length = (tgs ++ caps.map (·.2)).length
      simp [compSt]
  have stat : ∀ {pins' : List (Addr × Obj)} {H' : Hp}, (∀ b ∈ fp, H' b = none) → (∀ q ∈ pins', q.1 ∉ fp) → ∀ b ∈ fp, FpOk X' pins' H' b := fun hn hp b hb =>
    ⟨hn b hb, below b (fpl b hb), fun z => by
      rcases List.mem_cons.mp (I2.stkSub b z) with q | q
      · exact (f2 b hb).2.1 q
      · exact (f2 b hb).2.2.1 q, .inl hb, fun x c hx => (f2 b hb).2.2.2.2.1 x c (hin _ _ hx), fun q hq z => hp q hq (z ▸ hb)⟩
  have noPin : ∀ q ∈ ([] : List (Addr × Obj)), q.1 ∉ fp := fun _ z => nomatch z
  have tn0 : tn 0 h₁ := T.keep _ _ _ st2 fun b hb o e => old b o e
  have fr0 : ∀ b ∈ fp, (upd H2 s2.heap.objs.size (.lst [])) b = none := fun b hb => by
    rw [upd_ne (Nat.ne_of_lt (fpl b hb))]
    exact (f2 b hb).1
  have loop : ∀ s₃ : Shared, s₃ = { s2 with heap := h₁, toks := s2.toks + ([] : List (Str × Value)).length } →
      codeAny (model X.prog X.w) X.A (.compLoop (.ListComp elt [⟨target, iter, ifs, 0⟩] scope pos) 0 (.ref it) (.ref s2.heap.objs.size) (compEnvC scope cl H3.objs.size X.env))
        (compPost (model X.prog X.w) X.A X.xe use Qf (.ref s2.heap.objs.size) H3.objs.size) s₃ := by
    rintro s₃ rfl
    refine compLoop_gen (fun n s' => ∃ i σ' H', Inv X' [] σ' H' s' ∧ tn i s'.heap ∧ (∀ b ∈ fp, H' b = none) ∧ W i n σ' H') ?_ m0 ⟨0, _, _, I4 _, tn0, fr0, w0⟩
    rintro n s3 ⟨i, σ3, H3', I3, st3, fr3, w3⟩
    rcases turn i n σ3 H3' w3 with ⟨stop, qn⟩ | ⟨go, step⟩
    · refine thn (T.done X' rfl rfl rfl hc i [] s3 σ3 H3' _ I3 (stat fr3 noPin) st3 stop) fun r s4 ⟨hr, I4'⟩ => ?_
      subst hr
      have un := I4'.base
      refine fin _ _ H3' s4 (I2.call' I4'.os un I4'.hok I4'.bare fun b hb => ?_) qn I4'.free ?_ (Nat.le_trans I2.sz hCle) ?_ ?_ ?_
      · exact ⟨(f2 b hb).2.2.2.1, (f2 b hb).2.1, (f2 b hb).2.2.2.2.1, (f2 b hb).2.2.2.2.2⟩
      · exact Ne.symm (below _ I2.lt)
      · intro x c hx
        obtain ⟨v, o, ho, hd⟩ := I2.cell x c hx
        exact below c (Heap.lt_size ho)
      · intro q hq
        obtain ⟨e, _⟩ := I2.pin q hq
        exact below _ (Heap.lt_size e)
      · obtain ⟨m, hm, _⟩ := I4'.loc
        exact ⟨m, hm⟩
    · refine thn (T.item X' rfl rfl rfl hc i [] s3 σ3 H3' _ I3 (stat fr3 noPin) st3 go) fun r s4 ⟨u, hr, h4⟩ => ?_
      subst hr
      refine thn h4 fun _ s5 ⟨x, H5, I5, r5, y5, st5, fr5⟩ => ?_
      have I5' := I5.pinned (stat fr5 noPin) (T.obj _ _ st5)
      refine wpAny_mono (hg _ _ _ _ _ _ s5 σ3 H5 x u _ I5' r5 (step x H5 y5)) (fun _ s6 ⟨σ6, H6, I6, q6⟩ => ?_) fun _ _ z => z.elim
      have again : ∀ {σ7 : St} {H7 : Hp} {s7 : Shared} {m' : Nat}, Inv X' ([] ++ pinsAt fp s5.heap) σ7 H7 s7 → m' < n → W (i + 1) m' σ7 H7 → ∃ m, m < n ∧ ∃ i σ' H', Inv X' [] σ' H' s7 ∧ tn i s7.heap ∧ (∀ b ∈ fp, H' b = none) ∧ W i m σ' H' := fun {σ7 H7 s7 m'} I7 hm w7 => by
        refine ⟨m', hm, i + 1, σ7, H7, I7.unpinned, T.keep _ _ _ st5 fun b hb o e => (I7.pin (b, o) (List.mem_append_right _ (List.mem_append_right _ (mem_pinsAt hb e)))).1, fun b hb => ?_, w7⟩
        obtain ⟨o, e, d⟩ := T.obj _ _ st5 b hb
        exact (I7.pin (b, o) (List.mem_append_right _ (List.mem_append_right _ (mem_pinsAt hb e)))).2.1
      refine wpAny_mono (ht _ _ _ _ _ _ s6 σ6 H6 _ I6 q6) (fun ok s7 ⟨H7, I7, q7⟩ => ?_) fun _ _ z => z.elim
      cases ok with
      | false =>
        obtain ⟨m', hm, w7⟩ := q7
        exact again I7 hm w7
      | true =>
        refine wpAny_mono (he _ _ _ _ _ _ s7 σ6 H7 _ I7 q7) (fun yv s8 ⟨y, H8, I8, r8, q8⟩ => ?_) fun _ _ z => z.elim
        obtain ⟨xs, m', hD, hz, hm, w8⟩ := q8
        refine wpAny_mono (mt_append (X := X') _ s8 σ6 H8 (.ref s2.heap.objs.size) [y] (.ref s2.heap.objs.size) [yv] (fun _ H9 => W (i + 1) m' σ6 H9) I8 rfl (.cons r8 .nil) ⟨_, xs, y, rfl, rfl, hD, hz, w8⟩) (fun _ s9 ⟨_, H9, I9, _, q9⟩ => ?_) fun _ _ z => z.elim
        exact again I9 hm q9
  exact codeAny_compStart_list (loop _ rfl) (T.self _ 0 _ _ _ tn0 (loop _ rfl))
/-- what a block's rule may hang on -/
abbrev BK (α : Type) := List (Str × Addr) → Addr → Shared → Hp → List Addr → α
/-- [elt for target in iter if test] -/
theorem pe_comp {g : BK TG} {tc : BK TT} {te : BK TE} (tgs : List Str) (caps : List (Nat × Str)) (hc : X.calm = true) (hsc : compScopeOk scope (caps.map (·.2)) = true) (hcap : CapsOk X caps) (hi : PI X target iter wi)
    (hg : ∀ cl C s2 H2 fp, PG (cxComp X scope cl C (tgs ++ caps.map (·.2)) s2 H2 fp) target (g cl C s2 H2 fp))
    (ht : ∀ cl C s2 H2 fp, PTs (cxComp X scope cl C (tgs ++ caps.map (·.2)) s2 H2 fp) ifs (tc cl C s2 H2 fp))
    (he : ∀ cl C s2 H2 fp, PE (cxComp X scope cl C (tgs ++ caps.map (·.2)) s2 H2 fp) elt (te cl C s2 H2 fp))
    (eg : ∀ cl C s2 H2 fp, g cl C s2 H2 fp = g [] 0 X.s₀ X.H₀ [] := by intros; rfl) (et : ∀ cl C s2 H2 fp, tc cl C s2 H2 fp = tc [] 0 X.s₀ X.H₀ [] := by intros; rfl) (ee : ∀ cl C s2 H2 fp, te cl C s2 H2 fp = te [] 0 X.s₀ X.H₀ [] := by intros; rfl)
    (hs : ∀ x, foldedSetIterable iter X.env x = pure x := by intro _; rfl) :
    PE X (.ListComp elt [⟨target, iter, ifs, 0⟩] scope pos) (tComp wi (g [] 0 X.s₀ X.H₀ []) (tc [] 0 X.s₀ X.H₀ []) (te [] 0 X.s₀ X.H₀ []) (compSt tgs caps)) := by
  intro pins s σ H Q I h
  rw [eval_ListComp]
  refine comp_core (use := none) hc hsc hcap hi (fun cl C s2 H2 fp => eg cl C s2 H2 fp ▸ hg cl C s2 H2 fp) (fun cl C s2 H2 fp => et cl C s2 H2 fp ▸ ht cl C s2 H2 fp) (fun cl C s2 H2 fp => ee cl C s2 H2 fp ▸ he cl C s2 H2 fp) I h (fun D C H' s' I' q hC h1 h2 h3 h4 ⟨m, hm⟩ => ?_) hs
  refine ⟨m, hm, fun h' hsb => ?_⟩
  exact ⟨.ref D, H', I'.turned (t' := s'.toks) (fun b o hb e => hsb.extBut b o hb e) hC h1 (.inr h2) h3 h4, rfl, q⟩
end
end L2

end

section
namespace L2
open PySem PySem.Spec PyProof.Rows
/-! ### what is no longer asked may be forgotten -/
def OwnIn (H : Hp) (a : Addr) : HO → Prop
  | .ins _ dx _ => H dx = some (.own a)
  | .frz _ u => OwnIn H a u
  | _ => True
def Closed (H : Hp) : Prop := ∀ a o, H a = some o → OwnIn H a o
theorem OwnIn.of {P : Program} {w : World} {H : Hp} {h : Heap} {a : Addr} {o : HO} (x : ObjOk P w H h a o) : OwnIn H a o := by
  induction o with
  | ins C dx fs => exact x.1
  | frz ob u ih => exact ih x.2
  | _ => trivial
theorem HOk.closed {P : Program} {w : World} {H : Hp} {h : Heap} (x : HOk P w H h) : Closed H := fun a o e => OwnIn.of (x a o e)
theorem OwnIn.mono {H H' : Hp} {a : Addr} {o : HO} (s : ∀ b u, H b = some u → H' b = some u) (x : OwnIn H a o) : OwnIn H' a o := by
  induction o with
  | ins C dx fs => exact s _ _ x
  | frz ob u ih => exact ih x
  | _ => trivial
theorem ObjOk.sub {P : Program} {w : World} {H H' : Hp} {h : Heap} {a : Addr} {o : HO} (x : ObjOk P w H' h a o) (ow : OwnIn H a o) : ObjOk P w H h a o := by
  induction o with
  | ins C dx fs => exact ⟨ow, x.2⟩
  | frz ob u ih => exact ⟨x.1, ih x.2 ow⟩
  | lst _ => exact x
  | tup _ => exact x
  | dK _ => exact x
  | dT _ => exact x
  | set _ _ => exact x
  | own _ => exact x
  | xd _ => exact x
  | met _ _ => exact x
  | rng _ _ => exact x
  | tbl _ => exact x
  | ext _ => exact x
/-- from H on, H' was reached; of it H'' is still asked -/
structure Sub (H H'' H' : Hp) : Prop where
  le : Same H'' H'
  ge : ∀ b o, H b = some o → ∃ u, H'' b = some u
  cl : Closed H → Closed H''
theorem Sub.refl {H H' : Hp} (h : Same H H') : Sub H H H' := ⟨h, fun _ o e => ⟨o, e⟩, id⟩
theorem Sub.all {H H' : Hp} (h : ∀ b o, H b = some o → ∃ u, H' b = some u) (c : Closed H → Closed H') : Sub H H' H' := ⟨Same.refl _, h, c⟩
theorem same_new {H : Hp} {p : Addr} {o : HO} (h : H p = none) : Same H (upd H p o) := fun b u q => by rw [upd_ne (ne_of_none q h)]; exact q
theorem closed_new {H : Hp} {p : Addr} {o : HO} (c : Closed H) (h : H p = none) (ho : OwnIn (upd H p o) p o) : Closed (upd H p o) := fun a u e => by
  by_cases z : a = p
  · subst z; rw [upd_same] at e; cases e; exact ho
  · rw [upd_ne z] at e
    exact (c a u e).mono (same_new h)
theorem Sub.new {H H' : Hp} {p : Addr} {o : HO} (h : H p = none) (hs : Same H H') (e : H' p = some o) (ho : OwnIn (upd H p o) p o) : Sub H (upd H p o) H' :=
  ⟨fun b u q => by
    by_cases z : b = p
    · subst z; rw [upd_same] at q; cases q; exact e
    · rw [upd_ne z] at q; exact hs b u q, fun b u q => ⟨u, same_new h b u q⟩, fun c => closed_new c h ho⟩
theorem Sub.ins {H H' : Hp} {p C dx : Addr} {fs fs' : List (Str × V)} (h : H p = some (.ins C dx fs)) (hs : ∀ b u, b ≠ p → H b = some u → H' b = some u) (e : H' p = some (.ins C dx fs')) : Sub H (upd H p (.ins C dx fs')) H' :=
  ⟨fun b u q => by
    by_cases z : b = p
    · subst z; rw [upd_same] at q; cases q; exact e
    · rw [upd_ne z] at q; exact hs b u z q, fun b u q => by
    by_cases z : b = p
    · subst z; exact ⟨_, upd_same⟩
    · exact ⟨u, by rw [upd_ne z]; exact q⟩, fun c a u q => by
    have hd : H dx = some (.own p) := c p _ h
    have nd : dx ≠ p := fun z => by rw [z, h] at hd; cases hd
    by_cases z : a = p
    · subst z; rw [upd_same] at q; cases q
      show upd H a _ dx = _
      rw [upd_ne nd]; exact hd
    · rw [upd_ne z] at q
      have x := c a u q
      revert x
      generalize u = o
      clear q
      induction o with
      | ins C' d' f' =>
        intro (x : H d' = some (.own a))
        show upd H p _ d' = _
        rw [upd_ne (fun y => by rw [y, h] at x; cases x)]; exact x
      | frz ob u ih => intro x; exact ih x
      | _ => intro _; trivial⟩
section
variable {X : Cx} {pins : List (Addr × Obj)} {σ : St} {H H' H'' : Hp} {s s0 : Shared}
theorem Un.sub {fs ex : List Addr} {H0 : Hp} {h h1 h2 : Heap} (u0 : Un fs ex H0 H h h1) (u : Un fs ex H0 H' h h2) (d : Sub H H'' H') : Un fs ex H0 H'' h h2 := by
  refine ⟨u.keep, u.slot, fun b o e n hx => ?_, u.there, fun b xs e => ?_, fun b o v e => ?_, fun b ps e => ?_⟩
  · cases q : H'' b with
    | none => rfl
    | some v => have := d.le b v q; rw [u.free b o e n hx] at this; cases this
  · obtain ⟨v, hv⟩ := d.ge b _ (u0.tups b xs e)
    have := d.le b v hv; rw [u.tups b xs e] at this; cases this; exact hv
  · obtain ⟨z, hv⟩ := d.ge b _ (u0.frzs b o v e)
    have := d.le b z hv; rw [u.frzs b o v e] at this; cases this; exact hv
  · obtain ⟨m0, e0⟩ := u0.tbls b ps e
    obtain ⟨z, hv⟩ := d.ge b _ e0
    obtain ⟨m, e1⟩ := u.tbls b ps e
    have := d.le b z hv; rw [e1] at this; cases this; exact ⟨m, hv⟩
theorem HOk.sub {P : Program} {w : World} {h : Heap} (x : HOk P w H' h) (c : Closed H'') (d : Same H'' H') : HOk P w H'' h := fun a o e => (x a o (d a o e)).sub (c a o e)
theorem Same.none_of {H1 H2 : Hp} (d : Same H1 H2) {b : Addr} (n : H2 b = none) : H1 b = none := d.free n
theorem Inv.sub {σ0 : St} (I0 : Inv X pins σ0 H s0) (I : Inv X pins σ H' s) (d : Sub H H'' H') : Inv X pins σ H'' s :=
  ⟨I.ok, I.os, I.bare, I0.base.sub I.base d, I.loc, I.cell, d.le.free I.free, fun x c e => d.le.free (I.freeC x c e),
    fun p hp => let ⟨a, b, c⟩ := I.pin p hp; ⟨a, d.le.free b, c⟩, I.hok.sub (d.cl I0.hok.closed) d.le, I.len⟩
theorem SP.sub {D : Ends} {f : Flow} {s' : Shared} (I : Inv X pins σ H s)
    (h : SP X pins { nx := fun σ' H' => ∃ H'', Sub H H'' H' ∧ D.nx σ' H'', rt := fun v H' => ∃ H'', Sub H H'' H' ∧ D.rt v H'', bk := fun σ' H' => ∃ H'', Sub H H'' H' ∧ D.bk σ' H'', ct := fun σ' H' => ∃ H'', Sub H H'' H' ∧ D.ct σ' H'' } f s') : SP X pins D f s' := by
  cases f with
  | next => obtain ⟨σ', H', I', H'', d, q⟩ := h; exact ⟨σ', H'', I.sub I' d, q⟩
  | brk => obtain ⟨σ', H', I', H'', d, q⟩ := h; exact ⟨σ', H'', I.sub I' d, q⟩
  | cont => obtain ⟨σ', H', I', H'', d, q⟩ := h; exact ⟨σ', H'', I.sub I' d, q⟩
  | ret u => obtain ⟨v, σ', H', I', r, H'', d, q⟩ := h; exact ⟨v, σ', H'', I.sub I' d, r, q⟩
end
/-- a def's promise, less asked behind it -/
theorem FnOk.keep {P : Program} {w : World} {K : PySem.W.Frag} {mg : Str → Option Value} {base : Heap} {k : Nat} {f : Addr} {fd : FuncData} {ps : List Str} {sp sp' : Sp} (F : FnOk P w K mg base CX0 k f fd ps sp)
    (h : ∀ vs H Q E, sp' vs H Q E → sp vs H (fun v H' => ∃ H'', Sub H H'' H' ∧ Q v H'') E) : FnOk P w K mg base CX0 k f fd ps sp' := by
  refine ⟨fun vs H Q E q => F.len vs H _ E (h vs H Q E q), fun A outer s H args us vs Q E hr e0 hb r q => codeAny_mono (F.run A outer s H args us vs _ E hr e0 hb r (h vs H Q E q)) fun rs s' c => ?_⟩
  cases rs with
  | error e => exact c
  | ok fl =>
    cases fl with
    | ret u =>
      obtain ⟨v, H', os, bare, un, hok, rv, H'', d, q'⟩ := c
      exact ⟨v, H'', os, bare, Un.sub (Un.refl (h := s.heap)) un d, hok.sub (d.cl e0.hok.closed) d.le, rv, q'⟩
    | next => exact c
    | brk => exact c
    | cont => exact c
/-- THE RULE for a def without refusals: its body as a term of rules, the reading of that term, less asked behind it -/
theorem Fun.okK {P : Program} {w : World} {K : PySem.W.Frag} {mg : Str → Option Value} {base : Heap} {x qual : Str} {st : Stmt} {f : Addr} {fd : FuncData} {N ps : List Str} {k : Nat} {sp : Sp} (F : Fun K x qual st f fd) (S : FnScope N ps (defScope st)) (len : ∀ vs H Q E, sp vs H Q E → vs.length = ps.length)
    (hbody : ∀ (cdv : Value) (A : Around) (outer : List Env) (s : Shared) (H : Hp) (vs : List V) (Q : VK) (E : XK), Room k (A.deeper (envOfC qual (defScope st) s.heap.objs.size f cdv)) → sp vs H Q E →
      ∃ t, PSs (cxOf CX0 P w K mg base N qual (defScope st) f cdv A outer s H E).nox (defBody st) t ∧ t { nx := fun _ H' => ∃ H'', Sub H H'' H' ∧ Q .non H'', rt := fun v H' => ∃ H'', Sub H H'' H' ∧ Q v H'' } (start N vs) H) : FnOk P w K mg base CX0 (k + 1) f fd ps sp :=
  (F.ok (sp := fun vs H Q E => ∃ Q', Q = (fun v H' => ∃ H'', Sub H H'' H' ∧ Q' v H'') ∧ sp vs H Q' E) S (fun vs H Q E ⟨Q', _, h⟩ => len vs H Q' E h) (fun cdv A outer s H vs Q E hr ⟨Q', e, h⟩ => by
    subst e
    exact hbody cdv A outer s H vs Q' E hr h)).keep fun vs H Q E h => ⟨Q, rfl, h⟩
end L2

end

section
namespace KM
/-! bits, the higher ones first -/
def bitsW (n : Nat) : Nat → List Bool
  | 0 => []
  | w + 1 => n.testBit w :: bitsW n w
def blen (n : Nat) : Nat := if n = 0 then 0 else n.log2 + 1
theorem bitsW_length (n w : Nat) : (bitsW n w).length = w := by
  induction w with
  | zero => rfl
  | succ w ih => simp [bitsW, ih]
theorem blen_lt (n : Nat) : n < 2 ^ blen n := by
  unfold blen
  split
  · omega
  · exact Nat.lt_log2_self
theorem blen_le {n w : Nat} (h : n < 2 ^ w) : blen n ≤ w := by
  unfold blen
  split
  · omega
  · rename_i h0
    exact (Nat.log2_lt h0).mpr h
theorem blen_pos {n : Nat} (h : n ≠ 0) : 0 < blen n := by unfold blen; rw [if_neg h]; omega
/-- reading: from a on -/
def rd (a : Nat) (l : List Bool) : Nat := l.foldl (fun x b => 2 * x + b.toNat) a
theorem rd_nil (a : Nat) : rd a [] = a := rfl
/-! order: at the first place where they part the one has 0, the other 1 -/
def Sep (a b : List Bool) : Prop := ∃ c x y, a = c ++ false :: x ∧ b = c ++ true :: y
theorem Sep.pre (p : List Bool) {a b : List Bool} (h : Sep a b) : Sep (p ++ a) (p ++ b) := by
  obtain ⟨c, x, y, rfl, rfl⟩ := h
  exact ⟨p ++ c, x, y, by simp, by simp⟩
theorem Sep.post {a b : List Bool} (h : Sep a b) (u v : List Bool) : Sep (a ++ u) (b ++ v) := by
  obtain ⟨c, x, y, rfl, rfl⟩ := h
  exact ⟨c, x ++ u, y ++ v, by simp, by simp⟩
theorem Sep.turn {a b : List Bool} (h : Sep a b) : Sep (b.map (!·)) (a.map (!·)) := by
  obtain ⟨c, x, y, rfl, rfl⟩ := h
  exact ⟨c.map (!·), y.map (!·), x.map (!·), by simp, by simp⟩
theorem Sep.np {a b : List Bool} (h : Sep a b) : ¬ a <+: b := by
  obtain ⟨c, x, y, rfl, rfl⟩ := h
  rintro ⟨t, e⟩
  simp only [List.append_assoc] at e
  have := List.append_cancel_left e
  simp at this
/-! the row of a count -/
def cend (e : Nat) : List Bool := if e = 8 then [] else [false]
def cnt (n : Nat) : List Bool :=
  List.replicate (blen (blen (n + 1)) - 1) true ++ (cend (blen (blen (n + 1))) ++ (bitsW (blen (n + 1)) (blen (blen (n + 1)) - 1) ++ bitsW (n + 1) (blen (n + 1) - 1)))
theorem cnt_length {n : Nat} (h : n + 1 < 2 ^ 255) : (cnt n).length ≤ blen (n + 1) + 14 := by
  unfold cnt
  have hd : blen (n + 1) ≤ 255 := blen_le h
  have he : blen (blen (n + 1)) ≤ 8 := blen_le (by omega)
  have hq : 0 < blen (n + 1) := blen_pos (by omega)
  simp only [List.length_append, List.length_replicate, bitsW_length]
  have : (cend (blen (blen (n + 1)))).length ≤ if blen (blen (n + 1)) = 8 then 0 else 1 := by
    unfold cend; split <;> simp
  split at this <;> omega

/-! the row of a whole number -/
def whl (n : Int) : List Bool := if n < 0 then false :: (cnt (-1 - n).toNat).map (!·) else true :: cnt n.toNat
end KM
namespace KM
/-- where the parts of a count's row lie -/
structure CntAt (L : List Bool) (p n : Nat) : Prop where
  ones : ∀ j, j < blen (blen (n + 1)) - 1 → L.getD (p + j) false = true
  zero : blen (blen (n + 1)) < 8 → L.getD (p + (blen (blen (n + 1)) - 1)) false = false
  size : (L.drop (p + (blen (blen (n + 1)) - 1) + (cend (blen (blen (n + 1)))).length)).take (blen (blen (n + 1)) - 1) = bitsW (blen (n + 1)) (blen (blen (n + 1)) - 1)
  more : (L.drop (p + (blen (blen (n + 1)) - 1) + (cend (blen (blen (n + 1)))).length + (blen (blen (n + 1)) - 1))).take (blen (n + 1) - 1) = bitsW (n + 1) (blen (n + 1) - 1)
  fits : p + (cnt n).length ≤ L.length
end KM

end

section
namespace KM
open PySem L2
/-! ### rows as texts -/
def bc (b : Bool) : Nat := if b then 49 else 48
def rowS (l : List Bool) : Str := ⟨(l.map bc).toArray⟩
theorem str_ext {a b : Str} (h : a.cps.toList = b.cps.toList) : a = b := by
  obtain ⟨x⟩ := a; obtain ⟨y⟩ := b
  exact congrArg Str.mk (Array.ext' h)
theorem rowS_cps (l : List Bool) : (rowS l).cps.toList = l.map bc := by simp [rowS]
theorem rowS_length (l : List Bool) : (rowS l).length = l.length := by simp [rowS, Str.length]
theorem bc_inj {a b : Bool} (h : bc a = bc b) : a = b := by cases a <;> cases b <;> first | rfl | (revert h; decide)
theorem rowS_inj {a b : List Bool} (h : rowS a = rowS b) : a = b := by
  have := congrArg (fun x : Str => x.cps.toList) h
  simp only [rowS_cps] at this
  exact List.map_inj_right (fun _ _ => bc_inj) |>.mp this
theorem rowS_append (a b : List Bool) : rowS a ++ rowS b = rowS (a ++ b) := by
  apply str_ext
  show ((rowS a).cps ++ (rowS b).cps).toList = _
  rw [Array.toList_append, rowS_cps, rowS_cps, rowS_cps, List.map_append]
theorem s1 : (Str.ofString "1") = rowS [true] := by decide +kernel
theorem s0 : (Str.ofString "0") = rowS [false] := by decide +kernel
theorem sE : (Str.ofString "") = rowS [] := by decide +kernel
theorem rowS_dec (a b : List Bool) : decide (V.str (rowS a) = V.str (rowS b)) = decide (a = b) := by
  by_cases h : a = b
  · subst h; simp
  · have : ¬ V.str (rowS a) = V.str (rowS b) := fun q => h (rowS_inj (V.str.inj q))
    rw [decide_eq_false h, decide_eq_false this]
/-! joined, cut -/
theorem join_nil_cps : ∀ ys : List Str, (Txt.join (Str.ofString "") ys).cps.toList = (ys.map (·.cps.toList)).flatten := by
  have e : (Str.ofString "").cps = #[] := by decide +kernel
  have key : ∀ (ys : List Str) (acc : Array Nat), (ys.foldl (fun acc p => acc ++ (Str.ofString "").cps ++ p.cps) acc).toList = acc.toList ++ (ys.map (·.cps.toList)).flatten := by
    intro ys
    induction ys with
    | nil => intro acc; simp
    | cons y r ih => intro acc; rw [List.foldl_cons, ih, e]; simp
  intro ys
  cases ys with
  | nil => rfl
  | cons y r =>
    show ((r.foldl (fun acc p => acc ++ (Str.ofString "").cps ++ p.cps) y.cps)).toList = _
    rw [key]; simp
theorem join_rows (ls : List (List Bool)) : Txt.join (Str.ofString "") (ls.map rowS) = rowS ls.flatten := by
  apply str_ext
  rw [join_nil_cps, rowS_cps, List.map_map, List.map_flatten]
  exact congrArg List.flatten (List.map_congr_left fun l _ => rowS_cps l)
theorem flat_ones (l : List Bool) : (l.map fun b => [b]).flatten = l := by
  induction l with
  | nil => rfl
  | cons b r ih => rw [List.map_cons, List.flatten_cons, ih]; rfl
theorem join_bits (l : List Bool) : Txt.join (Str.ofString "") (l.map fun b => rowS [b]) = rowS l := by
  have := join_rows (l.map fun b => [b])
  rw [List.map_map] at this
  rw [show (fun b => rowS [b]) = rowS ∘ (fun b => [b]) from rfl, this]
  exact congrArg rowS (flat_ones l)
theorem mul_row (b : Bool) (n : Int) : Txt.mul (rowS [b]) n = rowS (List.replicate n.toNat b) := by
  unfold Txt.mul
  by_cases h : n < 1
  · rw [if_pos h, show n.toNat = 0 by omega]; rfl
  · rw [if_neg h]
    by_cases h1 : n = 1
    · subst h1; rfl
    · have : (n == 1 || (rowS [b]).length == 0) = false := by simp [rowS_length, h1]
      rw [this, if_neg (by decide)]
      apply str_ext
      have key : ∀ (k : Nat) (acc : Array Nat), ((List.replicate k (rowS [b]).cps).foldl (· ++ ·) acc).toList = acc.toList ++ (List.replicate k b).map bc := by
        intro k
        induction k with
        | zero => intro acc; simp
        | succ k ih => intro acc; rw [List.replicate_succ, List.foldl_cons, ih, List.replicate_succ]; simp [rowS]
      rw [rowS_cps]
      simpa using key n.toNat #[]
/-! order -/
/-! one sign -/
theorem bits_eq (n : Nat) : Builtin.Int.intBits ((n : Nat) : Int) = blen n := by
  unfold Builtin.Int.intBits blen
  by_cases h : n = 0
  · subst h; rfl
  · have : (((n : Nat) : Int) == 0) = false := by simpa using h
    rw [this, if_neg (by decide), if_neg h]
    simp
end KM
namespace KM
open PySem L2
theorem row_sign {l : List Bool} {i c : Nat} (h : (rowS l).cps[i]? = some c) : V.str ⟨#[c]⟩ = V.str (rowS [l.getD i false]) := by
  have h' : (rowS l).cps.toList[i]? = some c := by simpa using h
  rw [rowS_cps, List.getElem?_map] at h'
  rw [List.getD_eq_getElem?_getD]
  cases e : l[i]? with
  | none => rw [e] at h'; cases h'
  | some b =>
    rw [e] at h'
    have : bc b = c := Option.some.inj h'
    rw [← this]; rfl
end KM

end

section
namespace L2
open PySem PySem.Spec PyProof.Rows
/-! ### one rule for each operation, whatever it is given -/
section
variable {X : Cx}
def oAdd := OpR.or (op_add (X := X)) op_add_str
theorem oSub : OpR X (binaryOp .Sub) (rI0 fun i j => .int (i - j)) := op_sub
def oMul := OpR.or (op_mul (X := X)) op_mul_str
def oLt := OpR.or (op_lt (X := X)) op_lt_str
def iAll := IxR.or (IxR.or (ix_list (X := X)) ix_tup) ix_str
def slAll := SlR.or (sl_list (X := X)) sl_str
theorem PI.or {tg it : Expr} {wi wi' : TI} (h : PI X tg it wi) (h' : PI X tg it wi') : PI X tg it (fun σ H R => wi σ H R ∨ wi' σ H R) := fun pins s σ H R I q => q.elim (h pins s σ H R I) (h' pins s σ H R I)
theorem piAll {tg l : Expr} {tl : TE} (hl : PE X l tl) : PI X tg l (fun σ H R => iList X.K tl σ H R ∨ iStr tl σ H R) := (pi_list hl).or (pi_str hl)
end
/-! ### defs by name -/
/-- a def of the text stands at the top -/
def FunAt (K : PySem.W.Frag) (mg : Str → Option Value) (x : Str) (st : Stmt) (ps : List Str) (f : Addr) (fd : FuncData) : Prop := Fun K x x st f fd ∧ Binds K fd ps [] ∧ mg x = some (.ref f)
/-- a def keeps its promise -/
def DefOk (P : Program) (w : World) (K : PySem.W.Frag) (mg : Str → Option Value) (base : Heap) (k : Nat) (x : Str) (ps : List Str) (sp : Sp) : Prop :=
  ∃ f fd, FnOk P w K mg base CX0 k f fd ps sp ∧ Binds K fd ps [] ∧ PySem.W.keepIn K (.ref f) = true ∧ mg x = some (.ref f)
def GlobV (mg : Str → Option Value) (x : Str) (v : V) : Prop := ∃ u, mg x = some u ∧ RelV v u
section
variable {X : Cx} {k k' : Nat} {x m : Str} {C : Addr} {ps : List Str} {sp : Sp} {e o : Expr} {es : List Expr} {t : TA} {ta : TE} {p pos apos : Pos} {v : V}
theorem pe_globV (h : GlobV X.mg x v) (hg : Gl X x := by rfl) (hd : (x == ("__debug__" : Str)) = false := by decide +kernel) : PE X (.Name x p) (tC v) := by
  obtain ⟨u, h1, h2⟩ := h
  exact pe_glob hg h1 h2 hd
theorem pe_callD (h : DefOk X.prog X.w X.K X.mg X.base k x ps sp) (hr : Room k' X.A) (ha : PA X (e :: es) t) (hk : k ≤ k' := by decide) (hg : Gl X x := by rfl) (hdb : (x == ("__debug__" : Str)) = false := by decide +kernel)
    (he : starEach (e :: es) X.env = (false, eval e X.env) :: starEach es X.env := by rfl) (hpl : (backTo pos (starEach es X.env)).any (·.1) = false := by rfl) : PE X (.Call (.Name x p) (e :: es) [] pos) (tCall sp [] E0 t) := by
  obtain ⟨f, fd, F, hb, kp, hm⟩ := h
  exact pe_call F (hr.mono hk) hg hm kp hb .nil pass0 ha hdb he hpl
end
/-- THE RULE for a def without refusals, by name -/
theorem FunAt.ok {P : Program} {w : World} {K : PySem.W.Frag} {mg : Str → Option Value} {base : Heap} {x : Str} {st : Stmt} {f : Addr} {fd : FuncData} {N ps : List Str} {k : Nat} {sp : Sp} (F : FunAt K mg x st ps f fd) (S : FnScope N ps (defScope st)) (len : ∀ vs H Q E, sp vs H Q E → vs.length = ps.length)
    (hbody : ∀ (cdv : Value) (A : Around) (outer : List Env) (s : Shared) (H : Hp) (vs : List V) (Q : VK) (E : XK), Room k (A.deeper (envOfC x (defScope st) s.heap.objs.size f cdv)) → sp vs H Q E →
      ∃ t, PSs (cxOf CX0 P w K mg base N x (defScope st) f cdv A outer s H E).nox (defBody st) t ∧ t { nx := fun _ H' => ∃ H'', Sub H H'' H' ∧ Q .non H'', rt := fun v H' => ∃ H'', Sub H H'' H' ∧ Q v H'' } (start N vs) H) : DefOk P w K mg base (k + 1) x ps sp :=
  ⟨f, fd, F.1.okK S len hbody, F.2.1, F.1.kp, F.2.2⟩
end L2
namespace L2
open PySem PySem.Spec PyProof.Rows
section
variable {X : Cx} {e : Expr} {pos : Pos}
theorem oEq : OpR X (compareOp .Eq) rEq := op_eq
theorem oNe : OpR X (compareOp .NotEq) rNe := op_ne
theorem oLe : OpR X (compareOp .LtE) (rI0 fun i j => .bl (decide (i ≤ j))) := op_le
theorem oGt : OpR X (compareOp .Gt) (rI0 fun i j => .bl (decide (j < i))) := op_gt
theorem oGe : OpR X (compareOp .GtE) (rI0 fun i j => .bl (decide (j ≤ i))) := op_ge
theorem CallR.or' {f : Value} {r r' : List V → Hp → VK → Prop} (h : CallR X f r) (h' : CallR X f r') : CallR X f (fun xs H Q => r xs H Q ∨ r' xs H Q) := fun pins s σ H xs us Q I rv q => q.elim (h pins s σ H xs us Q I rv) (h' pins s σ H xs us Q I rv)
def call_isinstA := CallR.or' (call_isinst (X := X)) call_isinstC
end
end L2
namespace L2
open PySem
theorem bo_str : bootBuiltins "str" = some (.type "str") := by decide +kernel
theorem bo_len : bootBuiltins "len" = some (.builtin "len") := by decide +kernel
theorem bo_isinstance : bootBuiltins "isinstance" = some (.builtin "isinstance") := by decide +kernel
theorem bo_max : bootBuiltins "max" = some (.builtin "max") := by decide +kernel
theorem bo_all : bootBuiltins "all" = some (.builtin "all") := by decide +kernel
end L2

end

section
namespace L2
open PySem PySem.Spec PyProof.Rows KM
theorem upd_upd' {H : Hp} {a : Addr} {o u : HO} : upd (upd H a o) a u = upd H a u := by
  funext b
  unfold upd
  split <;> rfl
/-- a comprehension without tests whose element leaves the heap as it was -/
theorem comp_all {J : It} {g : TG} {te : TE} {Q : VK} {H : Hp} {D : Addr} {σ0 : St} (n : Nat) (xs fe : Nat → V) (S : St → Prop) (hn : n ≤ sizeLine) (h0 : S σ0)
    (hgo : ∀ i H, i < n → J.go i H) (hstop : ∀ H, J.stop n H) (hy : ∀ i H x H', i < n → J.yld i H x H' → H' = H ∧ x = xs i)
    (ht : ∀ i σ1 H1, i < n → S σ1 → ∀ R : St → V → Hp → Prop, (∀ σ2, S σ2 → R σ2 (fe i) H1) → g (xs i) σ1 H1 fun σ2 H2 => te σ2 H2 fun y H3 => R σ2 y H3)
    (hq : Q (.ref D) (upd H D (.lst ((List.range n).map fe)))) :
    CompGo J g tYes te Q σ0 H D := by
  refine ⟨fun i m σ1 H2 => i ≤ n ∧ m = n - i ∧ S σ1 ∧ H2 = upd H D (.lst ((List.range i).map fe)), ⟨n, Nat.zero_le _, rfl, h0, rfl⟩, ?_⟩
  rintro i m σ1 H2 ⟨h1, rfl, h2, rfl⟩
  rcases Nat.lt_or_ge i n with z | z
  · refine .inr ⟨hgo i _ z, fun x H3 y => ?_⟩
    obtain ⟨rfl, rfl⟩ := hy i _ x H3 z y
    refine ht i σ1 _ z h2 (fun σ2 y H6 => ∃ xs m', H6 D = some (.lst xs) ∧ xs.length < sizeLine ∧ m' < n - i ∧ (i + 1 ≤ n ∧ m' = n - (i + 1) ∧ S σ2 ∧ upd H6 D (.lst (xs ++ [y])) = upd H D (.lst ((List.range (i + 1)).map fe)))) fun σ2 q3 => ?_
    refine ⟨_, n - (i + 1), upd_same, ?_, by omega, by omega, rfl, q3, ?_⟩
    · rw [List.length_map, List.length_range]; omega
    · rw [upd_upd', List.range_succ, List.map_append]; rfl
  · have e : i = n := by omega
    subst e
    exact .inl ⟨hstop _, hq⟩
end L2
namespace L2
open PySem
end L2
namespace KM
theorem map_xorF (l : List Bool) : l.map (xor false) = l := by
  rw [show (xor false) = (id : Bool → Bool) from funext fun b => by cases b <;> rfl, List.map_id]
end KM
namespace L2
open PySem
theorem kit_same (K : PySem.W.Frag) (t : Value) : PySem.W.kitOne K t t = some true := by
  unfold PySem.W.kitOne; rw [beq_self_eq_true, if_pos rfl]
end L2
namespace KM
open PySem L2
end KM
namespace KM
theorem whl_length {n : Int} (h1 : -(2 ^ 255) < n) (h2 : n < 2 ^ 255 - 1) : (whl n).length ≤ 270 := by
  have c : ∀ m : Nat, m + 1 < 2 ^ 255 → (cnt m).length ≤ 269 := fun m h => by
    have := cnt_length h
    have := blen_le h
    omega
  unfold whl
  split
  · rw [List.length_cons, List.length_map]; have := c (-1 - n).toNat (by omega); omega
  · rw [List.length_cons]; have := c n.toNat (by omega); omega
end KM

end

section
namespace L2
open PySem PySem.Spec PyProof.Rows
/-! ### an exception in flight: its class, its own dict, its record T; fl: the frame that it is noted at -/
def Fly (h : Heap) (e : Addr) (cls : Value) (d : Option Addr) (T : Addr) (fl : Value) : Prop :=
  ∃ oe vs oT ts, h.get? e = some oe ∧ oe.cls = cls ∧ oe.dict = d ∧ oe.data = .fields vs ∧ vs[1]? = some (.ref T) ∧ T ≠ e ∧ h.get? T = some oT ∧ oT.data = .fields ts ∧ ts[3]? = some fl
/-- behind a station: all but e, T and the frames is kept, the frames up to their slots -/
structure Stn (fs : List Addr) (e : Addr) (T : Option Addr) (h h' : Heap) : Prop where
  keep : ∀ b o, b ≠ e → some b ≠ T → b ∉ fs → h.get? b = some o → h'.get? b = some o
  slot : ∀ b o, b ≠ e → some b ≠ T → h.get? b = some o → ∃ sl, h'.get? b = some { o with slots := sl }
section
variable {M : Model} {A : Around} {E : Value → Shared → Prop} {s : Shared} {base : Heap} {env : Env} {outer : List Env} {L e T : Addr} {oe : Obj} {vs : Array Value} {head : Value} {hadNext : Bool} {Q : Unit → Shared → Prop} {cls : Value} {d : Option Addr} {fl : Value}
theorem dict_mapFields (o : Obj) (f) : (o.mapFields f).dict = o.dict := by
  obtain ⟨c, d, dt, sl⟩ := o; cases dt <;> rfl
theorem entryD (hfr : A.frames = some (env :: outer)) (hl : s.heap.FunFrames base (env :: outer)) (hf : env.frame = some L) (he : s.heap.get? e = some oe) (hd : oe.data = .fields vs) (hsz : 1 < vs.size)
    (h : ∀ h' T', Fly h' e oe.cls oe.dict T' (rawInt L) → s.heap.get? T' = none → h'.FunFrames base (env :: outer) → Stn ((env :: outer).filterMap (·.frame)) e none s.heap h' → Q () { s with heap := h' }) :
    wpAny M A (do let a ← frameOf env; let pl ← entryPlaceOf L hadNext; let b ← EntryCells.newEntry head a .none (rawInt L) .none pl; setField (.ref e) 1 b) Q E s := by
  have hene : e ∉ (env :: outer).filterMap (·.frame) := fun hm => by
    obtain ⟨_, o, ho, hnf⟩ := hl.mem hm
    rw [he] at ho; injection ho with ho; subst ho; exact hnf vs hd
  refine wpAny_bind (wpAny_frameOf_fun hfr hl hf fun h₁ hs₁ => ?_)
  refine wpAny_bind (wpAny_entryPlaceOf fun pl hpl => ?_)
  unfold EntryCells.newEntry newFields
  refine wpAny_bind (wpAny_newObj_type ?_ (hpl.sizeOk5 _ _ _ _ _))
  have he1 : h₁.get? e = some oe := (hs₁.2.1 e hene).trans he
  generalize hoT : ({ cls := .type "traceback", dict := none, data := .fields ([head, .ref L, .none, rawInt L, .none] ++ (if pl.isEmpty then List.replicate 6 Value.none else pl)).toArray } : Obj) = oT
  have he2 := Heap.get?_push_of_some (h := h₁) oT he1
  refine wpAny_setField he2 hd hsz ?_
  have hTe : h₁.objs.size ≠ e := Nat.ne_of_gt (Heap.lt_size he1)
  have hd3 := Obj.data_mapFields hd (·.setIfInBounds 1 (Value.ref h₁.objs.size))
  have he3 := Heap.get?_update_self (Obj.mapFields (·.setIfInBounds 1 (Value.ref h₁.objs.size))) he2 (Obj.isFreed_of_fields hd3)
  have hT3 : ((h₁.push oT).update e (Obj.mapFields (·.setIfInBounds 1 (Value.ref h₁.objs.size)))).get? h₁.objs.size = some oT :=
    (Heap.get?_update_other _ _ (Ne.symm hTe)).trans (Heap.get?_push_size h₁ (by rw [← hoT]; rfl))
  have keep : ∀ b o, b ≠ e → h₁.get? b = some o → ((h₁.push oT).update e (Obj.mapFields (·.setIfInBounds 1 (Value.ref h₁.objs.size)))).get? b = some o := fun b o hbe hb => by
    rw [Heap.get?_update_other _ _ (Ne.symm hbe)]; exact Heap.get?_push_of_some _ hb
  have noRec : ∀ b o, s.heap.get? b = some o → (∀ vs, o.data ≠ .fields vs) → b ≠ e := fun b o hb hnf q => by
    rw [q, he] at hb; injection hb with hb; subst hb; exact hnf vs hd
  refine h _ h₁.objs.size ⟨_, _, oT, _, he3, Obj.cls_mapFields _ _, dict_mapFields _ _, hd3, by simp [hsz], hTe, hT3, by rw [← hoT], ?_⟩ ?_ (hl.of_keeps fun b o hb hnf => ?_) ⟨fun b o hbe _ hbf hb => keep b o hbe ((hs₁.2.1 b hbf).trans hb), fun b o hbe _ hb => ?_⟩
  · first | (simp; done) | (rcases hpl with rfl | ⟨_, _, _, _, _, _, _, rfl⟩ <;> simp)
  · exact Heap.get?_none_of_le (by rw [hs₁.1]; exact Nat.le_refl _)
  · obtain ⟨sl, hs⟩ := hs₁.2.2 b o hb
    exact ⟨_, keep b _ (noRec b o hb hnf) hs, rfl⟩
  · obtain ⟨sl, hs⟩ := hs₁.2.2 b o hb
    exact ⟨sl, keep b _ hbe hs⟩
/-- the flight's mark is taken off -/
theorem landD (hl : s.heap.FunFrames base outer) (ht : Fly s.heap e cls d T fl)
    (h : ∀ h', Fly h' e cls d T .none → h'.FunFrames base outer → (∀ b o, b ≠ T → s.heap.get? b = some o → h'.get? b = some o) → Q () { s with heap := h' }) : wpAny M A (setFlight (.ref e) none) Q E s := by
  obtain ⟨oe, vs, oT, ts, he, hc, hdd, hd, h1, hTe, hT, hdT, h3⟩ := ht
  have hsz3 : 3 < ts.size := (Array.getElem?_eq_some_iff.mp h3).1
  unfold setFlight
  refine wpAny_bind (wpAny_field he hd h1 ?_)
  rw [if_pos (show (Value.ref T != Value.none) = true from by simp)]
  have other : ∀ b, b ≠ T → (s.heap.update T (Obj.mapFields (·.setIfInBounds 3 ((none : Option Addr).elim Value.none fun f => rawInt f)))).get? b = s.heap.get? b := fun b hb => Heap.get?_update_other _ _ (Ne.symm hb)
  have noRec : ∀ b o, s.heap.get? b = some o → (∀ vs, o.data ≠ .fields vs) → b ≠ T := fun b o hb hnf q => by
    rw [q, hT] at hb; injection hb with hb; subst hb; exact hnf ts hdT
  refine wpAny_setField hT hdT hsz3 (h _ ⟨oe, vs, _, _, (other e (Ne.symm hTe)).trans he, hc, hdd, hd, h1, hTe, Heap.get?_update_self _ hT (Obj.isFreed_of_fields (Obj.data_mapFields hdT _)), Obj.data_mapFields hdT _, by simp [hsz3]⟩
    (hl.of_keeps fun b o hb hnf => ⟨o, (other b (noRec b o hb hnf)).trans hb, rfl⟩) fun b o hb q => (other b hb).trans q)
/-- noted at this frame -/
theorem noteD (hfr : A.frames = some (env :: outer)) (hl : s.heap.FunFrames base (env :: outer)) (hf : env.frame = some L) (ht : Fly s.heap e cls d T .none)
    (h : ∀ h' T', Fly h' e cls d T' (rawInt L) → s.heap.get? T' = none → h'.FunFrames base (env :: outer) → Stn ((env :: outer).filterMap (·.frame)) e (some T) s.heap h' → Q () { s with heap := h' }) : wpAny M A (noteFrame (.ref e) env) Q E s := by
  obtain ⟨oe, vs, oT, ts, he, hc, hdd, hd, h1, hTe, hT, hdT, h3⟩ := ht
  unfold noteFrame
  simp only [hf]
  refine wpAny_bind (wpAny_field he hd h1 ?_)
  rw [if_pos (show (Value.ref T != Value.none) = true from by simp)]
  refine wpAny_bind (wpAny_field hT hdT h3 ?_)
  rw [if_neg (show ¬ ((Value.none == rawInt L) = true) from by simp [rawInt])]
  refine wpAny_bind (wpAny_setField hT hdT (Array.getElem?_eq_some_iff.mp h3).1 ?_)
  have other : ∀ b, b ≠ T → (s.heap.update T (Obj.mapFields (·.setIfInBounds 3 Value.none))).get? b = s.heap.get? b := fun b hb => Heap.get?_update_other _ _ (Ne.symm hb)
  have noRec : ∀ b o, s.heap.get? b = some o → (∀ vs, o.data ≠ .fields vs) → b ≠ T := fun b o hb hnf q => by
    rw [q, hT] at hb; injection hb with hb; subst hb; exact hnf ts hdT
  have back : ∀ b, (s.heap.update T (Obj.mapFields (·.setIfInBounds 3 Value.none))).get? b = none → s.heap.get? b = none := fun b hb => by
    by_cases z : b = T
    · subst z
      rw [Heap.get?_update_self _ hT (Obj.isFreed_of_fields (Obj.data_mapFields hdT _))] at hb; cases hb
    · rw [other b z] at hb; exact hb
  subst hc hdd
  refine entryD (s := { s with heap := s.heap.update T (Obj.mapFields (·.setIfInBounds 3 Value.none)) }) hfr (hl.of_keeps fun b o hb hnf => ⟨o, (other b (noRec b o hb hnf)).trans hb, rfl⟩) hf ((other e (Ne.symm hTe)).trans he) hd (Array.getElem?_eq_some_iff.mp h1).1 fun h' T' x1 x2 x3 x4 => ?_
  exact h h' T' x1 (back _ x2) x3 ⟨fun b o h1 h2 h3 h4 => x4.keep b o h1 (by simp) h3 ((other b (fun z => h2 (by rw [z]))).trans h4), fun b o h1 h2 h4 => x4.slot b o h1 (by simp) ((other b (fun z => h2 (by rw [z]))).trans h4)⟩
/-- .. the frame that raised it -/
theorem leaveD_first (hfr : A.frames = some (env :: outer)) (hl : s.heap.FunFrames base (env :: outer)) (hf : env.frame = some L) (he : s.heap.get? e = some oe) (hd : oe.data = .fields vs) (h1 : vs[1]? = some .none)
    (h : ∀ h' T', Fly h' e oe.cls oe.dict T' .none → s.heap.get? T' = none → Stn ((env :: outer).filterMap (·.frame)) e none s.heap h' → Q () { s with heap := h' }) : wpAny M A (leaving env (.ref e)) Q E s := by
  unfold leaving noteFrame
  simp only [hf]
  refine wpAny_bind (wpAny_bind (wpAny_field he hd h1 ?_))
  rw [if_neg (by decide)]
  refine entryD hfr hl hf he hd (Array.getElem?_eq_some_iff.mp h1).1 fun h1 T' x1 x2 x3 x4 => ?_
  refine landD x3 x1 fun h2 y1 _ y3 => h h2 T' y1 x2 ⟨fun b o h1 h2 h3 h4 => y3 b o (fun z => by rw [z, x2] at h4; cases h4) (x4.keep b o h1 h2 h3 h4), fun b o h1 h2 h4 => ?_⟩
  obtain ⟨sl, e⟩ := x4.slot b o h1 h2 h4
  exact ⟨sl, y3 b _ (fun z => by rw [z, x2] at h4; cases h4) e⟩
end
end L2

end

section
namespace L2
open PySem PySem.Spec PyProof.Rows
/-! ### how an exception of a class of the text lies behind a call -/
def CXe (P : Program) (w : World) : CXT := fun outer H s E e s' => ∃ a C d H' T, e = .ref a ∧ s'.os = s.os ∧ AllBare s'.gens ∧ Un (frs outer) [] H H' s.heap s'.heap ∧ HOk P w H' s'.heap ∧
  Fly s'.heap a (.ref C) d T .none ∧ H' a = none ∧ H' T = none ∧ s.heap.get? a = none ∧ s.heap.get? T = none ∧ E (.ref C) d H'
theorem HOk.there {P : Program} {w : World} {H : Hp} {h : Heap} (ok : HOk P w H h) {a : Addr} {o : HO} (e : H a = some o) : ∃ u, h.get? a = some u := by
  have x := ok a o e
  cases o with
  | lst xs => obtain ⟨_, _, _, _, e⟩ := x; exact ⟨_, e⟩
  | tup xs => obtain ⟨_, _, _, p⟩ := x; obtain ⟨o, e, _⟩ := p; exact ⟨_, e⟩
  | dK kvs => obtain ⟨_, _, _, _, o, _, _, e, _⟩ := x; exact ⟨_, e⟩
  | dT kvs => exact (show False from x).elim
  | set S n => obtain ⟨o, _, _, _, e, _⟩ := x; exact ⟨_, e⟩
  | ins C dx fs => obtain ⟨_, _, _, e, _⟩ := x; exact ⟨_, e⟩
  | own y => exact x
  | xd fs => obtain ⟨_, ⟨_, _, _, e, _⟩, _⟩ := x; exact ⟨_, e⟩
  | rng lo hi => obtain ⟨_, _, _, e⟩ := x; exact ⟨_, e⟩
  | frz ob u => obtain ⟨e, _⟩ := x; exact ⟨_, e⟩
  | tbl ps => exact ⟨_, x⟩
  | met f y => exact ⟨_, x⟩
  | ext φ => exact x.2.1
theorem HOk.none {P : Program} {w : World} {H : Hp} {h : Heap} (ok : HOk P w H h) {a : Addr} (e : h.get? a = none) : H a = none := by
  cases q : H a with
  | none => rfl
  | some o => obtain ⟨u, z⟩ := ok.there q; rw [e] at z; cases z
section
variable {P : Program} {w : World} {K : PySem.W.Frag} {mg : Str → Option Value} {base : Heap} {N : List Str} {qual : Str} {scope : Scope} {f : Addr} {cdv : Value} {A : Around} {outer : List Env} {s : Shared} {H : Hp} {E : XK}
/-- what is held behind a station -/
theorem stn_un {X : Cx} {pins : List (Addr × Obj)} {σ : St} {H1 : Hp} {s1 : Shared} {h' : Heap} {a : Addr} {T : Option Addr} (I : Inv X pins σ H1 s1) (hx : X.ex = []) (hs : X.stack = X.env :: X.outer) (S : Stn (frs X.stack) a T s1.heap h')
    (na : X.s₀.heap.get? a = none) (nT : ∀ t, T = some t → X.s₀.heap.get? t = none) (fa : H1 a = none) (fT : ∀ t, T = some t → H1 t = none) : Un (frs X.outer) [] X.H₀ H1 X.s₀.heap h' ∧ HOk X.prog X.w H1 h' := by
  have B := I.base
  rw [hx] at B
  have nea : ∀ b o, X.s₀.heap.get? b = some o → b ≠ a := fun b o e z => by rw [z, na] at e; cases e
  have neT : ∀ b o, X.s₀.heap.get? b = some o → some b ≠ T := fun b o e z => by have := nT b z.symm; rw [e] at this; cases this
  have neL : ∀ b o, X.s₀.heap.get? b = some o → b ≠ X.env.locals := fun b o e => Nat.ne_of_lt (Nat.lt_of_lt_of_le (Heap.lt_size e) I.ok.above)
  refine ⟨⟨fun b o e n hb hx => ?_, fun b o e n hb hx => ?_, B.free, fun b o e hx => ?_, B.tups, B.frzs, B.tbls⟩, fun b u e => (I.hok b u e).stay (fun c v hc q => ?_) (fun _ q => q) fun _ _ q => q⟩
  · refine S.keep b o (nea b o e) (neT b o e) (fun z => ?_) (B.keep b o e n hb hx)
    exact (List.mem_cons.mp (I.stkSub b z)).elim (neL b o e) hb
  · obtain ⟨sl, e1⟩ := B.slot b o e n hb hx
    obtain ⟨sl', e2⟩ := S.slot b _ (nea b o e) (neT b o e) e1
    exact ⟨sl', e2⟩
  · obtain ⟨o', e1⟩ := B.there b o e hx
    obtain ⟨sl', e2⟩ := S.slot b _ (nea b o e) (neT b o e) e1
    exact ⟨_, e2⟩
  · have hcn : ∃ z, H1 c = some z := by
      rcases hc with rfl | hc
      · exact ⟨_, e⟩
      · exact ⟨_, hc⟩
    obtain ⟨z, hz⟩ := hcn
    refine S.keep c v (fun y => ?_) (fun y => ?_) (fun y => ?_) q
    · rw [y, fa] at hz; cases hz
    · rw [fT c y.symm] at hz; cases hz
    · rw [I.stkFree c y] at hz; cases hz
end
section
variable {P : Program} {w : World} {K : PySem.W.Frag} {mg : Str → Option Value} {base : Heap} {N : List Str} {qual : Str} {scope : Scope} {f : Addr} {cdv : Value} {A : Around} {outer : List Env} {s : Shared} {H : Hp} {E : XK}
/-- a new exception leaves the body that raised it -/
def Throws (X : Cx) (E : XK) : Prop := ∀ (pins : List (Addr × Obj)) (σ : St) (H1 : Hp) (s1 : Shared) (a C : Addr) (oe : Obj) (vs : Array Value), Inv X pins σ H1 s1 → s1.heap.get? a = some oe → oe.cls = .ref C → oe.data = .fields vs → vs[1]? = some .none →
  H1 a = none → X.s₀.heap.get? a = none → E (.ref C) oe.dict H1 → X.xe (.ref a) s1
theorem throws_fn : Throws (cxOf (CXe P w) P w K mg base N qual scope f cdv A outer s H E) E := by
  intro pins σ H1 s1 a C oe vs I he hc hd h1 fa na q
  refine leaveD_first (base := base) I.ok.frames I.stack rfl he hd h1 fun h' T' x1 x2 x3 => ?_
  have fT := I.hok.none x2
  obtain ⟨u, hk⟩ := stn_un (T := none) I rfl rfl x3 na (fun t z => by cases z) fa (fun t z => by cases z)
  refine ⟨a, C, oe.dict, H1, T', rfl, I.os, I.bare, u, hk, hc ▸ x1, fa, fT, na, ?_, q⟩
  cases z : s.heap.get? T' with
  | none => rfl
  | some o =>
    obtain ⟨o', e⟩ := I.base.there T' o z (show T' ∉ ([] : List Addr) by simp)
    rw [x2] at e; cases e
end
end L2

end

section
namespace L2
open PySem PySem.W PySem.Spec PyProof.Rows
/-! ### a class of exceptions of the text, as the fragment's deciders have it -/
structure ExcC (K : Frag) (C : Addr) : Prop where
  ga : findIn K (.ref C) "__getattribute__" = some (some (.builtin "BaseException.__getattribute__"))
  gt : findIn K (.ref C) "__getattr__" = some none
  cl : findIn K (.ref C) "__class__" = some (some (.builtin "object.__class__"))
  ob : mroIn K C (.type "object") = some true
  be : mroIn K C (.type "BaseException") = some true
  is : isClsIn K C = true
  hn : specialIn K (.builtin "object.__class__") "__get__" = some (some (.builtin "getset_descriptor.__get__"))
  tk : takesIn K (.builtin "object.__class__") = some true
section
variable {K : Frag} {prog : Program} {w : World} {A : Around} {E : Value → Shared → Prop} {h : Heap} {g : Array GenState} {d : Drawn} {t : Nat} {os : OsState} {x C : Addr} {ox : Obj} {odo : Option Obj} {name : Str}
theorem exc_call {tk : Tok} {R : Result → Shared → Prop} (X : K.In h) (I : InstAt h x ox C odo) (c : ExcC K C)
    (hq : wpAny (model prog w) A.in1 (Builtin.«object.__getattribute__» ⟨[.ref x, .str name tk], []⟩) (fun fin s' => match fin with | .done (.ret v) => R (.ok (.ret v)) s' | _ => False) (fun _ _ => False) ⟨h, g, d, t, os⟩) :
    codeAny (model prog w) A (.call (.builtin "BaseException.__getattribute__") ⟨[.ref x, .str name tk], []⟩) R ⟨h, g, d, t, os⟩ := by
  have L0 := I.type (M := model prog w)
  have L1 := looks_mroIn (M := model prog w) X c.be
  refine codeAny_call_builtin F.attr_ValueError.ga.plain F.entry_bexc_ga (check_slot (i := "BaseException.__getattribute__") (owner := "BaseException") (n := "__getattribute__") (by decide +kernel) (by decide +kernel) (L0.andThen L1) (F.args_bexc_ga _ _) ?_)
  refine wpAny_mono hq (fun fin s' z => ?_) fun _ _ z => False.elim z
  rcases fin with (_ | _ | _ | _) | _ <;> first | exact z | exact z.elim
theorem exc_by {tk : Tok} {fill expr : Bool} {Q : Value → Shared → Prop} (X : K.In h) (I : InstAt h x ox C odo) (c : ExcC K C)
    (hq : ∀ A : Around, wpAny (model prog w) A (Builtin.«object.__getattribute__» ⟨[.ref x, .str name tk], []⟩) (fun fin s' => match fin with | .done (.ret v) => Q v s' ∧ handedIn v = true | _ => False) (fun _ _ => False) ⟨h, g, d, t, os⟩) :
    wpAny (model prog w) A (getAttrBy (.ref x) (.str name tk) fill expr) Q E ⟨h, g, d, t, os⟩ := by
  have L0 := I.type (M := model prog w)
  have L1 := looks_findIn (M := model prog w) X c.ga
  have L2 := looks_findIn (M := model prog w) X c.gt
  have f3 := F.attr_ValueError.ga.bind (.ref x)
  have hx0 : (expr && onTheHeap (Value.builtin "BaseException.__getattribute__")) = false := by cases expr <;> rfl
  have hx2 : (Value.builtin "BaseException.__getattribute__" == Value.builtin "object.__getattribute__") = false := by decide +kernel
  have hx1 : (onTheHeap (Value.ref C) && Value.builtin "BaseException.__getattribute__" == Value.builtin "object.__getattribute__") = false := by rw [hx2]; rfl
  unfold getAttrBy
  refine wpAny_holding (wpAny_bind (L0.at (wpAny_bind (L1.at ?_))))
  dsimp only
  rw [if_neg (by rw [hx1]; decide)]
  have rest : ∀ A : Around, codeAny (model prog w) A (.call (.builtin "BaseException.__getattribute__") ⟨[.ref x, .str name tk], []⟩) (fun r s' => match r with | .ok (.ret v) => Q v s' ∧ handedIn v = true | _ => False) ⟨h, g, d, t, os⟩ := fun A => exc_call X I c (wpAny_mono (hq A.in1) (fun fin s' z => by rcases fin with (_ | _ | _ | _) | _ <;> first | exact z | exact z.elim) fun _ _ z => z.elim)
  repeat (any_goals (first | assumption | with_reducible refine L2.at ?_ | wp_step))
  refine codeAny_mono (rest A) fun r s' z => ?_
  cases r with
  | error e => exact z.elim
  | ok fl => cases fl with
    | ret v => exact handed_on z.2 z.1
    | next => exact z.elim
    | brk => exact z.elim
    | cont => exact z.elim
theorem exc_entry_class {tk : Tok} {Q : Fin → Shared → Prop} (X : K.In h) (I : InstAt h x ox C odo) (c : ExcC K C) (hq : Q (.done (.ret (.ref C))) ⟨h, g, d, t, os⟩) :
    wpAny (model prog w) A (Builtin.«object.__getattribute__» ⟨[.ref x, .str "__class__" tk], []⟩) Q E ⟨h, g, d, t, os⟩ := by
  have L0 := I.type (M := model prog w)
  obtain ⟨cd, hc⟩ := Option.isSome_iff_exists.mp (show (clsIn K C).isSome = true from c.is)
  have hf : findObj K C odo "__class__" = some (.bind (.builtin "getset_descriptor.__get__") (.builtin "object.__class__")) := by
    unfold findObj
    rw [hc, Option.bind_some, c.cl, Option.bind_some]
    simp [c.hn, c.tk]
  have L1 := looks_find (M := model prog w) X I hf
  repeat (any_goals (first | assumption | with_reducible refine L0.at ?_ | with_reducible refine L1.at ?_ | wp_step))
  refine class_get (s := ⟨h, g, d, t, os⟩) (ox := ox) (od := odo) X I c.ob ?_
  repeat (any_goals (first | assumption | wp_step))
theorem exc_class {Q : Option Value → Shared → Prop} {s : Shared} (X : K.In s.heap) (I : InstAt s.heap x ox C odo) (c : ExcC K C) (hq : Q (some (.ref C)) { s with toks := s.toks + 1 }) : wpAny (model prog w) A (getAttr? (.ref x) "__class__") Q E s := by
  obtain ⟨h, g, d, t, os⟩ := s
  unfold getAttr? getAttrBy?
  refine wpAny_bind (wpAny_mkText (wpAny_bind (wpAny_attempt ?_)))
  exact exc_by X I c fun A => exc_entry_class X I c ⟨wpAny_pure hq, rfl⟩
theorem kitx_exc (c : ExcC K C) : KitX K (.ref x) (.ref C) (fun h => ∃ ox odo, InstAt h x ox C odo) where
  ty := fun _ _ _ ⟨_, _, I⟩ => I.type
  it := fun _ _ X _ => by
    obtain ⟨cdD, hcD⟩ := Option.isSome_iff_exists.mp (show (clsIn K C).isSome = true from c.is)
    unfold clsIn at hcD
    split at hcD
    · rename_i c' d' cd' sl' ho
      intro A' Q' E' s' k q
      unfold isType loadHead
      exact wpAny_bind (wpAny_loadPart (k _ _ (X _ _ ho)) (wpAny_pure q))
    · cases hcD
  ne := fun h tp dd its n sl X htp => by
    obtain ⟨cdD, hcD⟩ := Option.isSome_iff_exists.mp (show (clsIn K C).isSome = true from c.is)
    refine Bool.eq_false_iff.mpr fun q => ?_
    have e : C = tp := Value.ref.inj (beq_iff_eq.mp q)
    subst e
    unfold clsIn at hcD
    split at hcD
    · rename_i c' d' cd' sl' ho
      have z := (X _ _ ho).symm.trans htp
      cases z
    · cases hcD
  ca := fun X ⟨_, _, I⟩ k => exc_class X I c k
end
end L2

end

section
namespace L2
open PySem PySem.W PySem.Spec PyProof.Rows
/-! ### defs that refuse -/
section
variable {P : Program} {w : World} {K : PySem.W.Frag} {mg : Str → Option Value} {base : Heap}
/-- less asked behind an exception -/
def eSub (H : Hp) (E : XK) : XK := fun c d H' => ∃ H'', Sub H H'' H' ∧ E c d H''
theorem FnOk.keepE {k : Nat} {f : Addr} {fd : FuncData} {ps : List Str} {sp sp' : Sp} (F : FnOk P w K mg base (CXe P w) k f fd ps sp)
    (h : ∀ vs H Q E, sp' vs H Q E → sp vs H (fun v H' => ∃ H'', Sub H H'' H' ∧ Q v H'') (eSub H E)) : FnOk P w K mg base (CXe P w) k f fd ps sp' := by
  refine ⟨fun vs H Q E q => F.len vs H _ _ (h vs H Q E q), fun A outer s H args us vs Q E hr e0 hb r q => codeAny_mono (F.run A outer s H args us vs _ _ hr e0 hb r (h vs H Q E q)) fun rs s' c => ?_⟩
  cases rs with
  | error e =>
    obtain ⟨a, C, d, H', T, rfl, os, bare, un, hok, fly, fa, fT, na, nT, H'', dd, q'⟩ := c
    have nn : ∀ b, H' b = none → H'' b = none := fun b hb => by
      cases z : H'' b with
      | none => rfl
      | some o => have := dd.le b o z; rw [hb] at this; cases this
    exact ⟨a, C, d, H'', T, rfl, os, bare, Un.sub (Un.refl (h := s.heap)) un dd, hok.sub (dd.cl e0.hok.closed) dd.le, fly, nn a fa, nn T fT, na, nT, q'⟩
  | ok fl =>
    cases fl with
    | ret u =>
      obtain ⟨v, H', os, bare, un, hok, rv, H'', d, q'⟩ := c
      exact ⟨v, H'', os, bare, Un.sub (Un.refl (h := s.heap)) un d, hok.sub (d.cl e0.hok.closed) d.le, rv, q'⟩
    | next => exact c
    | brk => exact c
    | cont => exact c
theorem Fun.okE {x qual : Str} {st : Stmt} {f : Addr} {fd : FuncData} {N ps : List Str} {k : Nat} {sp : Sp} (F : Fun K x qual st f fd) (S : FnScope N ps (defScope st)) (len : ∀ vs H Q E, sp vs H Q E → vs.length = ps.length)
    (hbody : ∀ (cdv : Value) (A : Around) (outer : List Env) (s : Shared) (H : Hp) (vs : List V) (Q : VK) (E : XK), Room k (A.deeper (envOfC qual (defScope st) s.heap.objs.size f cdv)) → sp vs H Q E →
      ∃ t, PSs (cxOf (CXe P w) P w K mg base N qual (defScope st) f cdv A outer s H (eSub H E)) (defBody st) t ∧ t { nx := fun _ H' => ∃ H'', Sub H H'' H' ∧ Q .non H'', rt := fun v H' => ∃ H'', Sub H H'' H' ∧ Q v H'' } (start N vs) H) : FnOk P w K mg base (CXe P w) (k + 1) f fd ps sp := by
  refine FnOk.keepE (sp := fun vs H Q E => ∃ Q' E', Q = (fun v H' => ∃ H'', Sub H H'' H' ∧ Q' v H'') ∧ E = eSub H E' ∧ sp vs H Q' E') ?_ fun vs H Q E h => ⟨Q, E, rfl, rfl, h⟩
  obtain ⟨oc, od, kV, doc, pm, an, cdv, ct, osl, rfl, lk, hcd⟩ := F.ex
  refine fn_of lk hcd S (fun vs H Q E ⟨Q', E', _, _, h⟩ => len vs H Q' E' h) fun A outer s H vs Q E hr ⟨Q', E', e1, e2, hsp⟩ => ?_
  subst e1 e2
  exact hbody cdv A outer s H vs Q' E' hr hsp
def DefOkE (P : Program) (w : World) (K : PySem.W.Frag) (mg : Str → Option Value) (base : Heap) (k : Nat) (x : Str) (ps : List Str) (sp : Sp) : Prop :=
  ∃ f fd, FnOk P w K mg base (CXe P w) k f fd ps sp ∧ Binds K fd ps [] ∧ PySem.W.keepIn K (.ref f) = true ∧ mg x = some (.ref f)
theorem FunAt.okE {x : Str} {st : Stmt} {f : Addr} {fd : FuncData} {N ps : List Str} {k : Nat} {sp : Sp} (F : FunAt K mg x st ps f fd) (S : FnScope N ps (defScope st)) (len : ∀ vs H Q E, sp vs H Q E → vs.length = ps.length)
    (hbody : ∀ (cdv : Value) (A : Around) (outer : List Env) (s : Shared) (H : Hp) (vs : List V) (Q : VK) (E : XK), Room k (A.deeper (envOfC x (defScope st) s.heap.objs.size f cdv)) → sp vs H Q E →
      ∃ t, PSs (cxOf (CXe P w) P w K mg base N x (defScope st) f cdv A outer s H (eSub H E)) (defBody st) t ∧ t { nx := fun _ H' => ∃ H'', Sub H H'' H' ∧ Q .non H'', rt := fun v H' => ∃ H'', Sub H H'' H' ∧ Q v H'' } (start N vs) H) : DefOkE P w K mg base (k + 1) x ps sp :=
  ⟨f, fd, F.1.okE S len hbody, F.2.1, F.1.kp, F.2.2⟩
end
/-! ### calls whose exceptions may depend on the names' values -/
def PassesX (CX : CXT) (X : Cx) (E : St → XK) : Prop := ∀ (pins : List (Addr × Obj)) (σ : St) (H : Hp) (s : Shared) (e : Value) (s' : Shared), Inv X pins σ H s → CX X.stack H s (E σ) e s' → X.xe e s'
theorem Passes.x {CX : CXT} {X : Cx} {E : XK} (h : Passes CX X E) : PassesX CX X fun _ => E := h
section
variable {X : Cx} {k k' : Nat} {x : Str} {ps : List Str} {sp : Sp} {e : Expr} {es : List Expr} {t : TA} {p pos : Pos} {E : St → XK}
end
/-! ### raise C(..), C an own class without __init__ -/
abbrev bmV : List Value := [.type "ValueError", .type "Exception", .type "BaseException", .type "object"]
structure ClsAt (K : Frag) (h : Heap) (C : Addr) : Prop where
  ex : ∃ (bm : List Value) (N : Addr) (nm q : Str) (bs : List Value) (hdct : Bool) (sn : List Str) (sub : List Value) (ab : Bool) (col : Option Bool) (dd : Option Addr) (k0 k1 k2 k3 k5 : Option Value) (mN : Str → Option Value),
    h.get? C = some (excClassObj nm q C N bs bm hdct sn sub ab col dd k0 k1 k2 k3 k5 "ValueError.__new__") ∧ h.Ns N mN ∧ mN "__init__" = none ∧ OwnTail h bmV bm
theorem clsAt {K : Frag} {h : Heap} {C : Addr} (X : K.In h) (q : excIn K C bmV "ValueError.__new__" = true) : ClsAt K h C := by
  unfold excIn at q
  split at q
  · rename_i dd cd sl ho
    split at q
    · rename_i C' bm k0 k1 k2 k3 n k5 hm hs
      simp only [Bool.and_eq_true, beq_iff_eq, Bool.not_eq_true'] at q
      obtain ⟨⟨⟨⟨⟨rfl, rfl⟩, hdel⟩, ht⟩, hok⟩, hni⟩ := q
      obtain ⟨nm, bs, mro, ns, qn, hd, sn, sub, ab, col, del⟩ := cd
      dsimp only at hm hdel hok hni
      subst hm hdel
      have hsl : sl = #[k0, k1, k2, k3, some (.builtin "ValueError.__new__"), k5] := by
        obtain ⟨l⟩ := sl
        simp only at hs
        rw [hs]
      subst hsl
      exact ⟨bm, ns, nm, qn, bs, hd, sn, sub, ab, col, dd, k0, k1, k2, k3, k5, _, X _ _ ho, .of_isNs (isNs_of_in X hok), nsMap_none_of_in X hok hni, tail_of_in X ht⟩
    · cases q
  · cases q
def tRaise (C : Addr) (E : XK) (t : TA) : TS := fun _ σ H => t σ H fun vs H1 => vs.length ≤ sizeLine ∧ E (.ref C) none H1
theorem ps_raise {X : Cx} {x : Str} {C : Addr} {np cpos pos : Pos} {e : Expr} {es : List Expr} {t : TA} {E : XK} (T : Throws X E) (xc : excIn X.K C bmV "ValueError.__new__" = true) (hm : X.mg x = some (.ref C)) (hh : X.A.handled = none) (ha : PA X (e :: es) t)
    (hex : X.ex = [] := by rfl) (hg : Gl X x := by rfl) (hdb : (x == ("__debug__" : Str)) = false := by decide +kernel)
    (he : starEach (e :: es) X.env = (false, eval e X.env) :: starEach es X.env := by rfl) (hpl : (backTo cpos (starEach es X.env)).any (·.1) = false := by rfl) :
    PS X (.Raise (some (.Call (.Name x np) (e :: es) [] cpos)) none pos) (tRaise C E t) := by
  intro pins s σ H D I h
  obtain ⟨bm, N, nm, q, bs, hdct, sn, sub, ab, col, dd, k0, k1, k2, k3, k5, mN, h1, h2, h3, h4⟩ := (clsAt I.ok.mod.kin xc).ex
  refine wpAny_Raise_call_subU (nm := nm) (q := q) (N := N) (bs := bs) (hdct := hdct) (sn := sn) (sub := sub) (ab := ab) (col := col) (dd := dd) (k0 := k0) (k1 := k1) (k2 := k2) (k3 := k3) (k5 := k5) F.excBase_ValueError (bmB := bmV) (by decide +kernel) F.excBase_ValueError (mN := mN) (h4.hasType (by decide +kernel)) hh ?_ h3 (ld_glob I hg hm ⟨rfl, ?_⟩ hdb)
  · rw [he]; show (false || (backTo cpos (starEach es X.env)).any (·.1)) = false; rw [hpl]; rfl
  have hp := ha cpos pins s σ H _ I h
  rw [he] at hp ⊢
  refine Calls.evalArgs_plain (thn hp fun us s1 ⟨vs, H1, I1, r, hl, q1⟩ => ⟨rfl, by show us.length ≤ _; rw [← r.length]; exact hl, I1.bk _ _ h1, h2.keeps I1.bk, h4.keeps I1.bk, fun h' a hm => ?_⟩)
  obtain ⟨tt, ht, _, _⟩ := hm.there
  refine T pins σ H1 _ a C _ _ (I1.kept (h' := h') (t' := s1.toks) hm.keeps) ht rfl rfl rfl (I1.hok.none hm.new) ?_ q1
  cases z : X.s₀.heap.get? a with
  | none => rfl
  | some o =>
    obtain ⟨o', e⟩ := I1.base.there a o z (by rw [hex]; simp)
    rw [hm.new] at e; cases e
end L2

end

section
namespace L2
open PySem PySem.W PySem.Spec PyProof.Rows
/-- an exception that was caught -/
def ExcO (a C : Addr) (d : Option Addr) : HO := .ext fun h => ∃ o vs, h.get? a = some o ∧ o.cls = .ref C ∧ o.dict = d ∧ o.data = .fields vs
theorem excO_ok {P : Program} {w : World} {H : Hp} {h : Heap} {a C T : Addr} {d : Option Addr} {fl : Value} (f : Fly h a (.ref C) d T fl) : ObjOk P w H h a (ExcO a C d) := by
  obtain ⟨oe, vs, oT, ts, he, hc, hdd, hd, _⟩ := f
  exact ⟨⟨oe, vs, he, hc, hdd, hd⟩, ⟨oe, he⟩, fun h1 h2 ⟨o, vs, e1, e2, e3, e4⟩ k => ⟨o, vs, k o e1, e2, e3, e4⟩⟩
theorem exc_matches {M : Model} {A : Around} {E : Value → Shared → Prop} {K : Frag} {s : Shared} {a C D : Addr} {o : Obj} {b : Bool} {Q : Bool → Shared → Prop} (X : K.In s.heap) (he : s.heap.get? a = some o) (hc : o.cls = .ref C) (cD : ExcC K D) (tyD : typeIn K (.ref D) = some (.type "type"))
    (hm : mroIn K C (.ref D) = some b) (hq : Q b s) : wpAny M A (excMatches (.ref a) (.ref D)) Q E s := by
  obtain ⟨h, g, d, t, os⟩ := s
  have L1 := looks_typeIn (M := M) X tyD
  have L2 := looks_mroIn (M := M) X cD.be
  have L3 := looks_mroIn (M := M) X hm
  have L4 := (kitx_exc (x := a) cD).it M h X
  have L5 : Looks M h (isType (.ref D)) true := by
    obtain ⟨cdD, hcD⟩ := Option.isSome_iff_exists.mp (show (clsIn K D).isSome = true from cD.is)
    unfold clsIn at hcD
    split at hcD
    · rename_i c' d' cd' sl' ho
      intro A' Q' E' s' k q
      unfold isType loadHead
      exact wpAny_bind (wpAny_loadPart (k _ _ (X _ _ ho)) (wpAny_pure q))
    · cases hcD
  have f := tc_notTuple
  unfold excMatches isExcClass isInstance
  repeat (first | (with_reducible refine wpAny_loadPart_at he ?_; rw [hc]) | with_reducible refine L1.at ?_ | with_reducible refine L5.at ?_ | with_reducible refine L2.at ?_ | with_reducible refine L3.at ?_ | wp_step)
  cases b
  · repeat (first | exact hq | wp_step)
  · repeat (first | exact hq | wp_step)
section
variable {X : Cx} {pins : List (Addr × Obj)} {σ : St} {H1 H2 : Hp} {s1 s2 : Shared} {h' : Heap} {a C T T' : Addr} {d : Option Addr}
/-- the exception is caught: it is tracked from here on -/
theorem Inv.caught {t' : Nat} (I1 : Inv X pins σ H1 s1) (I2 : Inv X pins σ H2 s2) (hex : X.ex = []) (na : s1.heap.get? a = none) (nT : s1.heap.get? T = none) (fa : H2 a = none) (fT : H2 T = none)
    (keep : ∀ b o, b ≠ a → b ≠ T → b ∉ frs X.stack → s2.heap.get? b = some o → h'.get? b = some o)
    (slot : ∀ b o, b ≠ a → b ≠ T → s2.heap.get? b = some o → ∃ sl, h'.get? b = some { o with slots := sl }) (fly : Fly h' a (.ref C) d T' .none) : Inv X pins σ (upd H2 a (ExcO a C d)) { s2 with heap := h', toks := t' } := by
  have ne : ∀ b o, s1.heap.get? b = some o → b ≠ a ∧ b ≠ T := fun b o e => ⟨fun z => (by rw [z, na] at e; cases e), fun z => (by rw [z, nT] at e; cases e)⟩
  have ne0 : ∀ b o, X.s₀.heap.get? b = some o → b ≠ a ∧ b ≠ T := fun b o e => by
    obtain ⟨o', e'⟩ := I1.base.there b o e (by rw [hex]; simp)
    exact ne b o' e'
  have neL : ∀ b o, X.s₀.heap.get? b = some o → b ≠ X.env.locals := fun b o e => Nat.ne_of_lt (Nat.lt_of_lt_of_le (Heap.lt_size e) I2.ok.above)
  have nL : X.env.locals ≠ a ∧ X.env.locals ≠ T := by
    obtain ⟨m, ⟨o, _, _, ho, _⟩, _⟩ := I1.loc
    exact ne _ o ho
  have nC : ∀ x c, X.env.cells.lookup x = some c → c ≠ a ∧ c ≠ T := fun x c e => by
    obtain ⟨v, o, ho, _⟩ := I1.cell x c e
    exact ne c o ho
  have cellK : ∀ x c, X.env.cells.lookup x = some c → ∀ v, s2.heap.IsCell c v → h'.IsCell c v := fun x c e v ⟨o, ho, hd⟩ => by
    obtain ⟨sl, q⟩ := slot c o (nC x c e).1 (nC x c e).2 ho
    exact ⟨_, q, hd⟩
  refine ⟨I2.ok, I2.os, I2.bare, ⟨fun b o e n hb hx => ?_, fun b o e n hb hx => ?_, fun b o e n hx => ?_, fun b o e hx => ?_, fun b xs e => ?_, fun b o u e => ?_, fun b ps e => ?_⟩, ?_, fun x c e => ?_, ?_, fun x c e => ?_, fun p hp => ?_, fun b u e => ?_, I2.len⟩
  · refine keep b o (ne0 b o e).1 (ne0 b o e).2 (fun z => ?_) (I2.base.keep b o e n hb hx)
    exact (List.mem_cons.mp (I2.stkSub b z)).elim (neL b o e) hb
  · obtain ⟨sl, e1⟩ := I2.base.slot b o e n hb hx
    obtain ⟨sl', e2⟩ := slot b _ (ne0 b o e).1 (ne0 b o e).2 e1
    exact ⟨sl', e2⟩
  · rw [upd_ne (ne0 b o e).1]; exact I2.base.free b o e n hx
  · obtain ⟨o', e1⟩ := I2.base.there b o e hx
    obtain ⟨sl', e2⟩ := slot b _ (ne0 b o e).1 (ne0 b o e).2 e1
    exact ⟨_, e2⟩
  · have := I2.base.tups b xs e
    rw [upd_ne (ne_of_none this fa)]; exact this
  · have := I2.base.frzs b o u e
    rw [upd_ne (ne_of_none this fa)]; exact this
  · obtain ⟨more, this⟩ := I2.base.tbls b ps e
    exact ⟨more, by rw [upd_ne (ne_of_none this fa)]; exact this⟩
  · obtain ⟨m, ⟨o, es, ep, ho, r⟩, hl⟩ := I2.loc
    obtain ⟨sl, q⟩ := slot _ o nL.1 nL.2 ho
    refine ⟨m, ⟨_, es, ep, q, r⟩, fun i x v e1 e2 e3 => ?_⟩
    obtain ⟨u, r, l⟩ := hl i x v e1 e2 e3
    refine ⟨u, r, ?_⟩
    rcases l with l | ⟨k, c, e, z⟩
    · exact .inl l
    · exact .inr ⟨k, c, e, cellK x c e _ z⟩
  · obtain ⟨v, z⟩ := I2.cell x c e
    exact ⟨v, cellK x c e v z⟩
  · rw [upd_ne nL.1]; exact I2.free
  · rw [upd_ne (nC x c e).1]; exact I2.freeC x c e
  · obtain ⟨e, n, ne', nf, dd⟩ := I2.pin p hp
    obtain ⟨e1, _⟩ := I1.pin p hp
    refine ⟨keep p.1 p.2 (ne _ _ e1).1 (ne _ _ e1).2 (fun z => (List.mem_cons.mp (I2.stkSub _ z)).elim ne' nf) e, ?_, ne', nf, dd⟩
    rw [upd_ne (ne _ _ e1).1]; exact n
  · by_cases hb : b = a
    · subst hb
      rw [upd_same] at e; cases e
      exact excO_ok fly
    · rw [upd_ne hb] at e
      refine (I2.hok b u e).stay (fun c v hc q => ?_) (fun c r => by rw [upd_ne (ne_of_none r fa)]; exact r) fun c xs r => by rw [upd_ne (ne_of_none r fa)]; exact r
      have hcn : ∃ z, H2 c = some z := by
        rcases hc with rfl | hc
        · exact ⟨_, e⟩
        · exact ⟨_, hc⟩
      obtain ⟨z, hz⟩ := hcn
      refine keep c v (ne_of_none hz fa) (ne_of_none hz fT) (fun y => ?_) q
      rw [I2.stkFree c y] at hz; cases hz
end
/-! ### try -/
def tryXe (X : Cx) (pn : List (Addr × Obj)) (Eh : St → XK) (e : Value) (s' : Shared) : Prop := ∃ a C d T σ' H1 H' s1, e = .ref a ∧ Inv { X with pn := pn } [] σ' H1 s1 ∧ Inv { X with pn := pn } [] σ' H' s' ∧ Fly s'.heap a (.ref C) d T .none ∧
  H' a = none ∧ H' T = none ∧ s1.heap.get? a = none ∧ s1.heap.get? T = none ∧ Eh σ' (.ref C) d H'
def Cx.tryC (X : Cx) (pn : List (Addr × Obj)) (Eh : St → XK) : Cx := { X with pn := pn, xe := tryXe X pn Eh }
def Cx.handC (X : Cx) (pn : List (Addr × Obj)) (e : Addr) : Cx := { X with pn := pn, A := X.A.mark (some (.ref e)), calm := false, xe := fun _ _ => False }
theorem passes_try {X : Cx} {pn : List (Addr × Obj)} {Eh : St → XK} : PassesX (CXe X.prog X.w) (X.tryC pn Eh) Eh := by
  intro pins σ H1 s1 e s2 I h
  obtain ⟨a, C, d, H2, T, rfl, os, bare, un, hok, fly, fa, fT, na, nT, q⟩ := h
  have I1 : Inv { X with pn := pn } [] σ H1 s1 := Inv.unwish (X := { X with pn := pn }) (Inv.pins_of (pins' := []) I (by simp))
  exact ⟨a, C, d, T, σ, H1, H2, s1, rfl, I1, I1.call' (ch := []) os un hok bare (fun b z => absurd z (by simp)), fly, fa, fT, na, nT, q⟩
def tTry (K : Frag) (D : Addr) (i : Nat) (Eh : St → XK) (tb th : TS) : TS := fun Dn σ H => tb Dn σ H ∧ ∀ σ' C d H' a, Eh σ' (.ref C) d H' → H' a = none → mroIn K C (.ref D) = some true ∧
  th { nx := fun σ H => Dn.nx (σ.set i none) H, rt := Dn.rt, bk := fun σ H => Dn.bk (σ.set i none) H, ct := fun σ H => Dn.ct (σ.set i none) H } (σ'.set i (some (.ref a))) (upd H' a (ExcO a C d))
theorem Cx.Ok.pns {X : Cx} (ok : X.Ok) (pn : List (Addr × Obj)) : Cx.Ok { X with pn := pn } :=
  ⟨ok.mod, ok.kind, ok.glob, ok.blt, ok.above, ok.inj, ok.has, ok.cab, ok.hd, ok.frames, ok.stk, ok.exf, ok.bs, ok.bsz, ok.noex, ok.exfs, ok.funs, ok.frf⟩
theorem Cx.Ok.hand {X : Cx} {pn : List (Addr × Obj)} (ok : Cx.Ok { X with pn := pn }) (e : Addr) : Cx.Ok (X.handC pn e) :=
  ⟨ok.mod, ok.kind, ok.glob, ok.blt, ok.above, ok.inj, ok.has, ok.cab, fun z => Bool.noConfusion z, ok.frames, ok.stk, ok.exf, ok.bs, ok.bsz, ok.noex, ok.exfs, ok.funs, ok.frf⟩
theorem Inv.hand {X : Cx} {pn : List (Addr × Obj)} {σ : St} {H : Hp} {s : Shared} (I : Inv { X with pn := pn } [] σ H s) (e : Addr) : Inv (X.handC pn e) [] σ H s :=
  ⟨I.ok.hand e, I.os, I.bare, I.base, I.loc, I.cell, I.free, I.freeC, I.pin, I.hok, I.len⟩
theorem Inv.ins {X : Cx} {pins : List (Addr × Obj)} {σ : St} {H : Hp} {s : Shared} (I : Inv X pins σ H s) : Inv { X with pn := X.pn ++ pins } [] σ H s :=
  ⟨I.ok.pns _, I.os, I.bare, I.base, I.loc, I.cell, I.free, I.freeC, fun p hp => I.pin p (by simpa using hp), I.hok, I.len⟩
theorem Inv.outs {X Y : Cx} {pins : List (Addr × Obj)} {σ : St} {H : Hp} {s : Shared} (ok : X.Ok) (I : Inv { X with pn := X.pn ++ pins } [] σ H s) : Inv X pins σ H s :=
  ⟨ok, I.os, I.bare, I.base, I.loc, I.cell, I.free, I.freeC, fun p hp => I.pin p (by simpa using hp), I.hok, I.len⟩
theorem Inv.unhand {X : Cx} {pins : List (Addr × Obj)} {σ : St} {H : Hp} {s : Shared} {e : Addr} (ok : X.Ok) (I : Inv (X.handC (X.pn ++ pins) e) [] σ H s) : Inv X pins σ H s :=
  ⟨ok, I.os, I.bare, I.base, I.loc, I.cell, I.free, I.freeC, fun p hp => I.pin p (by simpa [Cx.handC] using hp), I.hok, I.len⟩
/-- a name goes -/
theorem Inv.gone {X : Cx} {M : Model} {A : Around} {E : Value → Shared → Prop} {pins : List (Addr × Obj)} {σ : St} {H : Hp} {s : Shared} {n : Str} {i : Nat} {pos : Pos} {Q : Unit → Shared → Prop} (I : Inv X pins σ H s) (hN : X.N.Nodup) (hi : X.N[i]? = some n) (hl : X.env.scope.names.lookup n = some .local)
    (h : ∀ s', Inv X pins (σ.set i none) H s' → Q () s') : wpAny M A (do bindName X.env n .none; unbindBehindTheSuite X.env n pos) Q E s := by
  obtain ⟨m, hn, hlk⟩ := id I.loc
  have hcls : (X.env.scope.kind == .class || (X.env.scope.kind == .module && X.env.locals != X.env.globals)) = false := by rw [I.ok.kind]; rfl
  have hiσ : i < σ.length := by rw [I.len]; exact (List.getElem?_eq_some_iff.mp hi).1
  refine wpAny_nameGoes_keeps hl hn hcls fun h' v hn' hs => ?_
  obtain ⟨oL, _, _, hoL, _⟩ := id hn
  have tracked : HOk X.prog X.w H h' := fun b ob e => by
    refine (I.hok b ob e).stay (fun c w' hc q => (hs.2 c ?_).trans q) (fun _ q => q) fun _ _ q => q
    rintro rfl
    rcases hc with rfl | hc
    · rw [I.free] at e; cases e
    · rw [I.free] at hc; cases hc
  refine h _ ⟨I.ok, I.os, I.bare, ⟨fun b o e n hb hx => ?_, fun b o e n hb hx => ?_, I.base.free, fun b o e hx => ?_, I.base.tups, I.base.frzs, I.base.tbls⟩, ⟨_, hn', fun j y v' e1 e2 e3 => ?_⟩, fun y c e => ?_, I.free, I.freeC, fun p hp => ?_, tracked, by simpa using I.len⟩
  · exact (hs.2 b (Nat.ne_of_lt (Nat.lt_of_lt_of_le (Heap.lt_size e) I.ok.above))).trans (I.base.keep b o e n hb hx)
  · obtain ⟨sl, e1⟩ := I.base.slot b o e n hb hx
    exact ⟨sl, (hs.2 b (Nat.ne_of_lt (Nat.lt_of_lt_of_le (Heap.lt_size e) I.ok.above))).trans e1⟩
  · obtain ⟨o', e1⟩ := I.base.there b o e hx
    exact ⟨o', (hs.2 b (Nat.ne_of_lt (Nat.lt_of_lt_of_le (Heap.lt_size e) I.ok.above))).trans e1⟩
  · by_cases hj : j = i
    · subst hj
      rw [List.getElem?_set_self hiσ] at e2
      cases e2
    · rw [List.getElem?_set_ne (Ne.symm hj)] at e2
      obtain ⟨u', r', q⟩ := hlk j y v' e1 e2 e3
      refine ⟨u', r', ?_⟩
      rcases q with ⟨k, e⟩ | ⟨k, c, e, z⟩
      · refine .inl ⟨k, ?_⟩
        have : y ≠ n := fun e => hj (nodup_ix hN e1 (e ▸ hi))
        simp [this, e]
      · exact .inr ⟨k, c, e, z.sameBut hs (I.cne y c e)⟩
  · obtain ⟨w', z⟩ := I.cell y c e
    exact ⟨w', z.sameBut hs (I.cne y c e)⟩
  · obtain ⟨e, n, ne, nf, d⟩ := I.pin p hp
    exact ⟨(hs.2 p.1 ne).trans e, n, ne, nf, d⟩
theorem ps_try {X : Cx} {body suite : List Stmt} {b₀ : Stmt} {x n : Str} {i : Nat} {D : Addr} {np pos tpos : Pos} {tb th : TS} {Eh : St → XK} (hb : ∀ pn, PSs (X.tryC pn Eh) body tb) (hh : ∀ pn e, PSs (X.handC pn e) (b₀ :: suite) th)
    (hm : X.mg x = some (.ref D)) (cD : ExcC X.K D) (tyD : typeIn X.K (.ref D) = some (.type "type")) (hN : X.N.Nodup) (hi : X.N[i]? = some n := by rfl) (hl : X.env.scope.names.lookup n = some .local := by rfl)
    (hs : X.stack = X.env :: X.outer := by rfl) (hf : X.env.frame = some X.env.locals := by rfl) (hex : X.ex = [] := by rfl) (hg : Gl X x := by rfl) (hdb : (x == ("__debug__" : Str)) = false := by decide +kernel) :
    PS X (.Try body [.ExceptHandler (some (.Name x np)) (some n) (b₀ :: suite) pos] [] [] tpos) (tTry X.K D i Eh tb th) := by
  intro pins s σ H Dn I ⟨h1, h2⟩
  have ok := I.ok
  refine wpAny_Try_except (wpAny_mono (hb (X.pn ++ pins) [] s σ H Dn (I.ins.wish _) h1) (fun f s1 z => ?_) (fun e s1 z => ?_))
  · cases f with
    | next =>
      obtain ⟨σ', H', I', q⟩ := z
      exact pss_nil (X := X) pins s1 σ' H' Dn (Inv.outs (Y := X) ok (Inv.unwish (X := { X with pn := X.pn ++ pins }) I')) q
    | brk => obtain ⟨σ', H', I', q⟩ := z; exact ⟨σ', H', Inv.outs (Y := X) ok (Inv.unwish (X := { X with pn := X.pn ++ pins }) I'), q⟩
    | cont => obtain ⟨σ', H', I', q⟩ := z; exact ⟨σ', H', Inv.outs (Y := X) ok (Inv.unwish (X := { X with pn := X.pn ++ pins }) I'), q⟩
    | ret u => obtain ⟨v, σ', H', I', r, q⟩ := z; exact ⟨v, σ', H', Inv.outs (Y := X) ok (Inv.unwish (X := { X with pn := X.pn ++ pins }) I'), r, q⟩
  obtain ⟨a, C, d, T, σ', H1, H', s0, rfl, I1, I2, fly, fa, fT, na, nT, q⟩ := z
  obtain ⟨hmm, ht⟩ := h2 σ' C d H' a q fa
  have fr : X.A.frames = some (X.env :: X.outer) := ok.frames.trans (congrArg some hs)
  have fst : s1.heap.FunFrames X.base (X.env :: X.outer) := hs ▸ I2.stack
  refine noteD fr fst hf fly fun h' T' x1 x2 x3 x4 => ?_
  refine landD (s := { s1 with heap := h' }) x3 x1 fun h2 y1 y2 y3 => ?_
  have nT' : ∀ b o, s1.heap.get? b = some o → b ≠ T' := fun b o e z => by rw [z, x2] at e; cases e
  have k2 : ∀ b o, b ≠ a → b ≠ T → b ∉ frs X.stack → s1.heap.get? b = some o → h2.get? b = some o := fun b o e1 e2 e3 e4 => y3 b o (nT' b o e4) (x4.keep b o e1 (fun z => e2 (Option.some.inj z)) (fun z => e3 (by rw [hs]; exact z)) e4)
  have l2 : ∀ b o, b ≠ a → b ≠ T → s1.heap.get? b = some o → ∃ sl, h2.get? b = some { o with slots := sl } := fun b o e1 e2 e4 => by
    obtain ⟨sl, e⟩ := x4.slot b o e1 (fun z => e2 (Option.some.inj z)) e4
    exact ⟨sl, y3 b _ (nT' b o e4) e⟩
  have J2 := (I1.caught (h' := h2) (t' := s1.toks) I2 hex na nT fa fT k2 l2 y1).hand a
  refine wpAny_handleBy_cons (codeAny_handlers_test (ld_glob J2 hg hm ?_ hdb)) (by intro q; cases q)
  obtain ⟨oe, vs, oT, ts, he, hc, hdd, hd, _⟩ := id y1
  refine exc_matches (K := X.K) J2.kIn he hc cD tyD hmm ?_
  refine codeAny_handlers_suite_as (landD (s := { s1 with heap := h2 }) y2 y1 fun h3 w1 w2 w3 => ?_)
  have n2 : ∀ b o, b ≠ T' → h2.get? b = some o → h3.get? b = some o := w3
  have J3 := (I1.caught (h' := h3) (t' := s1.toks) I2 hex na nT fa fT (fun b o e1 e2 e3 e4 => w3 b o (nT' b o e4) (k2 b o e1 e2 e3 e4)) (fun b o e1 e2 e4 => by
    obtain ⟨sl, e⟩ := l2 b o e1 e2 e4
    exact ⟨sl, w3 b _ (nT' b o e4) e⟩) w1).hand a
  refine store_ok (X := X.handC (X.pn ++ pins) a) (v := .ref a) J3 hN hi (.inl hl) rfl (fun s4 I4 => ?_) (.inr hl)
  refine wpAny_mono (hh (X.pn ++ pins) a [] s4 _ _ _ I4 ht) (fun f s5 z => ?_) fun _ _ z => False.elim z
  cases f with
  | next =>
    obtain ⟨σ5, H5, I5, q5⟩ := z
    exact Inv.gone (I5.unhand ok) hN hi hl fun s6 I6 => ⟨_, H5, I6, q5⟩
  | brk =>
    obtain ⟨σ5, H5, I5, q5⟩ := z
    exact Inv.gone (I5.unhand ok) hN hi hl fun s6 I6 => ⟨_, H5, I6, q5⟩
  | cont =>
    obtain ⟨σ5, H5, I5, q5⟩ := z
    exact Inv.gone (I5.unhand ok) hN hi hl fun s6 I6 => ⟨_, H5, I6, q5⟩
  | ret u =>
    obtain ⟨v, σ5, H5, I5, r5, q5⟩ := z
    exact Inv.gone (I5.unhand ok) hN hi hl fun s6 I6 => ⟨v, _, H5, I6, r5, q5⟩
end L2

end

section
namespace L2
open PySem PySem.W PySem.Spec PyProof.Rows
section
variable {X : Cx}
/-- isinstance(e, c), e an exception that was caught -/
theorem call_isinstX : CallR X (.builtin "isinstance") (fun xs H Q => ∃ a C d c b, xs = [.ref a, c] ∧ H a = some (ExcO a C d) ∧ ExcC X.K C ∧ (d = none ∨ ∃ dx fs, d = some dx ∧ H dx = some (.xd fs)) ∧ (∀ cv, RelV c cv → PySem.W.kitOne X.K (.ref C) cv = some b) ∧ Q (.bl b) H) := by
  intro pins s σ H xs us Q I r h
  obtain ⟨a, C, d, c, b, rfl, ea, xc, hd, ek, q⟩ := h
  obtain ⟨u, w', rfl, r1, r2⟩ := vals2 r
  cases (show u = Value.ref a from r1)
  obtain ⟨⟨o, vs, e1, e2, e3, e4⟩, _⟩ := (show ObjOk X.prog X.w H s.heap a (ExcO a C d) from I.hok a _ ea)
  have J : ∃ ox odo, W.InstAt s.heap a ox C odo := by
    obtain ⟨cls, dict, data, sl⟩ := o
    subst e2 e3 e4
    rcases hd with rfl | ⟨dx, fs, rfl, hx⟩
    · exact ⟨_, none, e1, rfl, rfl, trivial⟩
    · obtain ⟨u, eu⟩ := I.hok.there hx
      exact ⟨_, some u, e1, rfl, rfl, eu⟩
  exact PySem.W.kia_one (kitx_exc xc) I.kIn J (ek w' r2) (fun z => nomatch z) fun tk => ⟨.bl b, H, I.tok _, rfl, q⟩
/-! ### lists of bools -/
/-- * of numbers of up to a million bits -/
theorem op_mulB : OpR X (binaryOp .Mult) (rI (fun i j => Builtin.Int.intBits i ≤ 2 ^ 20 ∧ Builtin.Int.intBits j ≤ 2 ^ 20) fun i j => .int (i * j)) := opI fun _ _ _ _ _ _ _ hc q => mul_int q (IntMulOk.of_bits hc.1 hc.2)
end
/-! ### a def that answers or refuses -/
section
variable {X : Cx} {k1 k2 k' : Nat} {x : Str} {ps : List Str} {sp1 sp2 : Sp} {e : Expr} {es : List Expr} {t : TA} {p pos : Pos} {E : St → XK}
theorem pe_callE2 (h : DefOk X.prog X.w X.K X.mg X.base k1 x ps sp1) (h' : DefOkE X.prog X.w X.K X.mg X.base k2 x ps sp2) (hr : Room k' X.A) (hx : PassesX (CXe X.prog X.w) X E) (ha : PA X (e :: es) t) (hk : k1 ≤ k' := by decide) (hk' : k2 ≤ k' := by decide) (hg : Gl X x := by rfl) (hdb : (x == ("__debug__" : Str)) = false := by decide +kernel)
    (he : starEach (e :: es) X.env = (false, eval e X.env) :: starEach es X.env := by rfl) (hpl : (backTo pos (starEach es X.env)).any (·.1) = false := by rfl) : PE X (.Call (.Name x p) (e :: es) [] pos) (fun σ H Q => t σ H fun vs H1 => sp1 vs H1 Q E0 ∨ sp2 vs H1 Q (E σ)) := by
  obtain ⟨f, fd, F, hb, kp, hm⟩ := h
  obtain ⟨f2, fd2, F2, hb2, kp2, hm2⟩ := h'
  obtain rfl : f = f2 := by rw [hm] at hm2; injection hm2 with z; injection z
  intro pins s σ H Q I h
  refine wpAny_Call_Name_kw (ld_glob I hg hm ?_ hdb)
  refine PySem.W.callWith_K (h₀ := X.base) I.ok.mod.kin kp (thn (ha pos pins s σ H _ I h) fun us s1 ⟨vs, H1, I1, r, q⟩ => ⟨I1.kIn, ?_⟩) he hpl
  rcases q with q | q
  · exact run_fn (dvs := []) (ds := []) (us := us) F (hr.mono hk) hb .nil pass0 I1 r (by rw [List.append_nil]; exact q)
  · have hl : us.length = ps.length := by rw [← r.length]; exact F2.len _ _ _ _ q
    have hb' := hb2 s1 us I1.kIn (by rw [List.append_nil]; exact hl)
    rw [List.append_nil] at hb'
    refine wpAny_call (codeAny_mono (F2.run X.A X.stack s1 H1 ⟨us, []⟩ us vs Q (E σ) (hr.mono hk') I1.env0 hb' r q) fun r s' hq => ?_)
    cases r with
    | error e => exact hx pins σ H1 s1 e s' I1 hq
    | ok fl =>
      cases fl with
      | ret u => exact I1.after hq
      | next => exact False.elim hq
      | brk => exact False.elim hq
      | cont => exact False.elim hq
end
end L2
namespace L2
open PySem
theorem bo_ValueError : bootBuiltins "ValueError" = some (.type "ValueError") := by decide +kernel
end L2

end

section
namespace L2
open PySem PySem.W PySem.Spec PyProof.Rows PySem.Builtin.ObjectAttr
/-! ### an attribute laid on a new exception -/
def overV : List Value → Bool
  | .ref _ :: r => overV r
  | l => l == bmV
structure ExcS (K : Frag) (C : Addr) : Prop extends ExcC K C where
  sa : findIn K (.ref C) "__setattr__" = some (some (.builtin "object.__setattr__"))
  ov : (clsIn K C).any (fun cd => overV cd.mro) = true
  hd : hasDictIn K C = true
section
variable {K : Frag} {prog : Program} {w : World} {A : Around} {E : Value → Shared → Prop} {s : Shared} {x C : Addr} {ox : Obj} {od : Option Obj} {name : Str} {v : Value}
end
end L2

end

section
namespace L2
open PySem PySem.W PySem.Spec PyProof.Rows
/-! ### a class of exceptions with an __init__ of the text -/
def excInI (K : Frag) (C f : Addr) : Bool := match K.lookup C with
  | some ⟨.type "type", _, .cls cd, sl⟩ => (match cd.mro, sl.toList with
    | .ref C' :: bm, [_, _, _, _, some (.builtin n), _] => C' == C && n == "ValueError.__new__" && !cd.hasDel && tailIn K bmV bm && nsOkIn K cd.ns && nsIn K cd.ns "__init__" == some (some (.ref f))
    | _, _ => false)
  | _ => false
structure ClsAtI (h : Heap) (C f : Addr) : Prop where
  ex : ∃ (bm : List Value) (N : Addr) (nm q : Str) (bs : List Value) (hdct : Bool) (sn : List Str) (sub : List Value) (ab : Bool) (col : Option Bool) (dd : Option Addr) (k0 k1 k2 k3 k5 : Option Value) (mN : Str → Option Value),
    h.get? C = some (excClassObj nm q C N bs bm hdct sn sub ab col dd k0 k1 k2 k3 k5 "ValueError.__new__") ∧ h.Ns N mN ∧ mN "__init__" = some (.ref f) ∧ OwnTail h bmV bm
section
variable {prog : Program} {w : World} {A : Around} {E : Value → Shared → Prop} {h : Heap} {g : Array GenState} {d : Drawn} {t : Nat} {os : OsState}
variable {nm q : Str} {C N : Addr} {bs bm bmB : List Value} {hdct : Bool} {sn : List Str} {sub : List Value} {ab : Bool} {col : Option Bool} {dd : Option Addr} {k0 k1 k2 k3 k5 : Option Value} {B Bn newId nid initId inN : String} {bmN : List Value}
end
structure XMk (K : Frag) (mg : Str → Option Value) (x : Str) (C f : Addr) : Prop where
  xi : excInI K C f = true
  fn : typeIn K (.ref f) = some (.type "function")
  kp : keepIn K (.ref C) = true
  be : mroIn K C (.type "BaseException") = some true
  ty : typeIn K (.ref C) = some (.type "type")
  gm : mg x = some (.ref C)
end L2

end

section
namespace L2
open PySem PySem.W PySem.Spec PyProof.Rows
/-! ### f-strings of texts and small ints -/
abbrev TJ := Str → St → Hp → VK → Prop
section
variable {X : Cx} {e o : Expr} {es : List Expr} {te ta tv : TE} {t : TJ} {pos : Pos}
end
/-! ### B.__init__(self, ..), B an own base without __init__ -/
section
variable {X : Cx} {x : Str} {C D f : Addr} {np apos pos : Pos} {e : Expr} {es : List Expr} {t : TA}
end
/-! ### self.place = .. in __init__ -/
end L2

end

section
namespace L2
open PySem PySem.W PySem.Spec PyProof.Rows
/-! ### methods that answer or refuse -/
section
variable {X : Cx} {k1 k2 k' : Nat} {C : Addr} {m : Str} {ps : List Str} {sp1 sp2 : Sp} {e o : Expr} {es : List Expr} {t : TA} {ta : TE} {p pos apos : Pos} {E : St → XK}
end
end L2
namespace L2
open PySem PySem.Spec PyProof.Rows
end L2

end

section
namespace KM
open PySem L2
end KM

end

section
namespace L2
open PySem PySem.W PySem.Spec PyProof.Rows
section
variable {X : Cx}
end
end L2
namespace KM
open PySem L2
end KM

end

section
namespace L2
open PySem PySem.W PySem.Spec PyProof.Rows
/-! ### great numbers -/
section
variable {X : Cx}
def CDivB (i j : Int) : Prop := 0 < j ∧ (Builtin.Int.intBits j ≤ 9000 ∨ Builtin.Int.intBits i ≤ Builtin.Int.intBits j + 4000)
theorem log2_bits {j : Int} (h : j ≠ 0) : j.natAbs.log2 + 1 = Builtin.Int.intBits j := by
  unfold Builtin.Int.intBits
  rw [if_neg (by simpa using h)]
theorem CDivB.ok {i j : Int} (h : CDivB i j) : Builtin.divisionGoesByPylong i j = false := by
  unfold Builtin.divisionGoesByPylong
  have hj := log2_bits (Int.ne_of_gt h.1)
  have h2 := h.2
  have ej : (j == 0) = false := by have := h.1; simp; omega
  simp only [Bool.and_eq_false_iff, decide_eq_false_iff_not, ej, if_neg (show ¬ (false = true) from by decide)]
  rcases h2 with h2 | h2
  · left; omega
  · right
    by_cases hi : i = 0
    · subst hi; rw [if_pos (by decide)]; omega
    · have hi2 := log2_bits hi
      rw [if_neg (by simpa using hi)]
      omega
theorem op_fdivB : OpR X (binaryOp .FloorDiv) (rI CDivB fun i j => .int (i / j)) := opI fun i j _ _ _ _ _ hc q => by
  have e : i.fdiv j = i / j := Int.fdiv_eq_ediv_of_nonneg _ (Int.le_of_lt hc.1)
  exact floordiv_int (by have := hc.1; omega) (by rw [e]; exact q) (.inl hc.ok)
end
/-! ### reversed(a list) -/
section
variable {X : Cx} {tg : Expr}
/-- all(a list of bools) -/
theorem call_all (hc : X.calm = true) : CallR X (.builtin "all") (fun xs H Q => ∃ a, ∃ bs : List Bool, xs = [.ref a] ∧ SqL X.K H a (bs.map .bl) ∧ Q (.bl (bs.all id)) H) := by
  intro pins s σ H xs us Q I r h
  obtain ⟨a, bs, rfl, hq, q⟩ := h
  obtain ⟨u, rfl, ru⟩ := vals1 r
  obtain rfl : u = Value.ref a := ru
  obtain ⟨its, rv, pl, hz⟩ := I.list hq
  have hlen := rv.length
  have hlt : a < s.heap.objs.size := by obtain ⟨o, ho, _⟩ := pl.isList; exact Heap.lt_size ho
  refine call_all_walkS (wpAny_pyIter_list pl.isList ?_)
  refine ⟨s.heap.objs.size, [s.heap.objs.size, a], [s.heap.objs.size], _, its.toArray.size, _, _, fun i => bs.getD i false, rfl, (Walks.list (A := X.A.in1) (I.ok.hd hc) s.heap.objs.size a (Nat.ne_of_lt hlt) its.toArray).toS, ⟨⟨_, Heap.get?_push_size _ rfl, rfl, rfl⟩, ?_⟩, ?_, fun s' mv => ?_⟩
  · obtain ⟨o, ho, r⟩ := pl.isList; exact ⟨o, Heap.get?_push_of_some _ ho, r⟩
  · intro i v s2 Q2 E2 hv q2
    have hv' : its[i]? = some v := by simpa using hv
    have hi : i < bs.length := by
      have := (List.getElem?_eq_some_iff.mp hv').1
      rw [List.length_map] at hlen; omega
    have hb : (bs.map V.bl)[i]? = some (.bl (bs.getD i false)) := by rw [List.getElem?_map, List.getElem?_eq_getElem hi, List.getD_eq_getElem?_getD, List.getElem?_eq_getElem hi]; rfl
    obtain ⟨u, hu, ru⟩ := rv.get hb
    rw [hv'] at hu; cases hu
    obtain rfl : v = Value.bool (bs.getD i false) := ru
    exact wpAny_truthy_bool q2
  · have hall : (List.range its.toArray.size).all (fun i => bs.getD i false) = bs.all id := by
      rw [List.size_toArray, ← hlen, List.length_map]
      apply Bool.eq_iff_iff.mpr
      rw [List.all_eq_true, List.all_eq_true]
      constructor
      · intro h x hx
        obtain ⟨i, hi, rfl⟩ := List.mem_iff_getElem.mp hx
        have := h i (List.mem_range.mpr hi)
        rw [List.getD_eq_getElem?_getD, List.getElem?_eq_getElem hi] at this
        exact this
      · intro h i hi
        have hi' := List.mem_range.mp hi
        rw [List.getD_eq_getElem?_getD, List.getElem?_eq_getElem hi']
        exact h _ (List.getElem_mem hi')
    rw [hall]
    refine ⟨.bl _, H, ?_, rfl, q⟩
    have I2 : Inv X pins σ H { s with heap := s.heap.push { cls := .type "list_iterator", data := .fields #[.ref a, .int 0 0] } } := I.kept (t' := s.toks) fun b o e => Heap.get?_push_of_some _ e
    obtain ⟨f0, f1, f2, f3, f4, f5⟩ := I.fpOk (b := s.heap.objs.size) (Nat.le_refl _) (I.hok.fresh (Nat.le_refl _))
    have e : s' = { s with heap := s'.heap, toks := s'.toks } := by
      obtain ⟨h1, g1, d1, t1, o1⟩ := s'
      have := mv.gens; have := mv.drawn; have := mv.os
      dsimp only at *
      subst_vars; rfl
    have I3 := I2.turned (t' := s'.toks) (it := s.heap.objs.size) (h' := s'.heap) (fun b o hb e => mv.heap b o (by simpa using hb) e) f0 f1 f3 f4 f5
    rw [e]
    exact I3
end
theorem cutV_tail (l : List V) : cutV l (some 1) none = l.drop 1 := by
  unfold cutV HT.sIx
  cases l with
  | nil => rfl
  | cons a r => simp
end L2
namespace L2
open PySem PySem.W PySem.Spec PyProof.Rows
/-! ### lists of ints, == and != -/
section
variable {X : Cx}
end
end L2
namespace L2
open PySem PySem.W PySem.Spec PyProof.Rows
/-! ### comprehensions over a list -/
theorem comp_list {K : PySem.W.Frag} {a : Addr} {xs : List V} {g : TG} {te : TE} {Q : VK} {H : Hp} {D : Addr} {σ0 : St} (f : V → V) (S : St → Prop) (hz : xs.length ≤ sizeLine) (h0 : S σ0) (hD : H D = none) (hl : SqL K H a xs)
    (ht : ∀ x, x ∈ xs → ∀ σ1 H1, S σ1 → Same H H1 → ∀ R : St → V → Hp → Prop, (∀ σ2, S σ2 → R σ2 (f x) H1) → g x σ1 H1 fun σ2 H2 => te σ2 H2 fun y H3 => R σ2 y H3)
    (hq : Q (.ref D) (upd H D (.lst (xs.map f)))) :
    CompGo (Itl K a) g tYes te Q σ0 H D := by
  refine ⟨fun i m σ1 H2 => i ≤ xs.length ∧ m = xs.length - i ∧ S σ1 ∧ H2 = upd H D (.lst ((xs.take i).map f)), ⟨xs.length, Nat.zero_le _, rfl, h0, rfl⟩, ?_⟩
  rintro i m σ1 H2 ⟨h1, rfl, h2, rfl⟩
  have hl2 := (same_new (o := .lst ((xs.take i).map f)) hD).seq hl
  rcases Nat.lt_or_ge i xs.length with z | z
  · refine .inr ⟨⟨xs, xs[i], hl2, List.getElem?_eq_getElem z⟩, ?_⟩
    rintro x H3 ⟨rfl, hx⟩
    have hx := hx xs hl2
    refine ht x (List.mem_of_getElem? hx) σ1 _ h2 (same_new hD) (fun σ2 y H6 => ∃ ys m', H6 D = some (.lst ys) ∧ ys.length < sizeLine ∧ m' < xs.length - i ∧ (i + 1 ≤ xs.length ∧ m' = xs.length - (i + 1) ∧ S σ2 ∧ upd H6 D (.lst (ys ++ [y])) = upd H D (.lst ((xs.take (i + 1)).map f)))) fun σ2 q3 => ?_
    refine ⟨_, xs.length - (i + 1), upd_same, ?_, by omega, by omega, rfl, q3, ?_⟩
    · rw [List.length_map, List.length_take]; omega
    · rw [upd_upd', List.take_add_one, hx, List.map_append]; rfl
  · have e : i = xs.length := by omega
    subst e
    rw [List.take_length]
    rw [List.take_length] at hl2
    exact .inl ⟨⟨xs, hl2, Nat.le_refl _⟩, hq⟩
theorem comp_filter {K : PySem.W.Frag} {a : Addr} {xs : List V} {g : TG} {tc : TT} {te : TE} {Q : VK} {H : Hp} {D : Addr} {σ0 : St} (keep : V → Bool) (f : V → V) (S : St → Prop) (hz : xs.length ≤ sizeLine) (h0 : S σ0) (hD : H D = none) (hl : SqL K H a xs)
    (ht : ∀ x, x ∈ xs → ∀ σ1 H1, S σ1 → Same H H1 → ∀ (R : St → V → Hp → Prop) (R' : St → Hp → Prop), (∀ σ2, S σ2 → if keep x = true then R σ2 (f x) H1 else R' σ2 H1) → g x σ1 H1 fun σ2 H2 => tc σ2 H2 fun b H3 => if b = true then te σ2 H3 fun y H4 => R σ2 y H4 else R' σ2 H3)
    (hq : Q (.ref D) (upd H D (.lst ((xs.filter keep).map f)))) :
    CompGo (Itl K a) g tc te Q σ0 H D := by
  refine ⟨fun i m σ1 H2 => i ≤ xs.length ∧ m = xs.length - i ∧ S σ1 ∧ H2 = upd H D (.lst (((xs.take i).filter keep).map f)), ⟨xs.length, Nat.zero_le _, rfl, h0, rfl⟩, ?_⟩
  rintro i m σ1 H2 ⟨h1, rfl, h2, rfl⟩
  have hl2 := (same_new (o := .lst (((xs.take i).filter keep).map f)) hD).seq hl
  rcases Nat.lt_or_ge i xs.length with z | z
  · refine .inr ⟨⟨xs, xs[i], hl2, List.getElem?_eq_getElem z⟩, ?_⟩
    rintro x H3 ⟨rfl, hx⟩
    have hx := hx xs hl2
    refine ht x (List.mem_of_getElem? hx) σ1 _ h2 (same_new hD) (fun σ2 y H6 => ∃ ys m', H6 D = some (.lst ys) ∧ ys.length < sizeLine ∧ m' < xs.length - i ∧ (i + 1 ≤ xs.length ∧ m' = xs.length - (i + 1) ∧ S σ2 ∧ upd H6 D (.lst (ys ++ [y])) = upd H D (.lst (((xs.take (i + 1)).filter keep).map f))))
      (fun σ2 H5 => ∃ m', m' < xs.length - i ∧ (i + 1 ≤ xs.length ∧ m' = xs.length - (i + 1) ∧ S σ2 ∧ H5 = upd H D (.lst (((xs.take (i + 1)).filter keep).map f)))) fun σ2 q3 => ?_
    have et : xs.take (i + 1) = xs.take i ++ [x] := by rw [List.take_add_one, hx]; rfl
    by_cases hk : keep x = true
    · rw [if_pos hk]
      refine ⟨_, xs.length - (i + 1), upd_same, ?_, by omega, by omega, rfl, q3, ?_⟩
      · rw [List.length_map]
        have := List.length_filter_le keep (xs.take i)
        rw [List.length_take] at this; omega
      · rw [upd_upd', et, List.filter_append, List.map_append, List.filter_cons_of_pos hk]; rfl
    · rw [if_neg hk]
      refine ⟨xs.length - (i + 1), by omega, by omega, rfl, q3, ?_⟩
      rw [et, List.filter_append, List.map_append, List.filter_cons_of_neg hk]; simp
  · have e : i = xs.length := by omega
    subst e
    rw [List.take_length]
    rw [List.take_length] at hl2
    exact .inl ⟨⟨xs, hl2, Nat.le_refl _⟩, hq⟩
end L2

end

section
namespace KM
open PySem L2
/-! ### fractions and their steps -/
/-- the fraction that has these steps; of no steps (1, 0), so that one more goes on alike -/
def frac : List Int → Int × Int
  | [] => (1, 0)
  | a :: r => (a * (frac r).1 + (frac r).2, (frac r).1)
/-- steps behind the first -/
def Tail (r : List Int) : Prop := (∀ x ∈ r, 1 ≤ x) ∧ ∀ h : r ≠ [], 2 ≤ r.getLast h
def Good : List Int → Prop
  | [] => False
  | _ :: r => Tail r
theorem Tail.tl {a : Int} {r : List Int} (h : Tail (a :: r)) : Tail r := by
  refine ⟨fun x hx => h.1 x (List.mem_cons_of_mem _ hx), fun hr => ?_⟩
  have := h.2 (List.cons_ne_nil _ _)
  rwa [List.getLast_cons hr] at this
theorem Tail.frac : ∀ {r : List Int}, Tail r → 0 ≤ (frac r).2 ∧ (frac r).2 < (frac r).1 ∧ (r ≠ [] → 0 < (frac r).2)
  | [], _ => ⟨by decide, by decide, fun h => absurd rfl h⟩
  | a :: r, h => by
    obtain ⟨h1, h2, h3⟩ := h.tl.frac
    have ha := h.1 a (List.mem_cons_self ..)
    show 0 ≤ (KM.frac r).1 ∧ (KM.frac r).1 < a * (KM.frac r).1 + (KM.frac r).2 ∧ (_ → 0 < (KM.frac r).1)
    refine ⟨by omega, ?_, fun _ => by omega⟩
    by_cases hr : r = []
    · subst hr
      have hl := h.2 (List.cons_ne_nil _ _)
      have hl' : (2 : Int) ≤ a := hl
      show (1 : Int) < a * 1 + 0
      omega
    · have := h3 hr
      have hm : 1 * (KM.frac r).1 ≤ a * (KM.frac r).1 := Int.mul_le_mul_of_nonneg_right ha (by omega)
      omega
theorem frac_div {a : Int} {r : List Int} (h : Tail r) : (frac (a :: r)).1 / (frac (a :: r)).2 = a ∧ (frac (a :: r)).1 % (frac (a :: r)).2 = (frac r).2 := by
  obtain ⟨h1, h2, _⟩ := h.frac
  show (a * (frac r).1 + (frac r).2) / (frac r).1 = a ∧ (a * (frac r).1 + (frac r).2) % (frac r).1 = (frac r).2
  constructor
  · rw [Int.add_comm, Int.add_mul_ediv_right _ _ (by omega), Int.ediv_eq_zero_of_lt h1 h2, Int.zero_add]
  · rw [Int.add_comm, Int.add_mul_emod_self_right, Int.emod_eq_of_lt h1 h2]
/-- the steps of (p, q) -/
def euc (p q : Int) : List Int := if h : 0 < q then (p / q) :: euc q (p % q) else []
termination_by q.toNat
decreasing_by
  have := Int.emod_lt_of_pos p h
  have := Int.emod_nonneg p (Int.ne_of_gt h)
  omega
theorem euc_pos {p q : Int} (h : 0 < q) : euc p q = (p / q) :: euc q (p % q) := by rw [euc, dif_pos h]
theorem euc_zero (p : Int) : euc p 0 = [] := by rw [euc, dif_neg (by decide)]
theorem euc_frac : ∀ {r : List Int}, Tail r → euc (frac r).1 (frac r).2 = r
  | [], _ => euc_zero _
  | a :: r, h => by
    obtain ⟨h1, h2, _⟩ := h.tl.frac
    obtain ⟨d1, d2⟩ := frac_div (a := a) h.tl
    rw [euc_pos (show 0 < (frac (a :: r)).2 from by show 0 < (frac r).1; omega), d1, d2]
    exact congrArg (a :: ·) (euc_frac h.tl)
theorem Good.euc : ∀ {s : List Int}, Good s → 0 < (frac s).2 ∧ euc (frac s).1 (frac s).2 = s
  | a :: r, h => by
    have h : Tail r := h
    obtain ⟨h1, h2, _⟩ := h.frac
    obtain ⟨d1, d2⟩ := frac_div (a := a) h
    have hp : 0 < (frac (a :: r)).2 := by show 0 < (frac r).1; omega
    refine ⟨hp, ?_⟩
    rw [euc_pos hp, d1, d2]
    exact congrArg (a :: ·) (euc_frac h)
/-! sizes -/
theorem bits_abs (i : Int) : Builtin.Int.intBits i = blen i.natAbs := by
  unfold Builtin.Int.intBits blen
  by_cases h : i = 0
  · subst h; rfl
  · rw [if_neg (by simpa using h), if_neg (by omega)]
theorem bits_lt {i : Int} {k : Nat} (h : i.natAbs < 2 ^ k) : Builtin.Int.intBits i ≤ k := by rw [bits_abs]; exact blen_le h
/-- a step tells how much greater the top is -/
theorem div_size {p q : Int} {B : Nat} (h : 0 < q) (hs : (p / q).natAbs < 2 ^ B) : Builtin.Int.intBits p ≤ Builtin.Int.intBits q + (B + 1) := by
  rw [bits_abs, bits_abs]
  refine blen_le ?_
  have e := Int.mul_ediv_add_emod p q
  have r0 := Int.emod_nonneg p (Int.ne_of_gt h)
  have r1 := Int.emod_lt_of_pos p h
  have z := Int.natAbs_add_le (q * (p / q)) (p % q)
  rw [e, Int.natAbs_mul] at z
  have hq := blen_lt q.natAbs
  have m : q.natAbs * (p / q).natAbs ≤ q.natAbs * 2 ^ B := Nat.mul_le_mul_left _ (Nat.le_of_lt hs)
  rw [Nat.pow_add, Nat.pow_succ]
  have m2 : q.natAbs * 2 ^ B ≤ 2 ^ blen q.natAbs * 2 ^ B := Nat.mul_le_mul_right _ (Nat.le_of_lt hq)
  have hb : 1 ≤ 2 ^ B := Nat.one_le_two_pow
  have m3 : 2 ^ blen q.natAbs * 1 ≤ 2 ^ blen q.natAbs * 2 ^ B := Nat.mul_le_mul_left _ hb
  have e3 : 2 ^ blen q.natAbs * (2 ^ B * 2) = 2 ^ blen q.natAbs * 2 ^ B + 2 ^ blen q.natAbs * 2 ^ B := by rw [← Nat.mul_assoc, Nat.mul_two]
  omega
/-! whether a list has a fraction -/
theorem Good.ne {s : List Int} (h : Good s) : s ≠ [] := by intro e; subst e; exact h
end KM

end

section
namespace L2
open PySem PySem.W PySem.Spec PyProof.Rows
section
variable {X : Cx} {pins : List (Addr × Obj)} {σ : St} {H : Hp} {s : Shared} {h' : Heap}
/-- untracked records of ours have turned, and a new object is laid and tracked -/
theorem Inv.turnedNew {t' : Nat} {ch : List Addr} {a : Addr} {o : HO} (I : Inv X pins σ H s) (k : ∀ b u, b ∉ ch → s.heap.get? b = some u → h'.get? b = some u) (hf : ∀ b ∈ ch, FpOk X pins H b) (ha : s.heap.objs.size ≤ a) (new : ObjOk X.prog X.w (upd H a o) h' a o) :
    Inv X pins σ (upd H a o) { s with heap := h', toks := t' } := by
  have hn := I.hok.fresh ha
  have nch : ∀ b u, H b = some u → b ∉ ch := fun b u e z => by have := (hf b z).1; rw [this] at e; cases e
  have ne : ∀ b u, s.heap.get? b = some u → b ≠ a := fun b u e z => by subst z; exact absurd (Nat.lt_of_lt_of_le (Heap.lt_size e) ha) (Nat.lt_irrefl _)
  refine I.step (g' := s.gens) (d' := s.drawn) (ch := ch) (fun b hb => ?_) (fun b o _ _ hc e _ => k b o hc e) (fun b o _ _ hc e _ => ⟨o.slots, k b o hc e⟩) (fun b u _ e n => by rw [upd_ne (ne b u e)]; exact n)
    (fun b o hc e => ⟨o, k b o hc e⟩) (fun b xs e => by rw [upd_ne (ne_of_none e hn)]; exact e) (fun b u v e => by rw [upd_ne (ne_of_none e hn)]; exact e) (fun b ps e => ⟨#[], by rw [upd_ne (ne_of_none e hn), e]; simp⟩) (fun m hm => ?_) (fun b u e => ?_) I.bare
  · obtain ⟨f0, f1, f2, f3, f4, f5⟩ := hf b hb
    exact ⟨f3, f1, f4, f5⟩
  · obtain ⟨ob, es, ep, ho, r⟩ := hm
    exact ⟨ob, es, ep, k _ ob (fun z => (hf _ z).2.1 rfl) ho, r⟩
  · by_cases hb : b = a
    · subst hb; rw [upd_same] at e; cases e; exact new
    · rw [upd_ne hb] at e
      refine (I.hok b u e).stay (fun c v hc q => k c v ?_ q) (fun c q => by rw [upd_ne (ne_of_none q hn)]; exact q) fun c xs q => by rw [upd_ne (ne_of_none q hn)]; exact q
      rcases hc with z | z
      · rw [z]; exact nch b u e
      · exact nch c _ z
theorem Inv.turnedL {t' : Nat} {ch : List Addr} (I : Inv X pins σ H s) (k : ∀ b u, b ∉ ch → s.heap.get? b = some u → h'.get? b = some u) (hf : ∀ b ∈ ch, FpOk X pins H b) : Inv X pins σ H { s with heap := h', toks := t' } := by
  have nch : ∀ b u, H b = some u → b ∉ ch := fun b u e z => by have := (hf b z).1; rw [this] at e; cases e
  refine I.step (g' := s.gens) (d' := s.drawn) (ch := ch) (fun b hb => ?_) (fun b o _ _ hc e _ => k b o hc e) (fun b o _ _ hc e _ => ⟨o.slots, k b o hc e⟩) (fun _ _ _ _ n => n)
    (fun b o hc e => ⟨o, k b o hc e⟩) (fun _ _ e => e) (fun _ _ _ e => e) (fun b ps e => ⟨#[], by rw [e]; simp⟩) (fun m hm => ?_) (fun b u e => ?_) I.bare
  · obtain ⟨f0, f1, f2, f3, f4, f5⟩ := hf b hb
    exact ⟨f3, f1, f4, f5⟩
  · obtain ⟨ob, es, ep, ho, r⟩ := hm
    exact ⟨ob, es, ep, k _ ob (fun z => (hf _ z).2.1 rfl) ho, r⟩
  · refine (I.hok b u e).stay (fun c v hc q => k c v ?_ q) (fun _ q => q) fun _ _ q => q
    rcases hc with z | z
    · rw [z]; exact nch b u e
    · exact nch c _ z
end
/-! ### for k, x in enumerate(a list) -/
def Ite (K : PySem.W.Frag) (a : Addr) (xs : List V) : It :=
  ⟨fun i H => SqL K H a xs ∧ i < xs.length, fun i H x H' => ∃ (T : Addr) (y : V), H T = none ∧ xs[i]? = some y ∧ x = .ref T ∧ H' = upd H T (.tup [.int (i : Nat), y]), fun i H => SqL K H a xs ∧ xs.length ≤ i⟩
theorem turn_enum {P : Program} {w : World} {K : PySem.W.Frag} {elts : List Expr} {k : Nat} {pos : Pos} (a e it : Addr) (xs : List V) (h1 : e ≠ it) (h2 : a ≠ e) (h3 : a ≠ it) :
    Turn P w K (.Tuple elts k pos) (Ite K a xs) [e, it] e (fun i h => i ≤ xs.length ∧ (∃ old, IsEnum h e it (i : Nat) old) ∧ h.IsListIter it a i) where
  mem := by simp
  obj := fun i h st b hb => by
    obtain ⟨_, ⟨old, st1⟩, st2⟩ := st
    rcases List.mem_cons.mp hb with z | z
    · subst z
      exact ⟨_, st1, fun v z => by cases z⟩
    · obtain rfl := List.mem_singleton.mp z
      obtain ⟨o, e, c, d⟩ := st2
      exact ⟨o, e, fun v z => by rw [d] at z; cases z⟩
  keep := fun i h h' st k => by
    obtain ⟨hi, ⟨old, st1⟩, st2⟩ := st
    exact ⟨hi, ⟨old, k e (by simp) _ st1⟩, st2.at fun o e => k it (by simp) o e⟩
  item := by
    intro X hP hw hK hc i pins s σ H E I hf st hg
    subst hP hw hK
    obtain ⟨hq, hi⟩ := hg
    obtain ⟨its, rv, p, hz⟩ := I.list hq
    have hlen := rv.length
    have W := WalksT.enumerate (prog := X.prog) (w := X.w) (I.ok.hd hc) e it a h1 h2 h3 its.toArray
    refine W.item i s _ _ (by rw [List.size_toArray]; omega) ⟨st.2.1, st.2.2, p.isList⟩ fun T vals h' tk hv hT htup mid kk => ?_
    refine ⟨_, rfl, W.go elts k pos i T _ _ _ mid fun h'' st' kk' => ?_⟩
    obtain ⟨t, u, hu, rfl⟩ := hv
    have hu' : its[i]? = some u := by simpa using hu
    have hy : xs[i]? = some (xs[i]'hi) := List.getElem?_eq_getElem hi
    obtain ⟨u2, hu2, ru⟩ := rv.get hy
    rw [hu'] at hu2; cases hu2
    have hTf := I.hok.fresh hT
    have nT : T ∉ [e, it] := W.apart i T h' mid
    refine ⟨.ref T, upd H T (.tup [.int (i : Nat), xs[i]'hi]), ?_, rfl, ⟨T, _, hTf, hy, rfl, rfl⟩, ⟨by omega, st'.1, st'.2.1⟩, fun b hb => ?_⟩
    · refine I.turnedNew (ch := [e, it]) (t' := tk) (fun b o hb eb => kk' b o hb (kk b o hb eb)) hf hT ?_
      refine ⟨by show 2 ≤ sizeLine; decide, [Value.int (i : Nat) t, u], .cons ⟨t, rfl⟩ (.cons ru .nil), ?_⟩
      obtain ⟨o, ho, r⟩ := htup
      exact ⟨o, kk' T o nT ho, r⟩
    · have := (hf b hb).1
      rw [upd_ne]
      · exact this
      · intro z; subst z; exact nT hb
  done := by
    intro X hP hw hK hc i pins s σ H E I hf st hg
    subst hP hw hK
    obtain ⟨hq, hi⟩ := hg
    obtain ⟨its, rv, p, hz⟩ := I.list hq
    have hlen := rv.length
    have W := WalksT.enumerate (prog := X.prog) (w := X.w) (I.ok.hd hc) e it a h1 h2 h3 its.toArray
    have ei : i = its.toArray.size := by rw [List.size_toArray]; have := st.1; omega
    subst ei
    exact W.done s _ _ ⟨st.2.1, st.2.2, p.isList⟩ fun h' tk kk => ⟨rfl, I.turnedL (t' := tk) kk hf⟩
  self := fun A i s Q E st h => by
    obtain ⟨_, ⟨old, st1⟩, _⟩ := st
    exact wpAny_pyIter_enum st1 h
section
variable {X : Cx}
def iEnum (K : PySem.W.Frag) (tl : TE) : TI := fun σ H R => tl σ H fun x H1 => ∃ a xs, x = .ref a ∧ SqL K H1 a xs ∧ R (Ite K a xs) H1
theorem pi_enum {l : Expr} {tl : TE} {p pos : Pos} {elts : List Expr} {k : Nat} {tpos : Pos} (hg : Gl X "enumerate") (hm : X.mg "enumerate" = none) (hl : PE X l tl) (hs : starEach [l] X.env = [(false, eval l X.env)] := by rfl) : PI X (.Tuple elts k tpos) (.Call (.Name "enumerate" p) [l] [] pos) (iEnum X.K tl) := by
  intro pins s σ H R I h
  have ha : PA X [l] _ := pa_cons hl pa_nil (hs := hs.trans rfl)
  refine Call_ (ld_blt I hg hm boot_enumerate (callWith_type1 (thn (ha pos pins s σ H (fun vs H1 => ∃ x, vs = [x] ∧ ∃ a xs, x = .ref a ∧ SqL X.K H1 a xs ∧ R (Ite X.K a xs) H1) I ?_) fun us s1 ⟨vs, H1, I1, r1, q1⟩ => ?_) (by rw [hs]; rfl) rfl))
  · have h' : tl σ H fun x H1 => ∃ a xs, x = .ref a ∧ SqL X.K H1 a xs ∧ R (Ite X.K a xs) H1 := h
    show tl σ H fun x H1 => ∃ y, [x] = [y] ∧ _
    exact cast (congrArg (tl σ H) (funext fun x => funext fun H1 => propext ⟨fun q => ⟨x, rfl, q⟩, fun ⟨y, e, q⟩ => by cases e; exact q⟩)) h'
  · obtain ⟨x, rfl, a, xs, rfl, hq, q⟩ := q1
    obtain ⟨u, rfl, ru⟩ := vals1 r1
    obtain rfl : u = Value.ref a := ru
    obtain ⟨its, rv, pl, hz⟩ := I1.list hq
    have hlt : a < s1.heap.objs.size := by obtain ⟨o, ho, _⟩ := pl.isList; exact Heap.lt_size ho
    refine call_enumerate_list pl.isList fun h' he hi hsz kk => ?_
    have I2 : Inv X pins σ H1 { s1 with heap := h' } := I1.kept (t' := s1.toks) kk
    refine wpAny_pyIter_enum he ?_
    refine ⟨_, [s1.heap.objs.size + 1, s1.heap.objs.size], _, _, H1, rfl, I2, turn_enum a _ _ xs (Nat.succ_ne_self _) (Nat.ne_of_lt (Nat.lt_succ_of_lt hlt)) (Nat.ne_of_lt hlt), ⟨Nat.zero_le _, ⟨_, he⟩, hi⟩, fun b hb => ?_, q⟩
    rcases List.mem_cons.mp hb with z | z
    · subst z; exact I1.fpOk (by omega) (I1.hok.fresh (by omega))
    · obtain rfl := List.mem_singleton.mp z
      exact I1.fpOk (Nat.le_refl _) (I1.hok.fresh (Nat.le_refl _))
theorem for_enum {K : PySem.W.Frag} {a : Addr} {xs : List V} {g : TG} {tb : TS} {D : Ends} {σ : St} {H : Hp} (Pv : Nat → St → Hp → Prop) (h0 : Pv 0 σ H) (hl : ∀ i σ H, i ≤ xs.length → Pv i σ H → SqL K H a xs)
    (hs : ∀ i x σ H T, xs[i]? = some x → H T = none → Pv i σ H → g (.ref T) σ (upd H T (.tup [.int (i : Nat), x])) fun σ2 H2 => tb { D with nx := Pv (i + 1), ct := Pv (i + 1), bk := D.nx } σ2 H2) (hd : ∀ σ H, Pv xs.length σ H → D.nx σ H) :
    ∃ W : Nat → Nat → St → Hp → Prop, (∃ m, W 0 m σ H) ∧ ∀ i m σ H, W i m σ H →
      ((Ite K a xs).stop i H ∧ D.nx σ H) ∨ ((Ite K a xs).go i H ∧ ∃ N : St → Hp → Prop, (∀ σ' H', N σ' H' → ∃ m', m' < m ∧ W (i + 1) m' σ' H') ∧ ∀ x H', (Ite K a xs).yld i H x H' → g x σ H' fun σ2 H2 => tb { D with nx := N, ct := N, bk := D.nx } σ2 H2) := by
  refine ⟨fun i m σ H => i ≤ xs.length ∧ m = xs.length - i ∧ Pv i σ H, ⟨xs.length, Nat.zero_le _, rfl, h0⟩, ?_⟩
  rintro i m σ H ⟨h1, rfl, h2⟩
  rcases Nat.lt_or_ge i xs.length with z | z
  · refine .inr ⟨⟨hl i σ H h1 h2, z⟩, Pv (i + 1), fun σ' H' q => ⟨xs.length - (i + 1), by omega, by omega, rfl, q⟩, ?_⟩
    rintro x H' ⟨T, y, hT, hy, rfl, rfl⟩
    exact hs i y σ H T hy hT h2
  · have e : i = xs.length := by omega
    subst e
    exact .inl ⟨⟨hl _ σ H (Nat.le_refl _) h2, Nat.le_refl _⟩, hd σ H h2⟩
end
end L2

end

section
namespace KM
open PySem L2
/-! ### rows of fractions -/
def more : List Int → List Bool
  | [] => [false]
  | b :: r => true :: (cnt (b - 1).toNat ++ more r).map (!·)
def frow : List Int → List Bool
  | [] => []
  | a :: r => whl a ++ more r
def odd (k : Nat) : Bool := decide (k % 2 = 1)
theorem odd_succ (k : Nat) : odd (k + 1) = !odd k := by
  unfold odd
  have h : k % 2 = 0 ∨ k % 2 = 1 := by omega
  rcases h with h | h
  · have : (k + 1) % 2 = 1 := by omega
    simp [h, this]
  · have : (k + 1) % 2 = 0 := by omega
    simp [h, this]
def piece (k : Nat) (x : Int) (last : Bool) : List Bool := ((if k = 0 then whl x else cnt (x - 1).toNat) ++ [!last]).map (xor (odd k))
def pcs : Nat → List Int → List (List Bool)
  | _, [] => []
  | k, x :: r => piece k x r.isEmpty :: pcs (k + 1) r
theorem pcs_length (k : Nat) (s : List Int) : (pcs k s).length = s.length := by
  induction s generalizing k with
  | nil => rfl
  | cons x r ih => simp only [pcs, List.length_cons, ih]
theorem pcs_get {s : List Int} {k i : Nat} {x : Int} (h : s[i]? = some x) : (pcs k s)[i]? = some (piece (k + i) x (decide (i + 1 = s.length))) := by
  induction s generalizing k i with
  | nil => cases h
  | cons y r ih =>
    cases i with
    | zero =>
      cases h
      show some (piece k x r.isEmpty) = _
      congr 2
      cases r <;> simp
    | succ i =>
      have h' : r[i]? = some x := h
      have := ih (k := k + 1) h'
      show (pcs (k + 1) r)[i]? = _
      rw [this]
      congr 2
      · omega
      · simp
theorem xor_not' (l : List Bool) (t : Bool) : (l.map (!·)).map (xor t) = l.map (xor (!t)) := by
  rw [List.map_map]
  exact List.map_congr_left fun b _ => by cases t <;> cases b <;> rfl
theorem pcs_tail {k : Nat} (hk : k ≠ 0) (b : Int) (r : List Int) : (pcs k (b :: r)).flatten = (cnt (b - 1).toNat ++ more r).map (xor (odd k)) := by
  induction r generalizing k b with
  | nil =>
    show (piece k b true ++ []) = _
    rw [List.append_nil]
    unfold piece
    rw [if_neg hk]; rfl
  | cons c r ih =>
    show piece k b false ++ (pcs (k + 1) (c :: r)).flatten = _
    rw [ih (by omega) c]
    unfold piece
    rw [if_neg hk, odd_succ, more, ← xor_not', ← List.map_append, List.append_assoc]; rfl
theorem pcs_all (a : Int) (r : List Int) : (pcs 0 (a :: r)).flatten = frow (a :: r) := by
  have e0 : ∀ l : List Bool, l.map (xor (odd 0)) = l := fun l => map_xorF l
  cases r with
  | nil =>
    show (piece 0 a true ++ []) = _
    rw [List.append_nil]
    unfold piece
    rw [if_pos rfl, e0]; rfl
  | cons b r =>
    show piece 0 a false ++ (pcs 1 (b :: r)).flatten = _
    rw [pcs_tail (by decide)]
    unfold piece
    rw [if_pos rfl, e0]
    show _ = whl a ++ (true :: (cnt (b - 1).toNat ++ more r).map (!·))
    rw [List.append_assoc]
    congr 1
    show true :: List.map (xor (odd 1)) _ = true :: _
    congr 1
    exact List.map_congr_left fun b _ => by cases b <;> rfl
/-! ### the common divisor -/
def cd (p q : Int) : Int := if h : 0 < q then cd q (p % q) else p
termination_by q.toNat
decreasing_by
  have := Int.emod_lt_of_pos p h
  have := Int.emod_nonneg p (Int.ne_of_gt h)
  omega
theorem cd_pos {p q : Int} (h : 0 < q) : cd p q = cd q (p % q) := by rw [cd, dif_pos h]
theorem cd_zero (p : Int) : cd p 0 = p := by rw [cd, dif_neg (by decide)]
theorem cd_tail : ∀ {r : List Int}, Tail r → cd (frac r).1 (frac r).2 = 1
  | [], _ => cd_zero _
  | a :: r, h => by
    obtain ⟨h1, h2, _⟩ := h.tl.frac
    obtain ⟨d1, d2⟩ := frac_div (a := a) h.tl
    rw [cd_pos (show 0 < (frac (a :: r)).2 from by show 0 < (frac r).1; omega), d2]
    exact cd_tail h.tl
theorem Good.cd : ∀ {s : List Int}, Good s → cd (frac s).1 (frac s).2 = 1
  | a :: r, h => by
    have h : Tail r := h
    obtain ⟨h1, h2, _⟩ := h.frac
    obtain ⟨d1, d2⟩ := frac_div (a := a) h
    rw [cd_pos (show 0 < (frac (a :: r)).2 from by show 0 < (frac r).1; omega), d2]
    exact cd_tail h
end KM
namespace L2
open PySem PySem.Spec PyProof.Rows
end L2

end

section
namespace KM
open PySem L2
/-! ### the order of fractions and of their rows -/
end KM

end

section
namespace L2
open PySem PySem.W PySem.Spec PyProof.Rows
section
variable {X : Cx}
end
end L2

end

section
namespace L2
open PySem PySem.W PySem.Spec PyProof.Rows
/-! ### try with two handlers of one name -/
end L2

end

section
namespace KM
open PySem L2
/-! ### rows of fractions, without their last sign -/
def mp : List Int → List Bool
  | [] => []
  | b :: r => true :: (cnt (b - 1).toNat ++ mp r).map (!·)
end KM

end
namespace KR
open PySem L2 KM
def top (i : Nat) : Stmt := PySem.Challenge.pw_keyrise_k16_refused_fractions.main.body.getD i (.Pass ⟨0, 0, 0, 0⟩)
abbrev s_turned_row : Stmt := top 15
abbrev s_lower_digits : Stmt := top 16
abbrev s_is_count : Stmt := top 17
abbrev s_count_row : Stmt := top 19
abbrev s_whole_row : Stmt := top 20
abbrev s_steps_of : Stmt := top 22
abbrev s_has_whole_row : Stmt := top 18
abbrev s_common_divisor : Stmt := top 23
abbrev s_is_fraction : Stmt := top 24
abbrev s_has_fraction_row : Stmt := top 25
abbrev s_row_of_steps : Stmt := top 26
abbrev s_fraction_row : Stmt := top 27
abbrev s_law_mixed : Stmt := top 30
abbrev s_law_alone : Stmt := top 31
abbrev s_law_edge : Stmt := top 32
abbrev s_law_free_two : Stmt := top 33
abbrev s_law_two : Stmt := top 34
abbrev s_law_good : Stmt := top 35
abbrev s_law : Stmt := top 36
theorem sc_turned_row : FnScope ["row"] ["row"] (defScope s_turned_row) := ⟨rfl, rfl, rfl, by decide +kernel, rfl, by decide +kernel, by decide +kernel⟩
theorem sc_lower_digits : FnScope ["n", "width"] ["n", "width"] (defScope s_lower_digits) := ⟨rfl, rfl, rfl, by decide +kernel, rfl, by decide +kernel, by decide +kernel⟩
theorem sc_is_count : FnScope ["n"] ["n"] (defScope s_is_count) := ⟨rfl, rfl, rfl, by decide +kernel, rfl, by decide +kernel, by decide +kernel⟩
theorem sc_count_row : FnScope ["n", "m", "digits", "ahead", "end"] ["n"] (defScope s_count_row) := ⟨rfl, rfl, rfl, by decide +kernel, rfl, by decide +kernel, by decide +kernel⟩
theorem sc_whole_row : FnScope ["n"] ["n"] (defScope s_whole_row) := ⟨rfl, rfl, rfl, by decide +kernel, rfl, by decide +kernel, by decide +kernel⟩
theorem sc_steps_of : FnScope ["fraction", "steps", "top", "bottom", "rest"] ["fraction"] (defScope s_steps_of) := ⟨rfl, rfl, rfl, by decide +kernel, rfl, by decide +kernel, by decide +kernel⟩
theorem sc_has_whole_row : FnScope ["n"] ["n"] (defScope s_has_whole_row) := ⟨rfl, rfl, rfl, by decide +kernel, rfl, by decide +kernel, by decide +kernel⟩
theorem sc_common_divisor : FnScope ["one", "other", "rest"] ["one", "other"] (defScope s_common_divisor) := ⟨rfl, rfl, rfl, by decide +kernel, rfl, by decide +kernel, by decide +kernel⟩
theorem sc_is_fraction : FnScope ["fraction"] ["fraction"] (defScope s_is_fraction) := ⟨rfl, rfl, rfl, by decide +kernel, rfl, by decide +kernel, by decide +kernel⟩
theorem sc_has_fraction_row : FnScope ["fraction", "steps"] ["fraction"] (defScope s_has_fraction_row) := ⟨rfl, rfl, rfl, by decide +kernel, rfl, by decide +kernel, by decide +kernel⟩
theorem sc_row_of_steps : FnScope ["steps", "last", "rows", "k", "step", "row"] ["steps"] (defScope s_row_of_steps) := ⟨rfl, rfl, rfl, by decide +kernel, rfl, by decide +kernel, by decide +kernel⟩
theorem sc_fraction_row : FnScope ["fraction"] ["fraction"] (defScope s_fraction_row) := ⟨rfl, rfl, rfl, by decide +kernel, rfl, by decide +kernel, by decide +kernel⟩
theorem sc_law_mixed : FnScope ["_law_cell", "_law_k", "_law_number"] ["_law_cell", "_law_k"] (defScope s_law_mixed) := ⟨rfl, rfl, rfl, by decide +kernel, rfl, by decide +kernel, by decide +kernel⟩
theorem sc_law_alone : FnScope ["_law_error", "_law_told"] ["_law_error"] (defScope s_law_alone) := ⟨rfl, rfl, rfl, by decide +kernel, rfl, by decide +kernel, by decide +kernel⟩
theorem sc_law_edge : FnScope ["_law_number", "_law_edge_here"] ["_law_number"] (defScope s_law_edge) := ⟨rfl, rfl, rfl, by decide +kernel, rfl, by decide +kernel, by decide +kernel⟩
theorem sc_law_free_two : FnScope ["_law_rest", "_law_size", "_law_top"] ["_law_rest"] (defScope s_law_free_two) := ⟨rfl, rfl, rfl, by decide +kernel, rfl, by decide +kernel, by decide +kernel⟩
theorem sc_law_two : FnScope ["_law_cell", "_law_k", "_law_number", "_law_big", "_law_way", "_law_top", "_law_bottom"] ["_law_cell", "_law_k"] (defScope s_law_two) := ⟨rfl, rfl, rfl, by decide +kernel, rfl, by decide +kernel, by decide +kernel⟩
theorem sc_law_good : FnScope ["_law_top", "_law_bottom", "_law_many"] ["_law_top", "_law_bottom"] (defScope s_law_good) := ⟨rfl, rfl, rfl, by decide +kernel, rfl, by decide +kernel, by decide +kernel⟩
theorem sc_law : FnScope ["_law_script", "_law_k", "_law_top", "_law_bottom", "_law_found", "_law_error", "e"] ["_law_script"] (defScope s_law) := ⟨rfl, rfl, rfl, by decide +kernel, rfl, by decide +kernel, by decide +kernel⟩
/-- Python's own names are not given another meaning -/
structure NB (mg : Str → Option Value) : Prop where
  len_ : mg "len" = none
  range_ : mg "range" = none
  str_ : mg "str" = none
  isinstance_ : mg "isinstance" = none
  max_ : mg "max" = none
  all_ : mg "all" = none
  enumerate_ : mg "enumerate" = none
section
open PySem L2 KM
variable {P : Program} {w : World} {K : PySem.W.Frag} {mg : Str → Option Value} {base : Heap}
seal PE PT PW PA PS PSs PG PGs PI PTs PC PO

local macro_rules | `(tactic| walk_at "g1") => `(tactic| first
  | with_reducible exact True.intro
  | refine ⟨_, rfl, ?_⟩
  | refine ⟨_, _, rfl, rfl, ?_⟩
  | refine Or.inl ⟨_, _, rfl, rfl, ?_⟩
  | refine Or.inr ⟨_, _, rfl, rfl, ?_⟩
  | refine ⟨rfl, ?_⟩
  | refine ⟨(by first | omega | decide), ?_⟩)
local macro_rules | `(tactic| walk_at "g") => `(tactic| repeat walk_at "g1")
theorem iteD {p A B : Prop} [Decidable p] (h1 : p → A) (h2 : ¬ p → B) : if decide p = true then A else B := by
  by_cases h : p
  · rw [if_pos (decide_eq_true h)]; exact h1 h
  · rw [if_neg (by simpa using h)]; exact h2 h
theorem iteN {p A B : Prop} [Decidable p] (h : ¬ p) (h2 : B) : if decide p = true then A else B := by rw [if_neg (by simpa using h)]; exact h2
theorem iteY {p A B : Prop} [Decidable p] (h : p) (h2 : A) : if decide p = true then A else B := by rw [if_pos (decide_eq_true h)]; exact h2

/-! ### rows of signs -/
def spTurnedRow : Sp := fun vs H Q _ => ∃ l : List Bool, vs = [.str (rowS l)] ∧ l.length ≤ 100000 ∧ Q (.str (rowS (l.map (!·)))) H
theorem small5 {n : Nat} (h : n ≤ 100000) : n ≤ sizeLine := Nat.le_trans h (by decide)
theorem map_ones (l : List Bool) {fe : Nat → V} (g : Bool → Bool) (h : ∀ i, i < l.length → fe i = .str (rowS [g (l.getD i false)])) : (List.range l.length).map fe = ((l.map g).map fun b => rowS [b]).map V.str := by
  apply List.ext_getElem?
  intro i
  rw [List.getElem?_map, List.getElem?_map, List.getElem?_map, List.getElem?_map]
  rcases Nat.lt_or_ge i l.length with z | z
  · rw [List.getElem?_range z, List.getElem?_eq_getElem z]
    have := h i z
    rw [List.getD_eq_getElem?_getD, List.getElem?_eq_getElem z] at this
    exact congrArg some this
  · rw [List.getElem?_eq_none (by simpa using z), List.getElem?_eq_none z]; rfl
theorem join_len (l : List Bool) : ((l.map fun b => rowS [b]).map (·.length)).sum + (l.map fun b => rowS [b]).length * (Str.ofString "").length = l.length := by
  have e : (Str.ofString "").length = 0 := by decide +kernel
  rw [e, Nat.mul_zero, Nat.add_zero]
  induction l with
  | nil => rfl
  | cons b r ih => simp only [List.map_cons, List.sum_cons, ih, rowS_length, List.length_cons, List.length_nil]; omega
theorem one_slot {σ : St} (h : σ.length = 1) : ∃ z, σ = [z] := by
  match σ, h with
  | [z], _ => exact ⟨z, rfl⟩
theorem ok_turned_row {f : Addr} {fd : FuncData} (F : FunAt K mg "turned_row" s_turned_row ["row"] f fd) : DefOk P w K mg base 1 "turned_row" ["row"] spTurnedRow := by
  refine F.ok sc_turned_row (fun vs H Q E h => ?_) (fun cdv A outer s H vs Q E hr h => ?_)
  · obtain ⟨l, rfl, _⟩ := h; rfl
  obtain ⟨l, rfl, hl, q⟩ := h
  refine ⟨_, (pss_one (ps_ret (pe_bm PySem.F.plainAttrs_str PySem.F.slot_str_join PySem.F.type_str_join mt_join pe_str (pa_cons (pe_comp ["sign"] [] rfl (by decide +kernel) trivial (piAll (pv 0)) (fun _ _ _ _ _ => (pg_name (i := 0) (show (["sign"] : List Str).Nodup by decide +kernel) rfl (by first | exact Or.inl rfl | exact Or.inr rfl))) (fun _ _ _ _ _ => pts_nil) (fun _ _ _ _ _ => (pe_ifExp (pt_cmpR oEq (pv 0) pe_str (nomark _)) pe_str pe_str))) pa_nil)))), ?_⟩
  refine ⟨rfl, .inr ⟨_, rfl, _, rfl, fun D hD => ?_⟩⟩
  refine comp_all l.length (fun i => .str (rowS [l.getD i false])) (fun i => .str (rowS [!l.getD i false])) (fun σ => σ.length = 1) (small5 hl) ?_ ?_ ?_ ?_ ?_ ?_
  · rfl
  · intro i H1 hi; show i < (rowS l).cps.size; simpa [rowS] using hi
  · intro H1; show (rowS l).cps.size ≤ l.length; simp [rowS]
  · rintro i H1 x H2 hi ⟨rfl, c, hc, rfl⟩
    exact ⟨rfl, row_sign hc⟩
  · intro i σ1 H1 hi hS R hR
    obtain ⟨z, rfl⟩ := one_slot hS
    refine ⟨_, rfl, rfl, _, rfl, ?_⟩
    revert hR
    rw [s0, s1, rowS_dec]
    cases l.getD i false
    · intro hR; exact iteT (hR _ (by rfl))
    · intro hR; exact iteF (hR _ (by rfl))
  · refine ⟨_, D, (l.map (!·)).map fun b => rowS [b], rfl, rfl, SqL.of ?_, ?_, H, .refl ?_, ?_⟩
    · rw [upd_same]; exact congrArg (fun x => some (HO.lst x)) (map_ones l (!·) fun i _ => rfl)
    · rw [join_len, List.length_map]; omega
    · exact same_new hD
    · rw [join_bits]; exact q
def spLowerDigits : Sp := fun vs H Q _ => ∃ n d : Nat, vs = [.int n, .int d] ∧ d ≤ 100000 ∧ Q (.str (rowS (bitsW n d))) H
theorem bitsW_range (n d : Nat) : bitsW n d = (List.range d).map fun i => n.testBit (d - 1 - i) := by
  induction d with
  | zero => rfl
  | succ d ih =>
    rw [bitsW, ih, List.range_succ_eq_map, List.map_cons, List.map_map]
    congr 1
    apply List.map_congr_left
    intro i hi
    show n.testBit (d - 1 - i) = n.testBit (d + 1 - 1 - (i + 1))
    congr 1
    omega
theorem bit_and (n k : Nat) : Builtin.bitAnd ((n : Int) / 2 ^ k) 1 = ((n.testBit k).toNat : Int) := by
  rw [PyProof.Rows.bitAnd_m1]
  have e : ((n : Int) / 2 ^ k) % 2 = ((n / 2 ^ k % 2 : Nat) : Int) := by
    rw [Int.natCast_emod, Int.natCast_ediv, Int.natCast_pow]; rfl
  rw [e, Nat.testBit_eq_decide_div_mod_eq]
  have : n / 2 ^ k % 2 < 2 := Nat.mod_lt _ (by decide)
  by_cases q : n / 2 ^ k % 2 = 1
  · simp [q]
  · have : n / 2 ^ k % 2 = 0 := by omega
    simp [this]
theorem ok_lower_digits {f : Addr} {fd : FuncData} (nb : NB mg) (F : FunAt K mg "lower_digits" s_lower_digits ["n", "width"] f fd) : DefOk P w K mg base 1 "lower_digits" ["n", "width"] spLowerDigits := by
  refine F.ok sc_lower_digits (fun vs H Q E h => ?_) (fun cdv A outer s H vs Q E hr h => ?_)
  · obtain ⟨n, d, rfl, _⟩ := h; rfl
  obtain ⟨n, d, rfl, hl, q⟩ := h
  refine ⟨_, (pss_one (ps_ret (pe_bm PySem.F.plainAttrs_str PySem.F.slot_str_join PySem.F.type_str_join mt_join pe_str (pa_cons (pe_comp ["k"] [(0, "n")] rfl (by decide +kernel) ⟨rfl, .inl rfl, trivial⟩ (pi_rangeD rfl nb.range_ (pa_cons (pe_op oSub (pv 1) pe_int) (pa_cons (pe_un un_neg pe_int) (pa_cons (pe_un un_neg pe_int) pa_nil)))) (fun _ _ _ _ _ => (pg_name (i := 0) (show (["k", "n"] : List Str).Nodup by decide +kernel) rfl (by first | exact Or.inl rfl | exact Or.inr rfl))) (fun _ _ _ _ _ => pts_nil) (fun _ _ _ _ _ => (pe_ifExp (pt_cmpR oEq (pe_op op_and (pe_op op_shr (pv 1) (pv 0)) pe_int) pe_int (nomark _)) pe_str pe_str))) pa_nil)))), ?_⟩
  refine ⟨rfl, _, rfl, _, _, rfl, rfl, _, rfl, _, rfl, _, _, rfl, ⟨by omega, by omega, by decide, by decide⟩, fun D hD => ?_⟩
  have hn : (((d : Int) - 1) - (-1)).toNat = d := by omega
  refine comp_all (((d : Int) - 1) - (-1)).toNat (fun i => .int ((d : Int) - 1 + i * (-1))) (fun i => .str (rowS [n.testBit (d - 1 - i)])) (fun σ => ∃ z, σ = [z, some (.int n)]) (by rw [hn]; exact small5 hl) ?_ ?_ ?_ ?_ ?_ ?_
  · exact ⟨_, rfl⟩
  · intro i H1 hi; exact hi
  · intro H1; exact Nat.le_refl _
  · rintro i H1 x H2 hi ⟨rfl, rfl⟩
    exact ⟨rfl, rfl⟩
  · rintro i σ1 H1 hi ⟨z, rfl⟩ R hR
    rw [hn] at hi
    have ej : ((d : Int) - 1 + (i : Int) * (-1)).toNat = d - 1 - i := by omega
    refine ⟨_, rfl, _, rfl, _, _, rfl, rfl, (by omega), _, _, rfl, rfl, rfl, _, rfl, ?_⟩
    have hb : Builtin.bitAnd ((n : Int) / 2 ^ ((d : Int) - 1 + (i : Int) * (-1)).toNat) 1 = ((n.testBit (d - 1 - i)).toNat : Int) := by rw [ej]; exact bit_and _ _
    revert hR
    rw [s0, s1]
    cases e : n.testBit (d - 1 - i)
    · rw [e] at hb
      intro hR; exact iteN (fun c => absurd (hb.symm.trans (V.int.inj c)) (by decide)) (hR _ ⟨_, rfl⟩)
    · rw [e] at hb
      intro hR; exact iteY (congrArg V.int hb) (hR _ ⟨_, rfl⟩)
  · refine ⟨_, D, (bitsW n d).map fun b => rowS [b], rfl, rfl, SqL.of ?_, ?_, H, .refl ?_, ?_⟩
    · rw [upd_same, hn, bitsW_range, List.map_map, List.map_map]; rfl
    · rw [join_len, bitsW_length]; omega
    · exact same_new hD
    · rw [join_bits]; exact q
/-! ### the source of signs -/
/-- what the top has made of the class -/
structure SrcCls (K : PySem.W.Frag) (C : Addr) : Prop where
  cl : Cls K C
  nS : NoAttr K C "signs"
  nP : NoAttr K C "place"
  nT : NoAttr K C "turned"
  nE : NoAttr K C "endless"
  nW : NoAttr K C "wished"
/-! ### bounded numbers read -/
/-! ### counts -/
def spCountRow : Sp := fun vs H Q _ => ∃ n : Nat, vs = [.int n] ∧ n + 1 < 2 ^ 255 ∧ Q (.str (rowS (cnt n))) H
theorem cend_len (e : Nat) : (cend e).length ≤ 1 := by unfold cend; split <;> simp
theorem blen_big {n k : Nat} (h : 2 ^ k ≤ n) : k < blen n := by
  rcases Nat.lt_or_ge k (blen n) with z | z
  · exact z
  · have := blen_lt n
    have := Nat.pow_le_pow_right (show 0 < 2 by decide) z
    omega
def CountIn (n : Int) : Prop := 0 ≤ n ∧ n < 2 ^ 255 - 1
instance (n : Int) : Decidable (CountIn n) := inferInstanceAs (Decidable (_ ∧ _))
def spIsCount : Sp := fun vs H Q _ => ∃ n : Int, vs = [.int n] ∧ Q (.bl (decide (CountIn n))) H
theorem countIn_blen {m : Nat} : CountIn (m : Int) ↔ blen (m + 1) ≤ 255 := by
  unfold CountIn
  constructor
  · intro ⟨_, h⟩; exact blen_le (by omega)
  · intro h
    rcases Nat.lt_or_ge (m + 1) (2 ^ 255) with z | z
    · omega
    · have := blen_big z; omega
theorem ok_is_count {f : Addr} {fd : FuncData} (g_MOST_DIGITS : GlobV mg "MOST_DIGITS" (.int 255)) (F : FunAt K mg "is_count" s_is_count ["n"] f fd) : DefOk P w K mg base 1 "is_count" ["n"] spIsCount := by
  refine F.ok sc_is_count (fun vs H Q E h => ?_) (fun cdv A outer s H vs Q E hr h => ?_)
  · obtain ⟨n, rfl, _⟩ := h; rfl
  obtain ⟨n, rfl, q⟩ := h
  refine ⟨_, (pss_one (ps_ret (pe_and (pe_cmpR oGe (pv 0) pe_int (nomark _)) (pe_one (pe_cmpR oLe (pe_bm0 PySem.F.plainAttrs_int PySem.F.slot_int_bit_length PySem.F.type_int_bit_length mt_bitlen (pe_op oAdd (pv 0) pe_int)) (pe_globV g_MOST_DIGITS) (nomark _)))))), ?_⟩
  refine ⟨_, rfl, _, _, rfl, rfl, _, rfl, ?_⟩
  refine iteD (fun c => ?_) (fun c => ?_)
  · refine ⟨_, rfl, .inl ⟨_, _, rfl, rfl, rfl, _, rfl, rfl, _, _, rfl, rfl, H, .refl (Same.refl _), ?_⟩⟩
    obtain ⟨m, rfl⟩ : ∃ m : Nat, n = m := ⟨n.toNat, by omega⟩
    rw [show ((m : Int) + 1) = ((m + 1 : Nat) : Int) from rfl, bits_eq (m + 1)]
    have e : decide (((blen (m + 1) : Nat) : Int) ≤ 255) = decide (CountIn (m : Int)) := by
      rw [decide_eq_decide, countIn_blen]; omega
    dsimp only
    rw [e]
    exact q
  · refine ⟨H, .refl (Same.refl _), ?_⟩
    have e : decide (CountIn n) = false := decide_eq_false fun z => c z.1
    rw [← e]; exact q
theorem ok_count_row {f : Addr} {fd : FuncData} (g_MOST_AHEAD : GlobV mg "MOST_AHEAD" (.int 7)) (F : FunAt K mg "count_row" s_count_row ["n"] f fd) (D_is_count : DefOk P w K mg base 1 "is_count" ["n"] spIsCount) (D_lower_digits : DefOk P w K mg base 1 "lower_digits" ["n", "width"] spLowerDigits) : DefOk P w K mg base 2 "count_row" ["n"] spCountRow := by
  refine F.ok sc_count_row (fun vs H Q E h => ?_) (fun cdv A outer s H vs Q E hr h => ?_)
  · obtain ⟨n, rfl, _⟩ := h; rfl
  obtain ⟨n, rfl, hn, q⟩ := h
  refine ⟨_, (pss_cons (ps_if (pt_not (pt_truth (pe_callD D_is_count hr (pa_cons (pv 0) pa_nil)) (fun _ => rfl))) (pss_one ps_never) pss_nil)
    (pss_cons (ps_set (i := 1) sc_count_row.nd rfl (by first | exact Or.inl rfl | exact Or.inr rfl) (pe_op oAdd (pv 0) pe_int))
    (pss_cons (ps_set (i := 2) sc_count_row.nd rfl (by first | exact Or.inl rfl | exact Or.inr rfl) (pe_bm0 PySem.F.plainAttrs_int PySem.F.slot_int_bit_length PySem.F.type_int_bit_length mt_bitlen (pv 1)))
    (pss_cons (ps_set (i := 3) sc_count_row.nd rfl (by first | exact Or.inl rfl | exact Or.inr rfl) (pe_op oSub (pe_bm0 PySem.F.plainAttrs_int PySem.F.slot_int_bit_length PySem.F.type_int_bit_length mt_bitlen (pv 2)) pe_int))
    (pss_cons (ps_set (i := 4) sc_count_row.nd rfl (by first | exact Or.inl rfl | exact Or.inr rfl) (pe_ifExp (pt_cmpR oEq (pv 3) (pe_globV g_MOST_AHEAD) (nomark _)) pe_str pe_str))
    (pss_one (ps_ret (pe_op oAdd (pe_op oAdd (pe_op oAdd (pe_op oMul pe_str (pv 3)) (pv 4)) (pe_callD D_lower_digits hr (pa_cons (pv 2) (pa_cons (pv 3) pa_nil)))) (pe_callD D_lower_digits hr (pa_cons (pv 1) (pa_cons (pe_op oSub (pv 2) pe_int) pa_nil))))))))))), ?_⟩
  have hd : blen (n + 1) ≤ 255 := blen_le hn
  have hp : 0 < blen (n + 1) := blen_pos (by omega)
  have he : blen (blen (n + 1)) ≤ 8 := blen_le (by omega)
  have hq : 0 < blen (blen (n + 1)) := blen_pos (by omega)
  have b1 := bits_eq (n + 1)
  have b2 := bits_eq (blen (n + 1))
  refine ⟨_, rfl, _, rfl, _, rfl, ?_⟩
  rw [decide_eq_true (countIn_blen.mpr hd)]
  refine iteF ⟨_, rfl, .inl ⟨_, _, rfl, rfl, _, rfl, rfl, _, rfl, rfl, ?_⟩⟩
  rw [show ((n : Int) + 1) = ((n + 1 : Nat) : Int) from rfl, b1]
  refine ⟨_, rfl, rfl, _, rfl, rfl, _, _, rfl, rfl, ?_⟩
  rw [b2]
  obtain ⟨k, hk⟩ : ∃ k : Nat, ((blen (blen (n + 1)) : Nat) : Int) - 1 = k := ⟨blen (blen (n + 1)) - 1, by omega⟩
  have hk' : k = blen (blen (n + 1)) - 1 := by omega
  dsimp only
  rw [hk]
  have a1 : (k : Int) < 2 ^ 40 := by omega
  have a2 : -(2 ^ 40) < (k : Int) := by omega
  have a3 : (Str.ofString "1").length * ((k : Nat) : Int).toNat ≤ sizeLine := by rw [s1, rowS_length]; exact small5 (by show 1 * _ ≤ _; omega)
  have a4 : (Txt.mul (Str.ofString "1") (k : Int)).length + (rowS (cend (blen (blen (n + 1))))).length ≤ sizeLine := by
    rw [s1, mul_row, rowS_length, rowS_length, List.length_replicate]
    have := cend_len (blen (blen (n + 1)))
    exact small5 (by omega)
  have a5 : (Txt.mul (Str.ofString "1") (k : Int) ++ rowS (cend (blen (blen (n + 1))))).length + (rowS (bitsW (blen (n + 1)) k)).length ≤ sizeLine := by
    rw [s1, mul_row, rowS_append, rowS_length, rowS_length, List.length_append, List.length_replicate, bitsW_length]
    have := cend_len (blen (blen (n + 1)))
    exact small5 (by omega)
  have a6 : (Txt.mul (Str.ofString "1") (k : Int) ++ rowS (cend (blen (blen (n + 1)))) ++ rowS (bitsW (blen (n + 1)) k)).length + (rowS (bitsW (n + 1) (blen (n + 1) - 1))).length ≤ sizeLine := by
    rw [s1, mul_row, rowS_append, rowS_append, rowS_length, rowS_length, List.length_append, List.length_append, List.length_replicate, bitsW_length, bitsW_length]
    have := cend_len (blen (blen (n + 1)))
    exact small5 (by omega)
  have ar : Txt.mul (Str.ofString "1") (k : Int) ++ rowS (cend (blen (blen (n + 1)))) ++ rowS (bitsW (blen (n + 1)) k) ++ rowS (bitsW (n + 1) (blen (n + 1) - 1)) = rowS (cnt n) := by
    rw [s1, mul_row, rowS_append, rowS_append, rowS_append]
    unfold cnt
    rw [hk', List.append_assoc, List.append_assoc]
    rfl
  have ad : [V.int ((n : Int) + 1), V.int (((blen (n + 1) : Nat) : Int) - 1)] = [.int ((n + 1 : Nat) : Int), .int ((blen (n + 1) - 1 : Nat) : Int)] := by
    have : ((blen (n + 1) : Nat) : Int) - 1 = ((blen (n + 1) - 1 : Nat) : Int) := by omega
    rw [this]; rfl
  refine ⟨_, rfl, rfl, _, rfl, ?_⟩
  refine iteD (fun c => ?_) (fun c => ?_)
  · have hend : (Str.ofString "") = rowS (cend (blen (blen (n + 1)))) := by
      have := V.int.inj c
      rw [sE]; unfold cend; rw [if_pos (by omega)]
    rw [hend]
    refine ⟨_, rfl, .inr ⟨_, _, rfl, rfl, a1, a2, a3, _, rfl, .inr ⟨_, _, rfl, rfl, a4, _, rfl, _, rfl, _, _, rfl, (by omega), .inr ⟨_, _, rfl, rfl, a5, ?_⟩⟩⟩⟩
    refine ⟨_, rfl, _, rfl, _, _, rfl, rfl, n + 1, blen (n + 1) - 1, ad, (by omega), .inr ⟨_, _, rfl, rfl, a6, H, .refl (Same.refl _), ?_⟩⟩
    rw [ar]
    exact q
  · have hend : (Str.ofString "0") = rowS (cend (blen (blen (n + 1)))) := by
      have : ¬ k = 7 := fun z => c (by rw [z]; rfl)
      rw [s0]; unfold cend; rw [if_neg (by omega)]
    rw [hend]
    refine ⟨_, rfl, .inr ⟨_, _, rfl, rfl, a1, a2, a3, _, rfl, .inr ⟨_, _, rfl, rfl, a4, _, rfl, _, rfl, _, _, rfl, (by omega), .inr ⟨_, _, rfl, rfl, a5, ?_⟩⟩⟩⟩
    refine ⟨_, rfl, _, rfl, _, _, rfl, rfl, n + 1, blen (n + 1) - 1, ad, (by omega), .inr ⟨_, _, rfl, rfl, a6, H, .refl (Same.refl _), ?_⟩⟩
    rw [ar]
    exact q
/-! ### whole numbers -/
def WholeIn (n : Int) : Prop := -(2 ^ 255) < n ∧ n < 2 ^ 255 - 1
def spWholeRow : Sp := fun vs H Q _ => ∃ n : Int, vs = [.int n] ∧ WholeIn n ∧ Q (.str (rowS (whl n))) H
theorem neg_nat {n : Int} (h : n < 0) (b : -(2 ^ 255) < n) : ∃ m : Nat, -1 - n = m ∧ m + 1 < 2 ^ 255 ∧ whl n = false :: (cnt m).map (!·) := by
  refine ⟨(-1 - n).toNat, by omega, by omega, ?_⟩
  unfold whl; rw [if_pos h]
theorem pos_nat {n : Int} (h : ¬ n < 0) (b : n < 2 ^ 255 - 1) : ∃ m : Nat, n = m ∧ m + 1 < 2 ^ 255 ∧ whl n = true :: cnt m := by
  refine ⟨n.toNat, by omega, by omega, ?_⟩
  unfold whl; rw [if_neg h]
theorem cnt_len5 {n : Nat} (h : n + 1 < 2 ^ 255) : (cnt n).length ≤ 269 := by
  have := cnt_length h
  have := blen_le h
  omega
theorem cons_row (b : Bool) (l : List Bool) : rowS [b] ++ rowS l = rowS (b :: l) := by rw [rowS_append]; rfl
theorem ok_whole_row {f : Addr} {fd : FuncData} (F : FunAt K mg "whole_row" s_whole_row ["n"] f fd) (D_count_row : DefOk P w K mg base 2 "count_row" ["n"] spCountRow) (D_turned_row : DefOk P w K mg base 1 "turned_row" ["row"] spTurnedRow) : DefOk P w K mg base 3 "whole_row" ["n"] spWholeRow := by
  refine F.ok sc_whole_row (fun vs H Q E h => ?_) (fun cdv A outer s H vs Q E hr h => ?_)
  · obtain ⟨n, rfl, _⟩ := h; rfl
  obtain ⟨n, rfl, hn, q⟩ := h
  refine ⟨_, (pss_cons (ps_if (pt_cmpR oLt (pv 0) pe_int (nomark _)) (pss_one (ps_ret (pe_op oAdd pe_str (pe_callD D_turned_row hr (pa_cons (pe_callD D_count_row hr (pa_cons (pe_op oSub (pe_un un_neg pe_int) (pv 0)) pa_nil)) pa_nil))))) pss_nil)
    (pss_one (ps_ret (pe_op oAdd pe_str (pe_callD D_count_row hr (pa_cons (pv 0) pa_nil)))))), ?_⟩
  refine ⟨_, rfl, .inl ⟨_, _, rfl, rfl, _, rfl, ?_⟩⟩
  refine iteD (fun c => ?_) (fun c => ?_)
  · obtain ⟨m, e, hm, ew⟩ := neg_nat c hn.1
    have lm := cnt_len5 hm
    refine ⟨_, rfl, _, rfl, _, _, rfl, rfl, m, (congrArg (fun x => [V.int x]) e), hm, cnt m, rfl, (by omega), .inr ⟨_, _, rfl, rfl, (by rw [s0, rowS_length, rowS_length, List.length_map]; exact small5 (by simp only [List.length_cons, List.length_nil]; omega)), H, .refl (Same.refl _), ?_⟩⟩
    rw [s0, cons_row, ← ew]
    exact q
  · obtain ⟨m, rfl, hm, ew⟩ := pos_nat c hn.2
    have lm := cnt_len5 hm
    refine ⟨_, rfl, m, rfl, hm, .inr ⟨_, _, rfl, rfl, (by rw [s1, rowS_length, rowS_length]; exact small5 (by simp only [List.length_cons, List.length_nil]; omega)), H, .refl (Same.refl _), ?_⟩⟩
    rw [s1, cons_row, ← ew]
    exact q
/-! ### fractions -/
theorem mI (l : List Int) : (l.map V.int).length = l.length := List.length_map ..
theorem small5' {n : Nat} (h : n ≤ 100001) : n ≤ sizeLine := Nat.le_trans h (by decide)
theorem same_updr {H H2 : Hp} {r : Addr} {o : HO} (hs : Same H H2) (hr : H r = none) : Same H (upd H2 r o) := fun b u e => by rw [upd_ne (ne_of_none e hr)]; exact hs b u e
def spStepsOf : Sp := fun vs H Q _ => ∃ (t : Addr) (p q : Int), vs = [.ref t] ∧ H t = some (.tup [.int p, .int q]) ∧ 0 ≤ q ∧ (euc p q).length ≤ 100000 ∧ (∀ x ∈ euc p q, x.natAbs < 2 ^ 1000) ∧ ∀ r, H r = none → Q (.ref r) (upd H r (.lst ((euc p q).map .int)))
theorem ok_steps_of {f : Addr} {fd : FuncData} (F : FunAt K mg "steps_of" s_steps_of ["fraction"] f fd) : DefOk P w K mg base 1 "steps_of" ["fraction"] spStepsOf := by
  refine F.ok sc_steps_of (fun vs H Q E h => ?_) (fun cdv A outer s H vs Q E hr h => ?_)
  · obtain ⟨t, p, q, rfl, _⟩ := h; rfl
  obtain ⟨t, p, q, rfl, ht, hq, hl, hb, hQ⟩ := h
  refine ⟨_, (pss_cons (ps_set (i := 1) sc_steps_of.nd rfl (by first | exact Or.inl rfl | exact Or.inr rfl) (pe_lst pa_nil))
    (pss_cons (ps_set (i := 2) sc_steps_of.nd rfl (by first | exact Or.inl rfl | exact Or.inr rfl) (pe_ix iAll (pv 0) pe_int (fun _ _ => rfl)))
    (pss_cons (ps_set (i := 3) sc_steps_of.nd rfl (by first | exact Or.inl rfl | exact Or.inr rfl) (pe_ix iAll (pv 0) pe_int (fun _ _ => rfl)))
    (pss_cons (ps_while PassesOwn.never (pt_cmpR oNe (pv 3) pe_int (nomark _))
      (pss_cons (ps_expr (pe_bm PySem.F.plainAttrs_list PySem.F.slot_list_append PySem.F.type_list_append mt_append (pv 1) (pa_cons (pe_op op_fdivB (pv 2) (pv 3)) pa_nil)))
      (pss_cons (ps_set (i := 4) sc_steps_of.nd rfl (by first | exact Or.inl rfl | exact Or.inr rfl) (pe_op op_mod (pv 2) (pv 3)))
      (pss_cons (ps_set (i := 2) sc_steps_of.nd rfl (by first | exact Or.inl rfl | exact Or.inr rfl) (pv 3))
      (pss_one (ps_set (i := 3) sc_steps_of.nd rfl (by first | exact Or.inl rfl | exact Or.inr rfl) (pv 4)))))))
    (pss_one (ps_ret (pv 1))))))), ?_⟩
  have a0 : atI [V.int p, V.int q] 0 = some (.int p) := atI_nat (j := 0) rfl
  have a1 : atI [V.int p, V.int q] 1 = some (.int q) := atI_nat (j := 1) rfl
  refine ⟨Nat.zero_le _, fun r hr2 => ?_⟩
  have ht2 := same_new (o := HO.lst []) hr2 t _ ht
  refine ⟨_, rfl, .inl (.inr ⟨_, _, _, _, rfl, rfl, SqT.of ht2, a0, _, rfl, .inl (.inr ⟨_, _, _, _, rfl, rfl, SqT.of ht2, a1, ?_⟩)⟩)⟩
  refine ⟨fun m σ H2 => ∃ (d : List Int) (x y : Int) (z : Option V), d ++ euc x y = euc p q ∧ 0 ≤ y ∧ m = y.toNat ∧ σ = [some (.ref t), some (.ref r), some (.int x), some (.int y), z] ∧ H2 = upd H r (.lst (d.map .int)), ⟨q.toNat, [], p, q, none, rfl, hq, rfl, rfl, rfl⟩, ?_⟩
  rintro m σ H2 ⟨d, x, y, z, hd, hy, rfl, rfl, rfl⟩
  refine ⟨_, rfl, rfl, _, rfl, ?_⟩
  rw [dec_int]
  by_cases hy0 : y = 0
  · subst hy0
    rw [euc_zero, List.append_nil] at hd
    subst hd
    refine iteF ⟨_, rfl, _, .new hr2 (same_new hr2) upd_same trivial, hQ r hr2⟩
  · have hy1 : 0 < y := by omega
    rw [euc_pos hy1] at hd
    have hmem : x / y ∈ euc p q := by rw [← hd]; exact List.mem_append_right _ (List.mem_cons_self ..)
    have hlen := congrArg List.length hd
    rw [List.length_append, List.length_cons] at hlen
    have eb : (y == 0) = false := by simpa using hy0
    rw [eb]
    have r1 := Int.emod_lt_of_pos x hy1
    have r0 := Int.emod_nonneg x hy0
    refine iteT ⟨fun σ' H' => ∃ m', m' < y.toNat ∧ ∃ (d : List Int) (x y : Int) (z : Option V), d ++ euc x y = euc p q ∧ 0 ≤ y ∧ m' = y.toNat ∧ σ' = [some (.ref t), some (.ref r), some (.int x), some (.int y), z] ∧ H' = upd H r (.lst (d.map .int)), fun _ _ h => h, ?_⟩
    refine ⟨_, rfl, .inl ⟨rfl, _, SqL.of upd_same⟩, _, rfl, _, rfl, _, _, rfl, rfl, ⟨hy1, .inr (Nat.le_trans (div_size hy1 (hb _ hmem)) (Nat.add_le_add_left (by decide) _))⟩, ?_⟩
    refine ⟨_, _, _, rfl, rfl, upd_same, (by rw [mI]; exact Nat.lt_of_lt_of_le (show d.length < 100001 by omega) (small5' (by decide))), ?_⟩
    refine ⟨_, rfl, _, rfl, _, _, rfl, rfl, hy1, _, rfl, _, rfl, ?_⟩
    refine ⟨(x % y).toNat, by omega, d ++ [x / y], y, x % y, _, ?_, r0, rfl, rfl, ?_⟩
    · rw [List.append_assoc]; exact hd
    · rw [upd_upd', List.map_append]; rfl
/-! ### rows of fractions -/
instance (n : Int) : Decidable (WholeIn n) := inferInstanceAs (Decidable (_ ∧ _))
def RowIn (s : List Int) : Prop := (∀ x ∈ s.take 1, WholeIn x) ∧ ∀ x ∈ s.drop 1, CountIn (x - 1)
instance (s : List Int) : Decidable (RowIn s) := inferInstanceAs (Decidable (_ ∧ _))
def spHasWhole : Sp := fun vs H Q _ => ∃ n : Int, vs = [.int n] ∧ Q (.bl (decide (WholeIn n))) H
theorem ok_has_whole_row {f : Addr} {fd : FuncData} (F : FunAt K mg "has_whole_row" s_has_whole_row ["n"] f fd) (D_is_count : DefOk P w K mg base 1 "is_count" ["n"] spIsCount) : DefOk P w K mg base 2 "has_whole_row" ["n"] spHasWhole := by
  refine F.ok sc_has_whole_row (fun vs H Q E h => ?_) (fun cdv A outer s H vs Q E hr h => ?_)
  · obtain ⟨n, rfl, _⟩ := h; rfl
  obtain ⟨n, rfl, q⟩ := h
  refine ⟨_, (pss_one (ps_ret (pe_callD D_is_count hr (pa_cons (pe_ifExp (pt_cmpR oGe (pv 0) pe_int (nomark _)) (pv 0) (pe_op oSub (pe_un un_neg pe_int) (pv 0))) pa_nil)))), ?_⟩
  refine ⟨_, rfl, _, _, rfl, rfl, _, rfl, ?_⟩
  refine iteD (fun c => ?_) (fun c => ?_)
  · refine ⟨_, rfl, _, rfl, H, .refl (Same.refl _), ?_⟩
    have e : decide (CountIn n) = decide (WholeIn n) := decide_eq_decide.mpr (by unfold CountIn WholeIn; omega)
    rw [e]; exact q
  · refine ⟨_, rfl, _, rfl, _, _, rfl, rfl, _, rfl, H, .refl (Same.refl _), ?_⟩
    have e : decide (CountIn (-1 - n)) = decide (WholeIn n) := decide_eq_decide.mpr (by unfold CountIn WholeIn; omega)
    rw [e]; exact q
def spCd : Sp := fun vs H Q _ => ∃ p q : Int, vs = [.int p, .int q] ∧ 0 ≤ q ∧ Q (.int (cd p q)) H
theorem ok_common_divisor {f : Addr} {fd : FuncData} (F : FunAt K mg "common_divisor" s_common_divisor ["one", "other"] f fd) : DefOk P w K mg base 1 "common_divisor" ["one", "other"] spCd := by
  refine F.ok sc_common_divisor (fun vs H Q E h => ?_) (fun cdv A outer s H vs Q E hr h => ?_)
  · obtain ⟨p, q, rfl, _⟩ := h; rfl
  obtain ⟨p, q, rfl, hq, hQ⟩ := h
  refine ⟨_, (pss_cons (ps_while PassesOwn.never (pt_cmpR oNe (pv 1) pe_int (nomark _))
      (pss_cons (ps_set (i := 2) sc_common_divisor.nd rfl (by first | exact Or.inl rfl | exact Or.inr rfl) (pe_op op_mod (pv 0) (pv 1)))
      (pss_cons (ps_set (i := 0) sc_common_divisor.nd rfl (by first | exact Or.inl rfl | exact Or.inr rfl) (pv 1))
      (pss_one (ps_set (i := 1) sc_common_divisor.nd rfl (by first | exact Or.inl rfl | exact Or.inr rfl) (pv 2))))))
    (pss_one (ps_ret (pv 0)))), ?_⟩
  refine ⟨fun m σ H2 => ∃ (x y : Int) (z : Option V), cd x y = cd p q ∧ 0 ≤ y ∧ m = y.toNat ∧ σ = [some (.int x), some (.int y), z] ∧ H2 = H, ⟨q.toNat, p, q, none, rfl, hq, rfl, rfl, rfl⟩, ?_⟩
  rintro m σ H2 ⟨x, y, z, hd, hy, rfl, rfl, rfl⟩
  refine ⟨_, rfl, rfl, _, rfl, ?_⟩
  rw [dec_int]
  by_cases hy0 : y = 0
  · subst hy0
    rw [cd_zero] at hd
    subst hd
    exact iteF ⟨_, rfl, H2, .refl (Same.refl _), hQ⟩
  · have hy1 : 0 < y := by omega
    rw [cd_pos hy1] at hd
    have eb : (y == 0) = false := by simpa using hy0
    rw [eb]
    have r1 := Int.emod_lt_of_pos x hy1
    have r0 := Int.emod_nonneg x hy0
    refine iteT ⟨fun σ' H' => ∃ m', m' < y.toNat ∧ ∃ (x y : Int) (z : Option V), cd x y = cd p q ∧ 0 ≤ y ∧ m' = y.toNat ∧ σ' = [some (.int x), some (.int y), z] ∧ H' = H2, fun _ _ h => h, ?_⟩
    refine ⟨_, rfl, _, rfl, _, _, rfl, rfl, hy1, _, rfl, _, rfl, ?_⟩
    exact ⟨(x % y).toNat, by omega, y, x % y, _, hd, r0, rfl, rfl, rfl⟩
def spIsFrac : Sp := fun vs H Q _ => ∃ (t : Addr) (p q : Int), vs = [.ref t] ∧ H t = some (.tup [.int p, .int q]) ∧ Q (.bl (decide (0 < q ∧ cd p q = 1))) H
theorem ok_is_fraction {f : Addr} {fd : FuncData} (F : FunAt K mg "is_fraction" s_is_fraction ["fraction"] f fd) (D_common_divisor : DefOk P w K mg base 1 "common_divisor" ["one", "other"] spCd) : DefOk P w K mg base 2 "is_fraction" ["fraction"] spIsFrac := by
  refine F.ok sc_is_fraction (fun vs H Q E h => ?_) (fun cdv A outer s H vs Q E hr h => ?_)
  · obtain ⟨t, p, q, rfl, _⟩ := h; rfl
  obtain ⟨t, p, q, rfl, ht, hQ⟩ := h
  refine ⟨_, (pss_one (ps_ret (pe_and (pe_cmpR oGt (pe_ix iAll (pv 0) pe_int (fun _ _ => rfl)) pe_int (nomark _)) (pe_one (pe_cmpR oEq (pe_callD D_common_divisor hr (pa_cons (pe_ix iAll (pv 0) pe_int (fun _ _ => rfl)) (pa_cons (pe_ix iAll (pv 0) pe_int (fun _ _ => rfl)) pa_nil))) pe_int (nomark _)))))), ?_⟩
  have a0 : atI [V.int p, V.int q] 0 = some (.int p) := atI_nat (j := 0) rfl
  have a1 : atI [V.int p, V.int q] 1 = some (.int q) := atI_nat (j := 1) rfl
  refine ⟨_, rfl, .inl (.inr ⟨_, _, _, _, rfl, rfl, SqT.of ht, a1, _, _, rfl, rfl, _, rfl, ?_⟩)⟩
  refine iteD (fun c => ?_) (fun c => ?_)
  · refine ⟨_, rfl, .inl (.inr ⟨_, _, _, _, rfl, rfl, SqT.of ht, a0, _, rfl, .inl (.inr ⟨_, _, _, _, rfl, rfl, SqT.of ht, a1, p, q, rfl, Int.le_of_lt c, rfl, H, .refl (Same.refl _), ?_⟩)⟩)⟩
    have e : decide (V.int (cd p q) = V.int 1) = decide (0 < q ∧ cd p q = 1) := decide_eq_decide.mpr ⟨fun z => ⟨c, V.int.inj z⟩, fun z => congrArg V.int z.2⟩
    rw [e]; exact hQ
  · refine ⟨H, .refl (Same.refl _), ?_⟩
    rw [decide_eq_false (fun z => c z.1)] at hQ
    exact hQ
def spHasRow : Sp := fun vs H Q _ => ∃ (t : Addr) (p q : Int), vs = [.ref t] ∧ H t = some (.tup [.int p, .int q]) ∧ (0 < q → (euc p q).length ≤ 100000 ∧ ∀ x ∈ euc p q, x.natAbs < 2 ^ 1000) ∧ Q (.bl (decide (0 < q ∧ cd p q = 1 ∧ RowIn (euc p q)))) H
theorem ok_has_fraction_row {f : Addr} {fd : FuncData} (nb : NB mg) (F : FunAt K mg "has_fraction_row" s_has_fraction_row ["fraction"] f fd) (D_is_fraction : DefOk P w K mg base 2 "is_fraction" ["fraction"] spIsFrac) (D_steps_of : DefOk P w K mg base 1 "steps_of" ["fraction"] spStepsOf) (D_has_whole_row : DefOk P w K mg base 2 "has_whole_row" ["n"] spHasWhole) (D_is_count : DefOk P w K mg base 1 "is_count" ["n"] spIsCount) : DefOk P w K mg base 3 "has_fraction_row" ["fraction"] spHasRow := by
  refine F.ok sc_has_fraction_row (fun vs H Q E h => ?_) (fun cdv A outer s H vs Q E hr h => ?_)
  · obtain ⟨t, p, q, rfl, _⟩ := h; rfl
  obtain ⟨t, p, q, rfl, ht, hb, hQ⟩ := h
  refine ⟨_, (pss_cons (ps_if (pt_not (pt_truth (pe_callD D_is_fraction hr (pa_cons (pv 0) pa_nil)) (fun _ => rfl))) (pss_one (ps_ret pe_bl)) pss_nil)
    (pss_cons (ps_set (i := 1) sc_has_fraction_row.nd rfl (by first | exact Or.inl rfl | exact Or.inr rfl) (pe_callD D_steps_of hr (pa_cons (pv 0) pa_nil)))
    (pss_one (ps_ret (pe_and (pe_callD D_has_whole_row hr (pa_cons (pe_ix iAll (pv 1) pe_int (fun _ _ => rfl)) pa_nil)) (pe_one (pe_callB (call_all rfl) rfl nb.all_ bo_all (pa_cons (pe_comp ["step"] [] rfl (by decide +kernel) trivial (piAll (pe_slice slAll (pv 1) (po_some pe_int) po_none)) (fun _ _ _ _ _ => (pg_name (i := 0) (show (["step"] : List Str).Nodup by decide +kernel) rfl (by first | exact Or.inl rfl | exact Or.inr rfl))) (fun _ _ _ _ _ => pts_nil) (fun _ _ _ _ _ => (pe_callD D_is_count hr (pa_cons (pe_op oSub (pv 0) pe_int) pa_nil)))) pa_nil)))))))), ?_⟩
  refine ⟨_, rfl, t, p, q, rfl, ht, _, rfl, ?_⟩
  by_cases hf : 0 < q ∧ cd p q = 1
  · rw [decide_eq_true hf]
    obtain ⟨hl, hz⟩ := hb hf.1
    refine iteF ⟨_, rfl, t, p, q, rfl, ht, Int.le_of_lt hf.1, hl, hz, fun r hr2 => ?_⟩
    have s1' := same_new (o := HO.lst ((euc p q).map V.int)) hr2
    obtain ⟨a, es, he⟩ : ∃ a es, euc p q = a :: es := ⟨_, _, euc_pos hf.1⟩
    rw [he] at hQ s1' hl ⊢
    have a0 : atI ((a :: es).map V.int) 0 = some (.int a) := atI_nat (j := 0) rfl
    refine ⟨_, rfl, .inl (.inl ⟨_, _, _, _, rfl, rfl, SqL.of upd_same, a0, a, rfl, _, rfl, ?_⟩)⟩
    refine iteD (fun c => ?_) (fun c => ?_)
    · refine .inl ⟨_, rfl, _, rfl, .inl ⟨r, _, rfl, SqL.of upd_same, fun g hg => ⟨_, rfl, ⟨_, SqL.of upd_same⟩, fun D hD => ?_⟩⟩⟩
      rw [cutV_tail, ← List.map_drop] at hD ⊢
      have s2' := s1'.trans (same_new (o := HO.lst (((a :: es).drop 1).map V.int)) hg)
      refine comp_list (xs := ((a :: es).drop 1).map V.int) (fun x => match x with | .int i => .bl (decide (CountIn (i - 1))) | _ => x) (fun σ => σ.length = 1) (by rw [mI, List.length_drop]; exact small5 (by omega)) rfl hD (SqL.of upd_same) ?_ ?_
      · rintro x hx σ1 H1 hS hs1 R hR
        obtain ⟨i, _, rfl⟩ := List.mem_map.mp hx
        obtain ⟨z, rfl⟩ := one_slot hS
        exact ⟨_, rfl, _, _, rfl, rfl, _, rfl, hR _ rfl⟩
      · rw [List.map_map]
        have s3' := s2'.trans (same_new (o := HO.lst (((a :: es).drop 1).map fun i => V.bl (decide (CountIn (i - 1))))) hD)
        refine ⟨D, ((a :: es).drop 1).map fun i => decide (CountIn (i - 1)), rfl, SqL.of (by rw [upd_same, List.map_map]; rfl), H, .refl s3', ?_⟩
        have e : (((a :: es).drop 1).map fun i => decide (CountIn (i - 1))).all id = decide (0 < q ∧ cd p q = 1 ∧ RowIn (a :: es)) := by
          rw [List.all_map]
          apply Bool.eq_iff_iff.mpr
          rw [List.all_eq_true, decide_eq_true_eq]
          constructor
          · intro h
            refine ⟨hf.1, hf.2, fun x hx => ?_, fun x hx => of_decide_eq_true (h x hx)⟩
            rw [List.mem_singleton.mp hx]; exact c
          · intro h x hx
            exact decide_eq_true (h.2.2.2 x hx)
        rw [e]; exact hQ
    · refine ⟨H, .refl s1', ?_⟩
      rw [decide_eq_false (fun z => c (z.2.2.1 a (List.mem_singleton.mpr rfl)))] at hQ
      exact hQ
  · rw [decide_eq_false hf]
    refine iteT ⟨H, .refl (Same.refl _), ?_⟩
    rw [decide_eq_false (fun z => hf ⟨z.1, z.2.1⟩)] at hQ
    exact hQ
def spRowOf : Sp := fun vs H Q _ => ∃ (a : Addr) (s : List Int), vs = [.ref a] ∧ H a = some (.lst (s.map .int)) ∧ s ≠ [] ∧ s.length ≤ 10000 ∧ RowIn s ∧ Q (.str (rowS (frow s))) H
theorem piece_len {k : Nat} {x : Int} {b : Bool} (h : if k = 0 then WholeIn x else CountIn (x - 1)) : (piece k x b).length ≤ 271 := by
  unfold piece
  rw [List.length_map, List.length_append, List.length_singleton]
  by_cases hk : k = 0
  · rw [if_pos hk] at h ⊢
    have := whl_length h.1 h.2
    omega
  · rw [if_neg hk] at h ⊢
    have := cnt_len5 (n := (x - 1).toNat) (by unfold CountIn at h; omega)
    omega
theorem RowIn.at {s : List Int} {i : Nat} {x : Int} (h : RowIn s) (hx : s[i]? = some x) : if i = 0 then WholeIn x else CountIn (x - 1) := by
  match s, i, hx with
  | a :: r, 0, hx => cases hx; exact h.1 x (List.mem_singleton.mpr rfl)
  | a :: r, i + 1, hx => exact h.2 x (List.mem_of_getElem? hx)
theorem sum_len {l : List (List Bool)} (h : ∀ p ∈ l, p.length ≤ 271) : ((l.map rowS).map (·.length)).sum ≤ 271 * l.length := by
  induction l with
  | nil => exact Nat.zero_le _
  | cons p r ih =>
    rw [List.map_cons, List.map_cons, List.sum_cons, List.length_cons, rowS_length]
    have := h p (List.mem_cons_self ..)
    have := ih fun q hq => h q (List.mem_cons_of_mem _ hq)
    omega
theorem tail_turn (x : List Bool) (b : Bool) : rowS x ++ rowS [b] = rowS (x ++ [b]) := by rw [rowS_append]
theorem ok_row_of_steps {f : Addr} {fd : FuncData} (nb : NB mg) (F : FunAt K mg "row_of_steps" s_row_of_steps ["steps"] f fd) (D_whole_row : DefOk P w K mg base 3 "whole_row" ["n"] spWholeRow) (D_count_row : DefOk P w K mg base 2 "count_row" ["n"] spCountRow) (D_turned_row : DefOk P w K mg base 1 "turned_row" ["row"] spTurnedRow) : DefOk P w K mg base 4 "row_of_steps" ["steps"] spRowOf := by
  refine F.ok sc_row_of_steps (fun vs H Q E h => ?_) (fun cdv A outer s H vs Q E hr h => ?_)
  · obtain ⟨a, s, rfl, _⟩ := h; rfl
  obtain ⟨a, s, rfl, ha, hne, hl, hR, q⟩ := h
  refine ⟨_, (pss_cons (ps_set (i := 1) sc_row_of_steps.nd rfl (by first | exact Or.inl rfl | exact Or.inr rfl) (pe_op oSub (pe_callB call_len rfl nb.len_ bo_len (pa_cons (pv 0) pa_nil)) pe_int))
    (pss_cons (ps_set (i := 2) sc_row_of_steps.nd rfl (by first | exact Or.inl rfl | exact Or.inr rfl) (pe_lst pa_nil))
    (pss_cons (ps_for PassesOwn.never rfl (pi_enum rfl nb.enumerate_ (pv 0)) (pg_tup rfl (pgs_cons (pg_name (i := 3) sc_row_of_steps.nd rfl (by first | exact Or.inl rfl | exact Or.inr rfl)) (pgs_cons (pg_name (i := 4) sc_row_of_steps.nd rfl (by first | exact Or.inl rfl | exact Or.inr rfl)) pgs_nil)))
      (pss_cons (ps_set (i := 5) sc_row_of_steps.nd rfl (by first | exact Or.inl rfl | exact Or.inr rfl) (pe_ifExp (pt_cmpR oEq (pv 3) pe_int (nomark _)) (pe_callD D_whole_row hr (pa_cons (pv 4) pa_nil)) (pe_callD D_count_row hr (pa_cons (pe_op oSub (pv 4) pe_int) pa_nil))))
      (pss_cons (ps_set (i := 5) sc_row_of_steps.nd rfl (by first | exact Or.inl rfl | exact Or.inr rfl) (pe_op oAdd (pv 5) (pe_ifExp (pt_cmpR oEq (pv 3) (pv 1) (nomark _)) pe_str pe_str)))
      (pss_one (ps_expr (pe_bm PySem.F.plainAttrs_list PySem.F.slot_list_append PySem.F.type_list_append mt_append (pv 2) (pa_cons (pe_ifExp (pt_cmpR oEq (pe_op op_mod (pv 3) pe_int) pe_int (nomark _)) (pe_callD D_turned_row hr (pa_cons (pv 5) pa_nil)) (pv 5)) pa_nil)))))))
    (pss_one (ps_ret (pe_bm PySem.F.plainAttrs_str PySem.F.slot_str_join PySem.F.type_str_join mt_join pe_str (pa_cons (pv 2) pa_nil))))))), ?_⟩
  refine ⟨_, rfl, _, _, rfl, .inl ⟨_, SqL.of ha, rfl⟩, _, _, rfl, rfl, Nat.zero_le _, fun r hr2 => ?_⟩
  have sB := same_new (o := HO.lst []) hr2
  refine ⟨_, rfl, a, _, rfl, SqL.of (sB _ _ ha), ?_⟩
  refine for_enum (xs := s.map V.int) (fun i σ H2 => Same H H2 ∧ H2 r = some (.lst (((pcs 0 s).take i).map (fun p => V.str (rowS p)))) ∧ ∃ z1 z2 z3, σ = [some (.ref a), some (.int ((s.length : Nat) - 1 : Int)), some (.ref r), z1, z2, z3]) ?_ ?_ ?_ ?_
  · exact ⟨sB, upd_same, none, none, none, by dsimp only; rw [mI]; rfl⟩
  · rintro i σ H2 hi ⟨hs, _⟩; exact SqL.of (hs _ _ ha)
  · rintro i xv σ H2 T hx hT ⟨hs, er, z1, z2, z3, rfl⟩
    obtain ⟨x, hxs, rfl⟩ : ∃ x, s[i]? = some x ∧ xv = .int x := by
      rw [List.getElem?_map] at hx
      cases h : s[i]? with
      | none => rw [h] at hx; cases hx
      | some y => rw [h] at hx; exact ⟨y, rfl, (Option.some.inj hx).symm⟩
    have hi : i < s.length := (List.getElem?_eq_some_iff.mp hxs).1
    have hin := hR.at hxs
    have hpc := pcs_get (k := 0) hxs
    rw [Nat.zero_add] at hpc
    have hs2 := hs.trans (same_new (o := HO.tup [V.int ((i : Nat) : Int), V.int x]) hT)
    have er2 := same_new (o := HO.tup [V.int ((i : Nat) : Int), V.int x]) hT _ _ er
    refine ⟨T, _, rfl, SqT.of upd_same, rfl, _, _, rfl, _, _, rfl, rfl, ?_⟩
    refine ⟨_, rfl, rfl, _, rfl, ?_⟩
    by_cases hi0 : i = 0
    · rw [if_pos hi0] at hin
      have e0 : decide (V.int ((i : Nat) : Int) = V.int 0) = true := decide_eq_true (congrArg V.int (by omega))
      rw [e0]
      refine iteT ⟨_, rfl, x, rfl, hin, _, rfl, _, rfl, _, rfl, rfl, _, rfl, ?_⟩
      obtain ⟨x', ex'⟩ : ∃ x', x' = whl x := ⟨_, rfl⟩
      have ex : (if i = 0 then whl x else cnt (x - 1).toNat) = x' := by rw [if_pos hi0, ex']
      have lx : x'.length ≤ 270 := by rw [ex']; exact whl_length hin.1 hin.2
      rw [← ex']
      have lp : (x' ++ [!decide (i + 1 = s.length)]).length ≤ 271 := by rw [List.length_append, List.length_singleton]; omega
      refine iteD (fun c2 => ?_) (fun c2 => ?_)
      · -- the last one
        have el : i + 1 = s.length := by have := V.int.inj c2; omega
        have eb : [!decide (i + 1 = s.length)] = [false] := by rw [decide_eq_true el]; rfl
        refine .inr ⟨_, _, rfl, rfl, (by rw [s0, rowS_length, rowS_length]; exact small5 (by rw [List.length_singleton]; omega)), ?_⟩
        rw [s0, tail_turn, ← eb]
        refine ⟨_, rfl, .inl ⟨rfl, _, SqL.of er2⟩, _, rfl, _, _, rfl, rfl, (by show (0 : Int) < 2; decide), rfl, _, rfl, ?_⟩
        have happ : ∀ z : List V, z = ((pcs 0 s).take i).map (fun p => V.str (rowS p)) → z.length < sizeLine := fun z hz => by rw [hz, List.length_map, List.length_take]; exact Nat.lt_of_lt_of_le (show min i (pcs 0 s).length < 100001 by omega) (small5' (by decide))
        have fin : ∀ p : List Bool, p = piece i x (decide (i + 1 = s.length)) → ((pcs 0 s).take i).map (fun p => V.str (rowS p)) ++ [V.str (rowS p)] = ((pcs 0 s).take (i + 1)).map (fun p => V.str (rowS p)) := fun p hp => by rw [List.take_add_one, hpc, List.map_append, hp]; rfl
        refine iteD (fun c3 => ?_) (fun c3 => ?_)
        · have ho : odd i = true := decide_eq_true (by have := V.int.inj c3; omega)
          refine ⟨_, rfl, _, rfl, by omega, ?_⟩
          refine ⟨_, _, _, rfl, rfl, er2, happ _ rfl, ?_⟩
          rw [fin _ (by unfold piece; rw [ho, ex]; exact List.map_congr_left fun b _ => by cases b <;> rfl)]
          exact ⟨same_updr hs2 hr2, upd_same, _, _, _, rfl⟩
        · have ho : odd i = false := decide_eq_false (fun z => c3 (congrArg V.int (by omega)))
          refine ⟨_, rfl, ?_⟩
          refine ⟨_, _, _, rfl, rfl, er2, happ _ rfl, ?_⟩
          rw [fin _ (by unfold piece; rw [ho, ex, map_xorF])]
          exact ⟨same_updr hs2 hr2, upd_same, _, _, _, rfl⟩
      · have el : ¬ i + 1 = s.length := fun z => c2 (congrArg V.int (by omega))
        have eb : [!decide (i + 1 = s.length)] = [true] := by rw [decide_eq_false el]; rfl
        refine .inr ⟨_, _, rfl, rfl, (by rw [s1, rowS_length, rowS_length]; exact small5 (by rw [List.length_singleton]; omega)), ?_⟩
        rw [s1, tail_turn, ← eb]
        refine ⟨_, rfl, .inl ⟨rfl, _, SqL.of er2⟩, _, rfl, _, _, rfl, rfl, (by show (0 : Int) < 2; decide), rfl, _, rfl, ?_⟩
        have happ : ∀ z : List V, z = ((pcs 0 s).take i).map (fun p => V.str (rowS p)) → z.length < sizeLine := fun z hz => by rw [hz, List.length_map, List.length_take]; exact Nat.lt_of_lt_of_le (show min i (pcs 0 s).length < 100001 by omega) (small5' (by decide))
        have fin : ∀ p : List Bool, p = piece i x (decide (i + 1 = s.length)) → ((pcs 0 s).take i).map (fun p => V.str (rowS p)) ++ [V.str (rowS p)] = ((pcs 0 s).take (i + 1)).map (fun p => V.str (rowS p)) := fun p hp => by rw [List.take_add_one, hpc, List.map_append, hp]; rfl
        refine iteD (fun c3 => ?_) (fun c3 => ?_)
        · have ho : odd i = true := decide_eq_true (by have := V.int.inj c3; omega)
          refine ⟨_, rfl, _, rfl, by omega, ?_⟩
          refine ⟨_, _, _, rfl, rfl, er2, happ _ rfl, ?_⟩
          rw [fin _ (by unfold piece; rw [ho, ex]; exact List.map_congr_left fun b _ => by cases b <;> rfl)]
          exact ⟨same_updr hs2 hr2, upd_same, _, _, _, rfl⟩
        · have ho : odd i = false := decide_eq_false (fun z => c3 (congrArg V.int (by omega)))
          refine ⟨_, rfl, ?_⟩
          refine ⟨_, _, _, rfl, rfl, er2, happ _ rfl, ?_⟩
          rw [fin _ (by unfold piece; rw [ho, ex, map_xorF])]
          exact ⟨same_updr hs2 hr2, upd_same, _, _, _, rfl⟩
    · rw [if_neg hi0] at hin
      have e0 : decide (V.int ((i : Nat) : Int) = V.int 0) = false := decide_eq_false (fun z => hi0 (by have := V.int.inj z; omega))
      rw [e0]
      have hc1 := hin.1
      have hc2 := hin.2
      refine iteF ⟨_, rfl, _, _, rfl, rfl, (x - 1).toNat, (congrArg (fun y => [V.int y]) (by omega)), (by omega), _, rfl, _, rfl, _, rfl, rfl, _, rfl, ?_⟩
      obtain ⟨x', ex'⟩ : ∃ x', x' = cnt (x - 1).toNat := ⟨_, rfl⟩
      have ex : (if i = 0 then whl x else cnt (x - 1).toNat) = x' := by rw [if_neg hi0, ex']
      have lx : x'.length ≤ 270 := by rw [ex']; have := cnt_len5 (n := (x - 1).toNat) (by omega); omega
      rw [← ex']
      have lp : (x' ++ [!decide (i + 1 = s.length)]).length ≤ 271 := by rw [List.length_append, List.length_singleton]; omega
      refine iteD (fun c2 => ?_) (fun c2 => ?_)
      · -- the last one
        have el : i + 1 = s.length := by have := V.int.inj c2; omega
        have eb : [!decide (i + 1 = s.length)] = [false] := by rw [decide_eq_true el]; rfl
        refine .inr ⟨_, _, rfl, rfl, (by rw [s0, rowS_length, rowS_length]; exact small5 (by rw [List.length_singleton]; omega)), ?_⟩
        rw [s0, tail_turn, ← eb]
        refine ⟨_, rfl, .inl ⟨rfl, _, SqL.of er2⟩, _, rfl, _, _, rfl, rfl, (by show (0 : Int) < 2; decide), rfl, _, rfl, ?_⟩
        have happ : ∀ z : List V, z = ((pcs 0 s).take i).map (fun p => V.str (rowS p)) → z.length < sizeLine := fun z hz => by rw [hz, List.length_map, List.length_take]; exact Nat.lt_of_lt_of_le (show min i (pcs 0 s).length < 100001 by omega) (small5' (by decide))
        have fin : ∀ p : List Bool, p = piece i x (decide (i + 1 = s.length)) → ((pcs 0 s).take i).map (fun p => V.str (rowS p)) ++ [V.str (rowS p)] = ((pcs 0 s).take (i + 1)).map (fun p => V.str (rowS p)) := fun p hp => by rw [List.take_add_one, hpc, List.map_append, hp]; rfl
        refine iteD (fun c3 => ?_) (fun c3 => ?_)
        · have ho : odd i = true := decide_eq_true (by have := V.int.inj c3; omega)
          refine ⟨_, rfl, _, rfl, by omega, ?_⟩
          refine ⟨_, _, _, rfl, rfl, er2, happ _ rfl, ?_⟩
          rw [fin _ (by unfold piece; rw [ho, ex]; exact List.map_congr_left fun b _ => by cases b <;> rfl)]
          exact ⟨same_updr hs2 hr2, upd_same, _, _, _, rfl⟩
        · have ho : odd i = false := decide_eq_false (fun z => c3 (congrArg V.int (by omega)))
          refine ⟨_, rfl, ?_⟩
          refine ⟨_, _, _, rfl, rfl, er2, happ _ rfl, ?_⟩
          rw [fin _ (by unfold piece; rw [ho, ex, map_xorF])]
          exact ⟨same_updr hs2 hr2, upd_same, _, _, _, rfl⟩
      · have el : ¬ i + 1 = s.length := fun z => c2 (congrArg V.int (by omega))
        have eb : [!decide (i + 1 = s.length)] = [true] := by rw [decide_eq_false el]; rfl
        refine .inr ⟨_, _, rfl, rfl, (by rw [s1, rowS_length, rowS_length]; exact small5 (by rw [List.length_singleton]; omega)), ?_⟩
        rw [s1, tail_turn, ← eb]
        refine ⟨_, rfl, .inl ⟨rfl, _, SqL.of er2⟩, _, rfl, _, _, rfl, rfl, (by show (0 : Int) < 2; decide), rfl, _, rfl, ?_⟩
        have happ : ∀ z : List V, z = ((pcs 0 s).take i).map (fun p => V.str (rowS p)) → z.length < sizeLine := fun z hz => by rw [hz, List.length_map, List.length_take]; exact Nat.lt_of_lt_of_le (show min i (pcs 0 s).length < 100001 by omega) (small5' (by decide))
        have fin : ∀ p : List Bool, p = piece i x (decide (i + 1 = s.length)) → ((pcs 0 s).take i).map (fun p => V.str (rowS p)) ++ [V.str (rowS p)] = ((pcs 0 s).take (i + 1)).map (fun p => V.str (rowS p)) := fun p hp => by rw [List.take_add_one, hpc, List.map_append, hp]; rfl
        refine iteD (fun c3 => ?_) (fun c3 => ?_)
        · have ho : odd i = true := decide_eq_true (by have := V.int.inj c3; omega)
          refine ⟨_, rfl, _, rfl, by omega, ?_⟩
          refine ⟨_, _, _, rfl, rfl, er2, happ _ rfl, ?_⟩
          rw [fin _ (by unfold piece; rw [ho, ex]; exact List.map_congr_left fun b _ => by cases b <;> rfl)]
          exact ⟨same_updr hs2 hr2, upd_same, _, _, _, rfl⟩
        · have ho : odd i = false := decide_eq_false (fun z => c3 (congrArg V.int (by omega)))
          refine ⟨_, rfl, ?_⟩
          refine ⟨_, _, _, rfl, rfl, er2, happ _ rfl, ?_⟩
          rw [fin _ (by unfold piece; rw [ho, ex, map_xorF])]
          exact ⟨same_updr hs2 hr2, upd_same, _, _, _, rfl⟩
  · rintro σ H2 ⟨hs, er, z1, z2, z3, rfl⟩
    have et : (pcs 0 s).take (s.map V.int).length = pcs 0 s := by rw [mI, ← pcs_length 0 s, List.take_length]
    rw [et] at er
    obtain ⟨a0, s0', rfl⟩ := List.exists_cons_of_ne_nil hne
    have hlen : ∀ p ∈ pcs 0 (a0 :: s0'), p.length ≤ 271 := fun p hp => by
      obtain ⟨i, hi, rfl⟩ := List.mem_iff_getElem.mp hp
      have hi' : i < (a0 :: s0').length := by rw [← pcs_length 0 (a0 :: s0')]; exact hi
      have hg := pcs_get (k := 0) (List.getElem?_eq_getElem hi')
      rw [List.getElem?_eq_getElem hi, Nat.zero_add] at hg
      rw [Option.some.inj hg]
      exact piece_len (hR.at (List.getElem?_eq_getElem hi'))
    refine ⟨rfl, _, rfl, _, r, (pcs 0 (a0 :: s0')).map rowS, rfl, rfl, SqL.of (by rw [er, List.map_map]; rfl), ?_, H, .refl hs, ?_⟩
    · have := sum_len hlen
      have e0 : (Str.ofString "").length = 0 := by decide +kernel
      rw [e0, Nat.mul_zero, Nat.add_zero]
      rw [pcs_length] at this
      omega
    · rw [join_rows, pcs_all]; exact q
def spFracRow : Sp := fun vs H Q _ => ∃ (t : Addr) (p q : Int), vs = [.ref t] ∧ H t = some (.tup [.int p, .int q]) ∧ 0 < q ∧ (euc p q).length ≤ 10000 ∧ (∀ x ∈ euc p q, x.natAbs < 2 ^ 1000) ∧ cd p q = 1 ∧ RowIn (euc p q) ∧ Q (.str (rowS (frow (euc p q)))) H
def spFracRowBad (C : Addr) : Sp := fun vs H _ E => ∃ (t : Addr) (p q : Int), vs = [.ref t] ∧ H t = some (.tup [.int p, .int q]) ∧ (0 < q → (euc p q).length ≤ 100000 ∧ ∀ x ∈ euc p q, x.natAbs < 2 ^ 1000) ∧ ¬ (0 < q ∧ cd p q = 1 ∧ RowIn (euc p q)) ∧ E (.ref C) none H
theorem ok_fraction_row {f : Addr} {fd : FuncData} (F : FunAt K mg "fraction_row" s_fraction_row ["fraction"] f fd) (D_has_fraction_row : DefOk P w K mg base 3 "has_fraction_row" ["fraction"] spHasRow) (D_steps_of : DefOk P w K mg base 1 "steps_of" ["fraction"] spStepsOf) (D_row_of_steps : DefOk P w K mg base 4 "row_of_steps" ["steps"] spRowOf) : DefOk P w K mg base 5 "fraction_row" ["fraction"] spFracRow := by
  refine F.ok sc_fraction_row (fun vs H Q E h => ?_) (fun cdv A outer s H vs Q E hr h => ?_)
  · obtain ⟨t, p, q, rfl, _⟩ := h; rfl
  obtain ⟨t, p, q, rfl, ht, hq, hl, hz, hc, hR, hQ⟩ := h
  refine ⟨_, (pss_cons (ps_if (pt_not (pt_truth (pe_callD D_has_fraction_row hr (pa_cons (pv 0) pa_nil)) (fun _ => rfl))) (pss_one ps_never) pss_nil)
    (pss_one (ps_ret (pe_callD D_row_of_steps hr (pa_cons (pe_callD D_steps_of hr (pa_cons (pv 0) pa_nil)) pa_nil))))), ?_⟩
  refine ⟨_, rfl, t, p, q, rfl, ht, fun _ => ⟨by omega, hz⟩, _, rfl, ?_⟩
  rw [decide_eq_true ⟨hq, hc, hR⟩]
  refine iteF ⟨_, rfl, t, p, q, rfl, ht, Int.le_of_lt hq, by omega, hz, fun r hr2 => ?_⟩
  exact ⟨r, _, rfl, upd_same, by rw [euc_pos hq]; exact List.cons_ne_nil _ _, hl, hR, H, .refl (same_new hr2), hQ⟩
theorem bad_fraction_row {f C_NoFit : Addr} {fd : FuncData} (xi_NoFit : PySem.W.excIn K C_NoFit bmV "ValueError.__new__" = true) (gm_NoFit : mg "NoFit" = some (.ref C_NoFit)) (F : FunAt K mg "fraction_row" s_fraction_row ["fraction"] f fd) (D_has_fraction_row : DefOk P w K mg base 3 "has_fraction_row" ["fraction"] spHasRow) (D_steps_of : DefOk P w K mg base 1 "steps_of" ["fraction"] spStepsOf) (D_row_of_steps : DefOk P w K mg base 4 "row_of_steps" ["steps"] spRowOf) : DefOkE P w K mg base 5 "fraction_row" ["fraction"] (spFracRowBad C_NoFit) := by
  refine F.okE sc_fraction_row (fun vs H Q E h => ?_) (fun cdv A outer s H vs Q E hr h => ?_)
  · obtain ⟨t, p, q, rfl, _⟩ := h; rfl
  obtain ⟨t, p, q, rfl, ht, hb, hn, hE⟩ := h
  refine ⟨_, (pss_cons (ps_if (pt_not (pt_truth (pe_callD D_has_fraction_row hr (pa_cons (pv 0) pa_nil)) (fun _ => rfl))) (pss_one (ps_raise throws_fn xi_NoFit gm_NoFit hr.hd (pa_cons pe_str pa_nil))) pss_nil)
    (pss_one (ps_ret (pe_callD D_row_of_steps hr (pa_cons (pe_callD D_steps_of hr (pa_cons (pv 0) pa_nil)) pa_nil))))), ?_⟩
  refine ⟨_, rfl, t, p, q, rfl, ht, hb, _, rfl, ?_⟩
  rw [decide_eq_false hn]
  exact iteT ⟨(by show 1 ≤ sizeLine; decide), H, .refl (Same.refl _), hE⟩
structure St2 (H H2 : Hp) (p r : Addr) (o u : HO) : Prop where
  hp : H2 p = some o
  hr : H2 r = some u
  hs : ∀ b v, b ≠ p → H b = some v → H2 b = some v
theorem St2.free {H H2 : Hp} {p r b : Addr} {o u : HO} (h : St2 H H2 p r o u) (e : H2 b = none) : H b = none := by
  cases q : H b with
  | none => rfl
  | some v =>
    by_cases hb : b = p
    · subst hb; rw [h.hp] at e; cases e
    · rw [h.hs b v hb q] at e; cases e
/-! ### the law's own helpers -/
/-! ### the law's steps -/
def spMixed : Sp := fun vs H Q _ => ∃ c k : Int, vs = [.int c, .int k] ∧ ∀ v : Int, 0 ≤ v → v < 2147483587 → Q (.int v) H
theorem modb {a b : Int} (h : 0 < b) : 0 ≤ a % b ∧ a % b < b := ⟨Int.emod_nonneg _ (Int.ne_of_gt h), Int.emod_lt_of_pos _ h⟩
theorem ok_law_mixed {f : Addr} {fd : FuncData} (F : FunAt K mg "_law_mixed" s_law_mixed ["_law_cell", "_law_k"] f fd) : DefOk P w K mg base 1 "_law_mixed" ["_law_cell", "_law_k"] spMixed := by
  refine F.ok sc_law_mixed (fun vs H Q E h => ?_) (fun cdv A outer s H vs Q E hr h => ?_)
  · obtain ⟨c, k, rfl, _⟩ := h; rfl
  obtain ⟨c, k, rfl, q⟩ := h
  refine ⟨_, (pss_cons (ps_set (i := 2) sc_law_mixed.nd rfl (by first | exact Or.inl rfl | exact Or.inr rfl) (pe_op op_mod (pe_op oAdd (pe_op oAdd (pe_op oMul (pe_op op_mod (pv 0) pe_int) pe_int) (pe_op oMul (pv 1) pe_int)) pe_int) pe_int))
    (pss_cons (ps_set (i := 2) sc_law_mixed.nd rfl (by first | exact Or.inl rfl | exact Or.inr rfl) (pe_op op_mod (pe_op oMul (pv 2) (pv 2)) pe_int))
    (pss_one (ps_ret (pe_op op_mod (pe_op oMul (pv 2) (pv 2)) pe_int))))), ?_⟩
  refine ⟨_, rfl, _, _, rfl, rfl, (by show (0 : Int) < _; decide), .inl ⟨_, _, rfl, rfl, .inr ⟨by decide, by decide⟩, ?_⟩⟩
  refine ⟨_, rfl, .inl ⟨_, _, rfl, rfl, .inr ⟨by decide, by decide⟩, .inl ⟨_, _, rfl, rfl, .inl ⟨_, _, rfl, rfl, _, _, rfl, rfl, (by show (0 : Int) < _; decide), ?_⟩⟩⟩⟩
  obtain ⟨b1, b2⟩ := modb (a := (c % 2147483647 * 48271 + k * 69621 + 11)) (b := 2147483647) (by decide)
  generalize (c % 2147483647 * 48271 + k * 69621 + 11) % 2147483647 = n1 at b1 b2 ⊢
  refine ⟨_, rfl, _, rfl, .inl ⟨_, _, rfl, rfl, .inr ⟨by omega, by omega⟩, _, _, rfl, rfl, (by show (0 : Int) < _; decide), ?_⟩⟩
  obtain ⟨b3, b4⟩ := modb (a := n1 * n1) (b := 2147483629) (by decide)
  generalize n1 * n1 % 2147483629 = n2 at b3 b4 ⊢
  refine ⟨_, rfl, _, rfl, .inl ⟨_, _, rfl, rfl, .inr ⟨by omega, by omega⟩, _, _, rfl, rfl, (by show (0 : Int) < _; decide), H, .refl (Same.refl _), ?_⟩⟩
  exact q _ (modb (by decide)).1 (modb (by decide)).2
theorem at2 {α : Type} (x y : α) (r : Int) : atI [x, y] (r % 2) = some (if r % 2 = 0 then x else y) := by
  have h : r % 2 = 0 ∨ r % 2 = 1 := by omega
  rcases h with h | h
  · rw [h]; exact atI_nat (j := 0) rfl
  · rw [h]; exact atI_nat (j := 1) rfl
theorem at2I (x y : Int) (r : Int) : atI [V.int x, V.int y] (r % 2) = some (.int (if r % 2 = 0 then x else y)) := by
  rw [at2]; split <;> rfl
/-- steps under way: all behind the first from one on -/
structure Way (d : List Int) (n : Nat) : Prop where
  ne : d ≠ []
  len : d.length ≤ n
  tl : ∀ x ∈ d.tail, 1 ≤ x
  sz : ∀ x ∈ d, x.natAbs < 2 ^ 250
theorem Way.one {a : Int} (h : a.natAbs < 2 ^ 250) : Way [a] 1 := ⟨List.cons_ne_nil _ _, Nat.le_refl _, (fun x hx => nomatch hx), fun x hx => by rw [List.mem_singleton.mp hx]; exact h⟩
/-! ### what an error is -/
structure Cs where
  (n s w l f t a b tw k : Addr)
structure Nms (mg : Str → Option Value) (c : Cs) : Prop where
  gn : GlobV mg "NoFit" (.ref c.n)
  gs : GlobV mg "Short" (.ref c.s)
  gw : GlobV mg "Wrong" (.ref c.w)
  gl : GlobV mg "Left" (.ref c.l)
  gf : GlobV mg "NoForm" (.ref c.f)
  gt : GlobV mg "NoText" (.ref c.t)
  ga : GlobV mg "NotAhead" (.ref c.a)
  gb : GlobV mg "BadPage" (.ref c.b)
  g2 : GlobV mg "Twice" (.ref c.tw)
  gk : GlobV mg "Lacking" (.ref c.k)
structure Kits (K : PySem.W.Frag) (c : Cs) (C : Addr) (bs : List Bool) : Prop where
  xc : ExcC K C
  ks : ∃ b1 b2 b3 b4 b5 b6 b7 b8 b9 b10 : Bool, bs = [b1, b2, b3, b4, b5, b6, b7, b8, b9, b10, true] ∧ PySem.W.kitOne K (.ref C) (.ref c.n) = some b1 ∧ PySem.W.kitOne K (.ref C) (.ref c.s) = some b2 ∧ PySem.W.kitOne K (.ref C) (.ref c.w) = some b3 ∧ PySem.W.kitOne K (.ref C) (.ref c.l) = some b4 ∧
    PySem.W.kitOne K (.ref C) (.ref c.f) = some b5 ∧ PySem.W.kitOne K (.ref C) (.ref c.t) = some b6 ∧ PySem.W.kitOne K (.ref C) (.ref c.a) = some b7 ∧ PySem.W.kitOne K (.ref C) (.ref c.b) = some b8 ∧ PySem.W.kitOne K (.ref C) (.ref c.tw) = some b9 ∧ PySem.W.kitOne K (.ref C) (.ref c.k) = some b10 ∧ PySem.W.kitOne K (.ref C) (.type "ValueError") = some true
def alone : List Bool → Bool
  | [b1, b2, b3, b4, b5, b6, b7, b8, b9, b10, _] => ([b1, b5, b6, b7, b8, b9, b10, b2, b3, b4].filter id).length == 1
  | _ => false
def spAlone (K : PySem.W.Frag) (c : Cs) (cR : Addr) : Sp := fun vs H Q _ => ∃ a C d bs, vs = [.ref a] ∧ H a = some (ExcO a C d) ∧ (d = none ∨ ∃ dx fs, d = some dx ∧ H dx = some (.xd fs)) ∧ Kits K c C bs ∧ PySem.W.kitOne K (.ref C) (.ref cR) = some true ∧ alone bs = true ∧ Q (.bl true) H
theorem ok_law_alone {f cR : Addr} {c : Cs} {fd : FuncData} (nb : NB mg) (nbV : mg "ValueError" = none) (X : Nms mg c) (gc_RiseError : GlobV mg "RiseError" (.ref cR)) (F : FunAt K mg "_law_alone" s_law_alone ["_law_error"] f fd) : DefOk P w K mg base 1 "_law_alone" ["_law_error"] (spAlone K c cR) := by
  obtain ⟨gc_NoFit, gc_Short, gc_Wrong, gc_Left, gc_NoForm, gc_NoText, gc_NotAhead, gc_BadPage, gc_Twice, gc_Lacking⟩ := X
  refine F.ok sc_law_alone (fun vs H Q E h => ?_) (fun cdv A outer s H vs Q E hr h => ?_)
  · obtain ⟨a, C, d, bs, rfl, _⟩ := h; rfl
  obtain ⟨a, C, d, bs, rfl, ha, hd, ⟨xc, b1, b2, b3, b4, b5, b6, b7, b8, b9, b10, rfl, k1, k2, k3, k4, k5, k6, k7, k8, k9, k10, kV⟩, kR, al, q⟩ := h
  refine ⟨_, (pss_cons (ps_if (PW.pt (pw_or (pt_not (pt_truth (pe_callB call_isinstX rfl nb.isinstance_ bo_isinstance (pa_cons (pv 0) (pa_cons (pe_globV gc_RiseError) pa_nil))) (fun _ => rfl))) (pw_or1 (pt_not (pt_truth (pe_callB call_isinstX rfl nb.isinstance_ bo_isinstance (pa_cons (pv 0) (pa_cons (pe_bltn (v := .ty "ValueError") rfl nbV bo_ValueError rfl) pa_nil))) (fun _ => rfl)))))) (pss_one (ps_ret pe_bl)) pss_nil)
    (pss_cons (ps_set (i := 1) sc_law_alone.nd rfl (by first | exact Or.inl rfl | exact Or.inr rfl) (pe_lst (pa_cons (pe_callB call_isinstX rfl nb.isinstance_ bo_isinstance (pa_cons (pv 0) (pa_cons (pe_globV gc_NoFit) pa_nil))) (pa_cons (pe_callB call_isinstX rfl nb.isinstance_ bo_isinstance (pa_cons (pv 0) (pa_cons (pe_globV gc_NoForm) pa_nil))) (pa_cons (pe_callB call_isinstX rfl nb.isinstance_ bo_isinstance (pa_cons (pv 0) (pa_cons (pe_globV gc_NoText) pa_nil))) pa_nil)))))
    (pss_cons (ps_set (i := 1) sc_law_alone.nd rfl (by first | exact Or.inl rfl | exact Or.inr rfl) (pe_op op_cat (pv 1) (pe_lst (pa_cons (pe_callB call_isinstX rfl nb.isinstance_ bo_isinstance (pa_cons (pv 0) (pa_cons (pe_globV gc_NotAhead) pa_nil))) (pa_cons (pe_callB call_isinstX rfl nb.isinstance_ bo_isinstance (pa_cons (pv 0) (pa_cons (pe_globV gc_BadPage) pa_nil))) (pa_cons (pe_callB call_isinstX rfl nb.isinstance_ bo_isinstance (pa_cons (pv 0) (pa_cons (pe_globV gc_Twice) pa_nil))) pa_nil))))))
    (pss_cons (ps_set (i := 1) sc_law_alone.nd rfl (by first | exact Or.inl rfl | exact Or.inr rfl) (pe_op op_cat (pv 1) (pe_lst (pa_cons (pe_callB call_isinstX rfl nb.isinstance_ bo_isinstance (pa_cons (pv 0) (pa_cons (pe_globV gc_Lacking) pa_nil))) (pa_cons (pe_callB call_isinstX rfl nb.isinstance_ bo_isinstance (pa_cons (pv 0) (pa_cons (pe_globV gc_Short) pa_nil))) (pa_cons (pe_callB call_isinstX rfl nb.isinstance_ bo_isinstance (pa_cons (pv 0) (pa_cons (pe_globV gc_Wrong) pa_nil))) pa_nil))))))
    (pss_cons (ps_set (i := 1) sc_law_alone.nd rfl (by first | exact Or.inl rfl | exact Or.inr rfl) (pe_op op_cat (pv 1) (pe_lst (pa_cons (pe_callB call_isinstX rfl nb.isinstance_ bo_isinstance (pa_cons (pv 0) (pa_cons (pe_globV gc_Left) pa_nil))) pa_nil))))
    (pss_one (ps_ret (pe_cmpR oEq (pe_callB call_len rfl nb.len_ bo_len (pa_cons (pe_comp ["_law_one"] [] rfl (by decide +kernel) trivial (piAll (pv 1)) (fun _ _ _ _ _ => (pg_name (i := 0) (show (["_law_one"] : List Str).Nodup by decide +kernel) rfl (by first | exact Or.inl rfl | exact Or.inr rfl))) (fun _ _ _ _ _ => (pts_one (pt_truth (pv 0) (fun _ => rfl)))) (fun _ _ _ _ _ => (pv 0))) pa_nil)) pe_int (nomark _))))))))), ?_⟩
  have kr : ∀ {D : Addr} {b : Bool}, PySem.W.kitOne K (.ref C) (.ref D) = some b → ∀ cv, RelV (.ref D) cv → PySem.W.kitOne K (.ref C) cv = some b := fun {D b} h cv r => by
    obtain rfl : cv = .ref D := r
    exact h
  have kv : ∀ cv, RelV (.ty "ValueError") cv → PySem.W.kitOne K (.ref C) cv = some true := fun cv r => by
    obtain rfl : cv = .type "ValueError" := r
    exact kV
  have dS : ∀ {H' : Hp}, Same H H' → (d = none ∨ ∃ dx fs, d = some dx ∧ H' dx = some (.xd fs)) := fun {H'} hs => by
    rcases hd with z | ⟨dx, fs, z, e⟩
    · exact .inl z
    · exact .inr ⟨dx, fs, z, hs _ _ e⟩
  refine ⟨_, rfl, a, C, d, _, true, rfl, ha, xc, hd, kr kR, _, rfl, iteF ⟨_, rfl, a, C, d, _, true, rfl, ha, xc, hd, kv, _, rfl, iteF ?_⟩⟩
  refine ⟨_, rfl, a, C, d, _, b1, rfl, ha, xc, hd, kr k1, ?_⟩
  refine ⟨_, rfl, a, C, d, _, b5, rfl, ha, xc, hd, kr k5, ?_⟩
  refine ⟨_, rfl, a, C, d, _, b6, rfl, ha, xc, hd, kr k6, ?_⟩
  refine ⟨(by show 3 ≤ sizeLine; decide), fun r1 h1 => ?_⟩
  have s1' := same_new (o := HO.lst [V.bl b1, .bl b5, .bl b6]) h1
  have ha1 := s1' _ _ ha
  refine ⟨_, rfl, _, rfl, a, C, d, _, b7, rfl, ha1, xc, dS s1', kr k7, ?_⟩
  refine ⟨_, rfl, a, C, d, _, b8, rfl, ha1, xc, dS s1', kr k8, ?_⟩
  refine ⟨_, rfl, a, C, d, _, b9, rfl, ha1, xc, dS s1', kr k9, ?_⟩
  refine ⟨(by show 3 ≤ sizeLine; decide), fun r2 h2 => ?_⟩
  have s2' := same_new (o := HO.lst [V.bl b7, .bl b8, .bl b9]) h2
  refine ⟨r1, r2, _, _, rfl, rfl, s2' _ _ upd_same, upd_same, (by show 3 + 3 ≤ sizeLine; decide), fun r3 h3 => ?_⟩
  have s3' := same_new (o := HO.lst ([V.bl b1, .bl b5, .bl b6] ++ [V.bl b7, .bl b8, .bl b9])) h3
  have t3 := (s1'.trans s2').trans s3'
  have ha3 := t3 _ _ ha
  refine ⟨_, rfl, _, rfl, a, C, d, _, b10, rfl, ha3, xc, dS t3, kr k10, ?_⟩
  refine ⟨_, rfl, a, C, d, _, b2, rfl, ha3, xc, dS t3, kr k2, ?_⟩
  refine ⟨_, rfl, a, C, d, _, b3, rfl, ha3, xc, dS t3, kr k3, ?_⟩
  refine ⟨(by show 3 ≤ sizeLine; decide), fun r4 h4 => ?_⟩
  have s4' := same_new (o := HO.lst [V.bl b10, .bl b2, .bl b3]) h4
  refine ⟨r3, r4, _, _, rfl, rfl, s4' _ _ upd_same, upd_same, (by show 6 + 3 ≤ sizeLine; decide), fun r5 h5 => ?_⟩
  have s5' := same_new (o := HO.lst (([V.bl b1, .bl b5, .bl b6] ++ [V.bl b7, .bl b8, .bl b9]) ++ [V.bl b10, .bl b2, .bl b3])) h5
  have t5 := (t3.trans s4').trans s5'
  have ha5 := t5 _ _ ha
  refine ⟨_, rfl, _, rfl, a, C, d, _, b4, rfl, ha5, xc, dS t5, kr k4, ?_⟩
  refine ⟨(by show 1 ≤ sizeLine; decide), fun r6 h6 => ?_⟩
  have s6' := same_new (o := HO.lst [V.bl b4]) h6
  refine ⟨r5, r6, _, _, rfl, rfl, s6' _ _ upd_same, upd_same, (by show 9 + 1 ≤ sizeLine; decide), fun r7 h7 => ?_⟩
  have s7' := same_new (o := HO.lst ((([V.bl b1, .bl b5, .bl b6] ++ [V.bl b7, .bl b8, .bl b9]) ++ [V.bl b10, .bl b2, .bl b3]) ++ [V.bl b4])) h7
  have t7 := (t5.trans s6').trans s7'
  refine .inl ⟨_, rfl, _, rfl, ⟨_, SqL.of upd_same⟩, fun D hD => ?_⟩
  refine comp_filter (xs := [b1, b5, b6, b7, b8, b9, b10, b2, b3, b4].map V.bl) (fun x => match x with | .bl b => b | _ => false) id (fun σ => σ.length = 1) (by show 10 ≤ sizeLine; decide) rfl hD (SqL.of upd_same) ?_ ?_
  · rintro x hx σ1 H1 hS hs1 R R' hR
    obtain ⟨b, _, rfl⟩ := List.mem_map.mp hx
    obtain ⟨z, rfl⟩ := one_slot hS
    refine ⟨_, rfl, b, rfl, ?_⟩
    have := hR [some (.bl b)] rfl
    cases b with
    | true => exact iteT ⟨_, rfl, this⟩
    | false => exact iteF this
  · refine ⟨_, _, rfl, .inl ⟨_, SqL.of upd_same, rfl⟩, rfl, H, .refl (t7.trans (same_new hD)), ?_⟩
    have e : (List.map id (List.filter (fun x => match x with | .bl b => b | _ => false) ([b1, b5, b6, b7, b8, b9, b10, b2, b3, b4].map V.bl))).length = 1 := by
      rw [List.map_id, List.filter_map, List.length_map]
      exact beq_iff_eq.mp al
    rw [e]
    exact q

theorem euc_len : ∀ (k : Nat) {p q : Int}, 0 ≤ q → q < 2 ^ k → (euc p q).length ≤ 2 * k + 1 := by
  intro k
  induction k with
  | zero =>
    intro p q h0 h1
    have : q = 0 := by omega
    subst this
    rw [euc_zero]; exact Nat.zero_le _
  | succ k ih =>
    intro p q h0 h1
    by_cases hq : q = 0
    · subst hq; rw [euc_zero]; exact Nat.zero_le _
    · have hq : 0 < q := by omega
      rw [euc_pos hq, List.length_cons]
      have r0 := Int.emod_nonneg p (Int.ne_of_gt hq)
      have r1 := Int.emod_lt_of_pos p hq
      generalize p % q = r at r0 r1
      by_cases hr : r = 0
      · subst hr; rw [euc_zero]; simp
      · have hr : 0 < r := by omega
        rw [euc_pos hr, List.length_cons]
        have t0 := Int.emod_nonneg q (Int.ne_of_gt hr)
        have t1 := Int.emod_lt_of_pos q hr
        have t2 := Int.mul_ediv_add_emod q r
        have t3 : 1 ≤ q / r := Int.le_ediv_of_mul_le hr (by omega)
        have t4 : r * 1 ≤ r * (q / r) := Int.mul_le_mul_of_nonneg_left t3 (by omega)
        have e : (2 : Int) ^ (k + 1) = 2 ^ k * 2 := Int.pow_succ ..
        have := ih (p := r) (q := q % r) t0 (by omega)
        omega
theorem euc_size {B : Int} : ∀ (n : Nat) {p q : Int}, q.toNat ≤ n → 0 ≤ q → -B ≤ p → p ≤ B → q ≤ B → ∀ x ∈ euc p q, -B ≤ x ∧ x ≤ B := by
  intro n
  induction n with
  | zero =>
    intro p q h0 h1 _ _ _ x hx
    have : q = 0 := by omega
    subst this
    rw [euc_zero] at hx; cases hx
  | succ n ih =>
    intro p q h0 h1 h2 h3 h4 x hx
    by_cases hq : q = 0
    · subst hq; rw [euc_zero] at hx; cases hx
    · have hq : 0 < q := by omega
      rw [euc_pos hq] at hx
      rcases List.mem_cons.mp hx with z | z
      · subst z
        constructor
        · refine Int.le_ediv_of_mul_le hq ?_
          have : -B * q ≤ -B * 1 := Int.mul_le_mul_of_nonpos_left (by omega) (by omega)
          omega
        · refine Int.ediv_le_of_le_mul hq ?_
          have : B * 1 ≤ B * q := Int.mul_le_mul_of_nonneg_left (by omega) (by omega)
          omega
      · have r0 := Int.emod_nonneg p (Int.ne_of_gt hq)
        have r1 := Int.emod_lt_of_pos p hq
        exact ih (by omega) r0 (by omega) h4 (by omega) x z
def Bd2 (x y : Int) : Prop := x.natAbs < 2 ^ 390 ∧ y.natAbs < 2 ^ 390
theorem Bd2.ok {p q : Int} (h : Bd2 p q) (hq : 0 < q) : (euc p q).length ≤ 10000 ∧ ∀ x ∈ euc p q, x.natAbs < 2 ^ 1000 := by
  obtain ⟨h1, h2⟩ := h
  have e : ((2 ^ 390 : Nat) : Int) = (2 : Int) ^ 390 := by rw [Int.natCast_pow]; rfl
  have hq2 : q < 2 ^ 390 := by omega
  refine ⟨Nat.le_trans (euc_len 390 (Int.le_of_lt hq) hq2) (by decide), fun x hx => ?_⟩
  have := euc_size (B := 2 ^ 390) q.toNat (Nat.le_refl _) (Int.le_of_lt hq) (by omega) (by omega) (by omega) x hx
  exact Nat.lt_of_le_of_lt (m := 2 ^ 390) (by omega) (Nat.pow_lt_pow_right (by decide) (by decide))
def spEdge : Sp := fun vs H Q _ => ∃ n : Int, vs = [.int n] ∧ 0 ≤ n ∧ ∀ E : Int, 0 ≤ E → E < 2 ^ 256 → Q (.int E) H
theorem ok_law_edge {f : Addr} {fd : FuncData} (F : FunAt K mg "_law_edge" s_law_edge ["_law_number"] f fd) : DefOk P w K mg base 1 "_law_edge" ["_law_number"] spEdge := by
  refine F.ok sc_law_edge (fun vs H Q E h => ?_) (fun cdv A outer s H vs Q E hr h => ?_)
  · obtain ⟨n, rfl, _⟩ := h; rfl
  obtain ⟨n, rfl, hn, q⟩ := h
  refine ⟨_, (pss_cons (ps_set (i := 1) sc_law_edge.nd rfl (by first | exact Or.inl rfl | exact Or.inr rfl) (pe_op oAdd (pe_op oSub (pe_op op_shl pe_int pe_int) pe_int) (pe_op op_mod (pe_op op_fdiv (pv 0) pe_int) pe_int)))
    (pss_cons (ps_if (pt_cmpR oEq (pe_op op_mod (pv 0) pe_int) pe_int (nomark _)) (pss_one (ps_set (i := 1) sc_law_edge.nd rfl (by first | exact Or.inl rfl | exact Or.inr rfl) (pe_op oAdd (pe_op op_shl pe_int pe_int) (pe_op op_mod (pv 0) (pe_op op_pow pe_int pe_int))))) pss_nil)
    (pss_one (ps_ret (pv 1))))), ?_⟩
  have p255 : CPow 1 255 := ⟨by decide, by decide, by decide⟩
  have v255 : (1 : Int) * 2 ^ (255 : Int).toNat = 2 ^ 255 := by decide +kernel
  refine ⟨_, _, rfl, rfl, p255, _, _, rfl, rfl, _, rfl, _, _, rfl, rfl, ⟨by decide, by decide⟩, _, _, rfl, rfl, (by show (0 : Int) < 5; decide), .inl ⟨_, _, rfl, rfl, ?_⟩⟩
  refine ⟨_, rfl, _, _, rfl, rfl, (by show (0 : Int) < 3; decide), rfl, _, rfl, ?_⟩
  refine iteD (fun c => ?_) (fun c => ?_)
  · refine ⟨_, _, rfl, rfl, p255, _, rfl, _, _, rfl, rfl, ⟨by decide, by decide, by decide⟩, _, _, rfl, rfl, (by show (0 : Int) < _; decide), .inl ⟨_, _, rfl, rfl, ?_⟩⟩
    have hm := modb (a := n) (b := 10 ^ (9 : Int).toNat) (by decide)
    refine ⟨_, rfl, H, .refl (Same.refl _), q _ ?_ ?_⟩
    · rw [v255]; have := hm.1; omega
    · rw [v255]; have h2 := hm.2; have e9 : (10 : Int) ^ (9 : Int).toNat = 10 ^ 9 := rfl; rw [e9] at h2 ⊢; omega
  · refine ⟨_, rfl, H, .refl (Same.refl _), q _ ?_ ?_⟩
    · rw [v255]; omega
    · rw [v255]; omega
def spTwo : Sp := fun vs H Q _ => ∀ x y, Bd2 x y → ∀ r, H r = none → Q (.ref r) (upd H r (.tup [.int x, .int y]))
def spFreeTwo : Sp := fun vs H Q E => ∃ n : Int, vs = [.int n] ∧ spTwo vs H Q E
def spLawTwo : Sp := fun vs H Q E => ∃ n k : Int, vs = [.int n, .int k] ∧ spTwo vs H Q E
theorem bd2 {x : Int} (h1 : -(10 ^ 110) ≤ x) (h2 : x ≤ 10 ^ 110) : x.natAbs < 2 ^ 390 := by
  have h3 : x.natAbs ≤ 10 ^ 110 := by omega
  exact Nat.lt_of_le_of_lt h3 (by decide +kernel)
theorem ok_law_free_two {f : Addr} {fd : FuncData} (F : FunAt K mg "_law_free_two" s_law_free_two ["_law_rest"] f fd) : DefOk P w K mg base 1 "_law_free_two" ["_law_rest"] spFreeTwo := by
  refine F.ok sc_law_free_two (fun vs H Q E h => ?_) (fun cdv A outer s H vs Q E hr h => ?_)
  · obtain ⟨n, rfl, _⟩ := h; rfl
  obtain ⟨n, rfl, q⟩ := h
  refine ⟨_, (pss_cons (ps_set (i := 1) sc_law_free_two.nd rfl (by first | exact Or.inl rfl | exact Or.inr rfl) (pe_ix iAll (pe_lst (pa_cons pe_int (pa_cons (pe_op op_pow pe_int pe_int) pa_nil))) (pe_op op_mod (pv 0) pe_int) (fun _ _ => rfl)))
    (pss_cons (ps_set (i := 0) sc_law_free_two.nd rfl (by first | exact Or.inl rfl | exact Or.inr rfl) (pe_op op_fdivB (pv 0) pe_int))
    (pss_cons (ps_set (i := 2) sc_law_free_two.nd rfl (by first | exact Or.inl rfl | exact Or.inr rfl) (pe_op oSub (pe_op op_mod (pv 0) (pe_op oAdd (pe_op oMul pe_int (pv 1)) pe_int)) (pv 1)))
    (pss_one (ps_ret (pe_tup (pa_cons (pv 2) (pa_cons (pe_op oSub (pe_op op_mod (pe_op op_fdivB (pv 0) (pe_op oAdd (pe_op oMul pe_int (pv 1)) pe_int)) (pe_op oAdd (pv 1) pe_int)) pe_int) pa_nil)))))))), ?_⟩
  refine ⟨_, _, rfl, rfl, ⟨by decide, by decide, by decide⟩, (by show 2 ≤ sizeLine; decide), fun g0 hg0 => ?_⟩
  refine ⟨_, rfl, _, _, rfl, rfl, (by show (0 : Int) < 2; decide), .inl (.inl ⟨_, _, _, _, rfl, rfl, SqL.of upd_same, at2I _ _ _, ?_⟩)⟩
  obtain ⟨G, hG⟩ : ∃ G : Int, G = if n % 2 = 0 then (10 : Int) else (10 : Int) ^ (30 : Int).toNat := ⟨_, rfl⟩
  rw [← hG]
  have G1 : 1 ≤ G ∧ G ≤ 10 ^ 30 := by rw [hG]; split <;> exact ⟨by decide, by decide⟩
  clear hG
  refine ⟨_, rfl, _, _, rfl, rfl, ⟨by decide, .inl (by decide)⟩, ?_⟩
  refine ⟨_, rfl, _, rfl, .inl ⟨_, _, rfl, rfl, .inl ⟨by decide, by decide⟩, .inl ⟨_, _, rfl, rfl, _, _, rfl, rfl, (by show (0 : Int) < _; omega), _, rfl, _, _, rfl, rfl, ?_⟩⟩⟩
  have hm := modb (a := n / 2) (b := 2 * G + 1) (by omega)
  refine ⟨_, rfl, _, rfl, _, rfl, .inl ⟨_, _, rfl, rfl, .inl ⟨by decide, by decide⟩, .inl ⟨_, _, rfl, rfl, _, _, rfl, rfl, ⟨by omega, .inl (Nat.le_trans (bits_lt (k := 240) (by omega)) (by decide))⟩, _, rfl, .inl ⟨_, _, rfl, rfl, _, _, rfl, rfl, (by show (0 : Int) < _; omega), _, _, rfl, rfl, (by show 2 ≤ sizeLine; decide), fun r hr2 => ?_⟩⟩⟩⟩
  have hm2 := modb (a := n / 2 / (2 * G + 1)) (b := G + 3) (by omega)
  have s0' := same_new (o := HO.lst [V.int 10, V.int ((10 : Int) ^ (30 : Int).toNat)]) hg0
  exact ⟨_, .new (s0'.free hr2) (s0'.trans (same_new hr2)) upd_same trivial, q _ _ ⟨bd2 (by omega) (by omega), bd2 (by omega) (by omega)⟩ r (s0'.free hr2)⟩
theorem two_edge {E : Int} (h0 : 0 ≤ E) (h1 : E < 2 ^ 256) : E.natAbs < 2 ^ 390 := Nat.lt_of_lt_of_le (m := 2 ^ 256) (by omega) (Nat.pow_le_pow_right (by decide) (by decide))
theorem v98 : (10 : Int) ^ (49 : Int).toNat * 10 ^ (49 : Int).toNat = 10 ^ 98 := by decide +kernel
theorem bits49' : Builtin.Int.intBits (10 ^ (49 : Int).toNat) ≤ 2 ^ 20 := by decide +kernel
theorem at4I' (x y z u : Int) (r : Int) : ∃ v, atI [V.int x, V.int y, V.int z, V.int u] (r % 4) = some (.int v) ∧ (v = x ∨ v = y ∨ v = z ∨ v = u) := by
  have h : r % 4 = 0 ∨ r % 4 = 1 ∨ r % 4 = 2 ∨ r % 4 = 3 := by omega
  rcases h with h | h | h | h
  · rw [h]; exact ⟨x, atI_nat (j := 0) rfl, .inl rfl⟩
  · rw [h]; exact ⟨y, atI_nat (j := 1) rfl, .inr (.inl rfl)⟩
  · rw [h]; exact ⟨z, atI_nat (j := 2) rfl, .inr (.inr (.inl rfl))⟩
  · rw [h]; exact ⟨u, atI_nat (j := 3) rfl, .inr (.inr (.inr rfl))⟩
theorem at3I (x y z : Int) (c : Int) : ∃ v, atI [V.int x, V.int y, V.int z] (c % 3) = some (.int v) ∧ (v = x ∨ v = y ∨ v = z) := by
  have h : c % 3 = 0 ∨ c % 3 = 1 ∨ c % 3 = 2 := by omega
  rcases h with h | h | h
  · rw [h]; exact ⟨x, atI_nat (j := 0) rfl, .inl rfl⟩
  · rw [h]; exact ⟨y, atI_nat (j := 1) rfl, .inr (.inl rfl)⟩
  · rw [h]; exact ⟨z, atI_nat (j := 2) rfl, .inr (.inr rfl)⟩
theorem mul_bd {x y : Int} {a b : Nat} (hx : x.natAbs < 2 ^ a) (hy : y.natAbs < 2 ^ b) : (x * y).natAbs < 2 ^ (a + b) := by
  rw [Int.natAbs_mul, Nat.pow_add]
  exact Nat.mul_lt_mul'' hx hy
theorem ok_law_two {f : Addr} {fd : FuncData} (F : FunAt K mg "_law_two" s_law_two ["_law_cell", "_law_k"] f fd) (D_law_free_two : DefOk P w K mg base 1 "_law_free_two" ["_law_rest"] spFreeTwo) (D_law_mixed : DefOk P w K mg base 1 "_law_mixed" ["_law_cell", "_law_k"] spMixed) (D_law_edge : DefOk P w K mg base 1 "_law_edge" ["_law_number"] spEdge) : DefOk P w K mg base 2 "_law_two" ["_law_cell", "_law_k"] spLawTwo := by
  refine F.ok sc_law_two (fun vs H Q E h => ?_) (fun cdv A outer s H vs Q E hr h => ?_)
  · obtain ⟨n, k, rfl, _⟩ := h; rfl
  obtain ⟨c, k, rfl, q⟩ := h
  refine ⟨_, (pss_cons (ps_if (pt_cmpR oEq (pe_op op_mod (pv 0) pe_int) pe_int (nomark _)) (pss_one (ps_ret (pe_callD D_law_free_two hr (pa_cons (pe_op op_fdiv (pv 0) pe_int) pa_nil)))) pss_nil)
    (pss_cons (ps_set (i := 2) sc_law_two.nd rfl (by first | exact Or.inl rfl | exact Or.inr rfl) (pe_callD D_law_mixed hr (pa_cons (pv 0) (pa_cons (pv 1) pa_nil))))
    (pss_cons (ps_set (i := 3) sc_law_two.nd rfl (by first | exact Or.inl rfl | exact Or.inr rfl) (pe_op oAdd (pv 0) (pe_op op_mulB (pe_op op_mulB (pe_op op_mulB (pv 2) (pe_callD D_law_mixed hr (pa_cons (pv 0) (pa_cons (pe_op oAdd (pv 1) pe_int) pa_nil)))) (pe_callD D_law_mixed hr (pa_cons (pv 0) (pa_cons (pe_op oAdd (pv 1) pe_int) pa_nil)))) (pe_callD D_law_mixed hr (pa_cons (pv 0) (pa_cons (pe_op oAdd (pv 1) pe_int) pa_nil))))))
    (pss_cons (ps_set (i := 4) sc_law_two.nd rfl (by first | exact Or.inl rfl | exact Or.inr rfl) (pe_op op_mod (pe_callD D_law_mixed hr (pa_cons (pv 0) (pa_cons (pe_op oAdd (pv 1) pe_int) pa_nil))) pe_int))
    (pss_cons (ps_if (pt_cmpR oEq (pv 4) pe_int (nomark _)) (pss_one (ps_ret (pe_tup (pa_cons (pe_callD D_law_edge hr (pa_cons (pv 2) pa_nil)) (pa_cons pe_int pa_nil))))) pss_nil)
    (pss_cons (ps_if (pt_cmpR oEq (pv 4) pe_int (nomark _)) (pss_one (ps_ret (pe_tup (pa_cons (pe_op oSub pe_int (pe_callD D_law_edge hr (pa_cons (pv 2) pa_nil))) (pa_cons pe_int pa_nil))))) pss_nil)
    (pss_cons (ps_if (pt_cmpR oEq (pv 4) pe_int (nomark _)) (pss_one (ps_ret (pe_tup (pa_cons pe_int (pa_cons (pe_callD D_law_edge hr (pa_cons (pv 2) pa_nil)) pa_nil))))) pss_nil)
    (pss_cons (ps_if (pt_cmpR oEq (pv 4) pe_int (nomark _)) (pss_one (ps_ret (pe_tup (pa_cons (pe_op oAdd (pe_op op_mulB pe_int (pe_callD D_law_edge hr (pa_cons (pv 2) pa_nil))) pe_int) (pa_cons pe_int pa_nil))))) pss_nil)
    (pss_cons (ps_set (i := 5) sc_law_two.nd rfl (by first | exact Or.inl rfl | exact Or.inr rfl) (pe_op oSub (pe_op op_mod (pv 3) (pe_ix iAll (pe_lst (pa_cons pe_int (pa_cons pe_int (pa_cons (pe_op op_pow pe_int pe_int) (pa_cons (pe_op op_mulB (pe_op op_pow pe_int pe_int) (pe_op op_pow pe_int pe_int)) pa_nil))))) (pe_op op_mod (pv 2) pe_int) (fun _ _ => rfl))) (pe_op op_mod (pe_op op_fdiv (pv 2) pe_int) pe_int)))
    (pss_cons (ps_set (i := 6) sc_law_two.nd rfl (by first | exact Or.inl rfl | exact Or.inr rfl) (pe_op oAdd pe_int (pe_op op_mod (pe_op op_fdiv (pv 3) pe_int) (pe_ix iAll (pe_lst (pa_cons pe_int (pa_cons pe_int (pa_cons (pe_op op_pow pe_int pe_int) pa_nil)))) (pe_op op_mod (pe_op op_fdiv (pv 2) pe_int) pe_int) (fun _ _ => rfl)))))
    (pss_cons (ps_if (pt_cmpR oEq (pv 4) pe_int (nomark _)) (pss_one (ps_ret (pe_tup (pa_cons (pv 5) (pa_cons pe_int pa_nil))))) pss_nil)
    (pss_cons (ps_if (pt_cmpR oEq (pv 4) pe_int (nomark _)) (pss_one (ps_ret (pe_tup (pa_cons (pv 5) (pa_cons (pe_op oSub pe_int (pv 6)) pa_nil))))) pss_nil)
    (pss_cons (ps_if (pt_cmpR oEq (pv 4) pe_int (nomark _)) (pss_one (ps_ret (pe_tup (pa_cons (pe_op op_mulB (pv 5) (pe_op oAdd pe_int (pe_op op_mod (pv 2) pe_int))) (pa_cons (pe_op op_mulB (pv 6) (pe_op oAdd pe_int (pe_op op_mod (pv 2) pe_int))) pa_nil))))) pss_nil)
    (pss_one (ps_ret (pe_tup (pa_cons (pv 5) (pa_cons (pv 6) pa_nil)))))))))))))))))), ?_⟩
  have two : 2 ≤ sizeLine := by decide
  have fin : ∀ {H2 : Hp}, Same H H2 → ∀ {x y : Int}, Bd2 x y → ∀ r, H2 r = none → ∃ H'', Sub H H'' (upd H2 r (.tup [.int x, .int y])) ∧ Q (.ref r) H'' := fun {H2} hs x y hb r hr2 =>
    ⟨_, .new (hs.free hr2) (hs.trans (same_new hr2)) upd_same trivial, q x y hb r (hs.free hr2)⟩
  refine ⟨_, rfl, _, _, rfl, rfl, (by show (0 : Int) < 2; decide), rfl, _, rfl, ?_⟩
  refine iteD (fun c0 => ?_) (fun c0 => ?_)
  · exact ⟨_, rfl, _, _, rfl, rfl, ⟨by decide, by decide⟩, _, rfl, fun x y hb r hr2 => fin (Same.refl _) hb r hr2⟩
  have mb : ∀ m : Int, 0 ≤ m → m < 2147483587 → Builtin.Int.intBits m ≤ 2 ^ 20 := fun m h1 h2 => Nat.le_trans (bits_lt (k := 40) (by omega)) (by decide)
  have ma : ∀ m : Int, 0 ≤ m → m < 2147483587 → m.natAbs < 2 ^ 40 := fun m h1 h2 => by omega
  refine ⟨_, rfl, _, rfl, _, _, rfl, fun n hn0 hn1 => ?_⟩
  refine ⟨_, rfl, _, rfl, _, rfl, _, rfl, .inl ⟨_, _, rfl, rfl, _, _, rfl, fun m1 a1 b1 => ⟨_, _, rfl, rfl, ⟨mb n hn0 hn1, mb m1 a1 b1⟩, ?_⟩⟩⟩
  have e1 := mul_bd (ma n hn0 hn1) (ma m1 a1 b1)
  refine ⟨_, rfl, _, rfl, .inl ⟨_, _, rfl, rfl, _, _, rfl, fun m2 a2 b2 => ⟨_, _, rfl, rfl, ⟨Nat.le_trans (bits_lt e1) (by decide), mb m2 a2 b2⟩, ?_⟩⟩⟩
  have e2 := mul_bd e1 (ma m2 a2 b2)
  refine ⟨_, rfl, _, rfl, .inl ⟨_, _, rfl, rfl, _, _, rfl, fun m3 a3 b3 => ⟨_, _, rfl, rfl, ⟨Nat.le_trans (bits_lt e2) (by decide), mb m3 a3 b3⟩, .inl ⟨_, _, rfl, rfl, ?_⟩⟩⟩⟩
  refine ⟨_, rfl, _, rfl, .inl ⟨_, _, rfl, rfl, _, _, rfl, fun m4 a4 b4 => ⟨_, _, rfl, rfl, (by show (0 : Int) < 8; decide), ?_⟩⟩⟩
  have one1 : (1 : Int).natAbs < 2 ^ 390 := bd2 (by decide) (by decide)
  refine ⟨_, rfl, rfl, _, rfl, iteD (fun c1 => ?_) (fun c1 => ?_)⟩
  · exact ⟨_, rfl, n, rfl, hn0, fun E h0 h1 => ⟨two, fin (Same.refl _) ⟨two_edge h0 h1, one1⟩⟩⟩
  refine ⟨_, rfl, rfl, _, rfl, iteD (fun c2 => ?_) (fun c2 => ?_)⟩
  · exact ⟨_, rfl, n, rfl, hn0, fun E h0 h1 => ⟨_, _, rfl, rfl, two, fin (Same.refl _) ⟨by have := two_edge h0 h1; rw [Int.zero_sub, Int.natAbs_neg]; exact this, one1⟩⟩⟩
  refine ⟨_, rfl, rfl, _, rfl, iteD (fun c3 => ?_) (fun c3 => ?_)⟩
  · exact ⟨_, rfl, n, rfl, hn0, fun E h0 h1 => ⟨two, fin (Same.refl _) ⟨one1, two_edge h0 h1⟩⟩⟩
  refine ⟨_, rfl, rfl, _, rfl, iteD (fun c4 => ?_) (fun c4 => ?_)⟩
  · refine ⟨_, rfl, n, rfl, hn0, fun E h0 h1 => ⟨_, _, rfl, rfl, ⟨by decide, Nat.le_trans (bits_lt (k := 256) (by omega)) (by decide)⟩, .inl ⟨_, _, rfl, rfl, two, fin (Same.refl _) ⟨?_, bd2 (by decide) (by decide)⟩⟩⟩⟩
    exact Nat.lt_of_lt_of_le (m := 2 ^ 258) (by omega) (Nat.pow_le_pow_right (by decide) (by decide))
  refine ⟨_, rfl, _, _, rfl, rfl, ⟨by decide, by decide, by decide⟩, _, _, rfl, rfl, ⟨by decide, by decide, by decide⟩, _, _, rfl, rfl, ⟨by decide, by decide, by decide⟩, _, _, rfl, rfl, ⟨bits49', bits49'⟩, (by show 4 ≤ sizeLine; decide), fun g1 hg1 => ?_⟩
  obtain ⟨v1, hv1, hvv1⟩ := at4I' 7 100 (10 ^ (40 : Int).toNat) (10 ^ (49 : Int).toNat * 10 ^ (49 : Int).toNat) n
  have hv1b : 1 ≤ v1 ∧ v1 ≤ 10 ^ 98 := by
    rw [v98] at hvv1
    rcases hvv1 with rfl | rfl | rfl | rfl <;> exact ⟨by decide, by decide⟩
  have s1' := same_new (o := HO.lst [V.int 7, V.int 100, V.int (10 ^ (40 : Int).toNat), V.int (10 ^ (49 : Int).toNat * 10 ^ (49 : Int).toNat)]) hg1
  refine ⟨_, rfl, _, _, rfl, rfl, (by show (0 : Int) < 4; decide), .inl (.inl ⟨_, _, _, _, rfl, rfl, SqL.of upd_same, hv1, _, _, rfl, rfl, (by omega), _, rfl, _, _, rfl, rfl, ⟨by decide, by decide⟩, _, _, rfl, rfl, (by show (0 : Int) < 4; decide), _, _, rfl, rfl, ?_⟩)⟩
  have ht := modb (a := c + n * m1 * m2 * m3) (b := v1) (by omega)
  have htb : ((c + n * m1 * m2 * m3) % v1 - n / 4 % 4).natAbs < 2 ^ 340 := by
    have : ((c + n * m1 * m2 * m3) % v1 - n / 4 % 4).natAbs ≤ 10 ^ 98 + 4 := by omega
    exact Nat.lt_of_le_of_lt this (by decide +kernel)
  refine ⟨_, rfl, _, _, rfl, rfl, ⟨by decide, by decide⟩, _, _, rfl, rfl, ⟨by decide, by decide, by decide⟩, (by show 3 ≤ sizeLine; decide), fun g2 hg2 => ?_⟩
  obtain ⟨v2, hv2, hvv2⟩ := at3I 7 100 (10 ^ (40 : Int).toNat) (n / 16)
  have hv2b : 1 ≤ v2 ∧ v2 ≤ 10 ^ 40 := by
    rcases hvv2 with rfl | rfl | rfl <;> exact ⟨by decide, by decide⟩
  have s2' := s1'.trans (same_new (o := HO.lst [V.int 7, V.int 100, V.int (10 ^ (40 : Int).toNat)]) hg2)
  refine ⟨_, rfl, _, _, rfl, rfl, ⟨by decide, by decide⟩, _, _, rfl, rfl, (by show (0 : Int) < 3; decide), .inl (.inl ⟨_, _, _, _, rfl, rfl, SqL.of upd_same, hv2, _, _, rfl, rfl, (by omega), .inl ⟨_, _, rfl, rfl, ?_⟩⟩)⟩
  have hbo := modb (a := (c + n * m1 * m2 * m3) / 7) (b := v2) (by omega)
  have hbb : (1 + (c + n * m1 * m2 * m3) / 7 % v2).natAbs < 2 ^ 140 := by
    have : (1 + (c + n * m1 * m2 * m3) / 7 % v2).natAbs ≤ 10 ^ 40 + 1 := by omega
    exact Nat.lt_of_le_of_lt this (by decide +kernel)
  have up : ∀ {x : Int} {a : Nat}, x.natAbs < 2 ^ a → a ≤ 390 → x.natAbs < 2 ^ 390 := fun h ha => Nat.lt_of_lt_of_le h (Nat.pow_le_pow_right (by decide) ha)
  refine ⟨_, rfl, rfl, _, rfl, iteD (fun c5 => ?_) (fun c5 => ?_)⟩
  · exact ⟨_, rfl, two, fin s2' ⟨up htb (by decide), bd2 (by decide) (by decide)⟩⟩
  refine ⟨_, rfl, rfl, _, rfl, iteD (fun c6 => ?_) (fun c6 => ?_)⟩
  · exact ⟨_, rfl, _, rfl, _, _, rfl, rfl, two, fin s2' ⟨up htb (by decide), by rw [Int.zero_sub, Int.natAbs_neg]; exact up hbb (by decide)⟩⟩
  have h25 : (2 + n % 5).natAbs < 2 ^ 4 := by omega
  refine ⟨_, rfl, rfl, _, rfl, iteD (fun c7 => ?_) (fun c7 => ?_)⟩
  · exact ⟨_, rfl, _, rfl, _, _, rfl, rfl, (by show (0 : Int) < 5; decide), .inl ⟨_, _, rfl, rfl, _, _, rfl, rfl, ⟨Nat.le_trans (bits_lt htb) (by decide), Nat.le_trans (bits_lt h25) (by decide)⟩, _, rfl, _, rfl, _, _, rfl, rfl, (by show (0 : Int) < 5; decide), .inl ⟨_, _, rfl, rfl, _, _, rfl, rfl, ⟨Nat.le_trans (bits_lt hbb) (by decide), Nat.le_trans (bits_lt h25) (by decide)⟩, two, fin s2' ⟨up (mul_bd htb h25) (by decide), up (mul_bd hbb h25) (by decide)⟩⟩⟩⟩
  · exact ⟨_, rfl, _, rfl, two, fin s2' ⟨up htb (by decide), up hbb (by decide)⟩⟩
def Row16 (p q : Int) : Prop := 0 < q ∧ cd p q = 1 ∧ RowIn (euc p q)
instance (p q : Int) : Decidable (Row16 p q) := inferInstanceAs (Decidable (_ ∧ _))
def Rest16 (x y : Int) : Prop := cd x y = 1 ∧ ∀ z ∈ euc x y, CountIn (z - 1)
instance (p q : Int) : Decidable (Rest16 p q) := inferInstanceAs (Decidable (_ ∧ _))
def spGood16 : Sp := fun vs H Q _ => ∃ p q : Int, vs = [.int p, .int q] ∧ Bd2 p q ∧ Q (.bl (decide (Row16 p q))) H
theorem row16 {p q : Int} (h : 0 < q) : Row16 p q ↔ WholeIn (p / q) ∧ Rest16 q (p % q) := by
  unfold Row16 Rest16 RowIn
  rw [euc_pos h, cd_pos h]
  constructor
  · rintro ⟨_, h1, h2, h3⟩
    exact ⟨h2 _ (List.mem_singleton.mpr rfl), h1, h3⟩
  · rintro ⟨h2, h1, h3⟩
    exact ⟨h, h1, fun x hx => by rw [List.mem_singleton.mp hx]; exact h2, h3⟩
theorem rest16 {x y : Int} (h : 0 < y) : Rest16 x y ↔ CountIn (x / y - 1) ∧ Rest16 y (x % y) := by
  unfold Rest16
  rw [euc_pos h, cd_pos h]
  constructor
  · rintro ⟨h1, h2⟩
    exact ⟨h2 _ (List.mem_cons_self ..), h1, fun z hz => h2 z (List.mem_cons_of_mem _ hz)⟩
  · rintro ⟨h1, h2, h3⟩
    exact ⟨h2, fun z hz => by rcases List.mem_cons.mp hz with e | e; (· rw [e]; exact h1); exact h3 z e⟩
theorem ok_law_good16 {f : Addr} {fd : FuncData} (nb : NB mg) (F : FunAt K mg "_law_good" s_law_good ["_law_top", "_law_bottom"] f fd) : DefOk P w K mg base 1 "_law_good" ["_law_top", "_law_bottom"] spGood16 := by
  refine F.ok sc_law_good (fun vs H Q E h => ?_) (fun cdv A outer s H vs Q E hr h => ?_)
  · obtain ⟨p, q, rfl, _⟩ := h; rfl
  obtain ⟨p, q, rfl, ⟨hb1, hb2⟩, hQ⟩ := h
  refine ⟨_, (pss_cons (ps_if (pt_cmpR oLt (pv 1) pe_int (nomark _)) (pss_one (ps_ret pe_bl)) pss_nil)
    (pss_cons (ps_set (i := 2) sc_law_good.nd rfl (by first | exact Or.inl rfl | exact Or.inr rfl) (pe_callB (call_max2 rfl) rfl nb.max_ bo_max (pa_cons (pe_op op_fdivB (pv 0) (pv 1)) (pa_cons (pe_op oSub (pe_un un_neg pe_int) (pe_op op_fdivB (pv 0) (pv 1))) pa_nil))))
    (pss_cons (ps_if (pt_cmpR oGt (pv 2) (pe_op oSub (pe_op op_shl pe_int pe_int) pe_int) (nomark _)) (pss_one (ps_ret pe_bl)) pss_nil)
    (pss_cons (ps_set (i := 0) sc_law_good.nd rfl (by first | exact Or.inl rfl | exact Or.inr rfl) (pe_op op_mod (pv 0) (pv 1)))
    (pss_cons (ps_while PassesOwn.never (pt_cmpR oGt (pv 0) pe_int (nomark _))
      (pss_cons (ps_if (pt_cmpR oGt (pe_op op_fdivB (pv 1) (pv 0)) (pe_op oSub (pe_op op_shl pe_int pe_int) pe_int) (nomark _)) (pss_one (ps_ret pe_bl)) pss_nil)
      (pss_one (ps_par (i := 0) (j := 1) rfl sc_law_good.nd rfl rfl (by decide) rfl rfl (pa_cons (pe_op op_mod (pv 1) (pv 0)) (pa_cons (pv 0) pa_nil)) rfl))))
    (pss_one (ps_ret (pe_cmpR oEq (pv 1) pe_int (nomark _))))))))), ?_⟩
  have p255 : CPow 1 255 := ⟨by decide, by decide, by decide⟩
  have v255 : (1 : Int) * 2 ^ (255 : Int).toNat = 2 ^ 255 := by decide +kernel
  have bb : ∀ {x : Int}, x.natAbs < 2 ^ 390 → Builtin.Int.intBits x ≤ 9000 := fun h => Nat.le_trans (bits_lt h) (by decide)
  refine ⟨_, rfl, .inl ⟨_, _, rfl, rfl, _, rfl, ?_⟩⟩
  refine iteD (fun c => ?_) (fun c => ?_)
  · refine ⟨H, .refl (Same.refl _), ?_⟩
    rw [decide_eq_false (fun z => by have := z.1; omega)] at hQ
    exact hQ
  have hq : 0 < q := by omega
  refine ⟨_, rfl, _, rfl, _, _, rfl, rfl, ⟨hq, .inl (bb hb2)⟩, _, rfl, _, rfl, _, rfl, _, _, rfl, rfl, ⟨hq, .inl (bb hb2)⟩, _, _, rfl, rfl, _, _, rfl, ?_⟩
  refine ⟨_, rfl, _, _, rfl, rfl, p255, _, _, rfl, rfl, _, _, rfl, rfl, _, rfl, ?_⟩
  rw [v255]
  refine iteD (fun c1 => ?_) (fun c1 => ?_)
  · refine ⟨H, .refl (Same.refl _), ?_⟩
    rw [decide_eq_false (fun z => by have := ((row16 hq).mp z).1; unfold WholeIn at this; split at c1 <;> omega)] at hQ
    exact hQ
  have hw : WholeIn (p / q) := by unfold WholeIn; split at c1 <;> omega
  have r0 := Int.emod_nonneg p (Int.ne_of_gt hq)
  have r1 := Int.emod_lt_of_pos p hq
  refine ⟨_, rfl, _, rfl, _, _, rfl, rfl, hq, ?_⟩
  refine ⟨fun m σ H2 => ∃ (x y : Int) (z : Option V), 0 ≤ y ∧ y < x ∧ x.natAbs < 2 ^ 390 ∧ m = y.toNat ∧ (Row16 p q ↔ Rest16 x y) ∧ σ = [some (.int y), some (.int x), z] ∧ H2 = H,
    ⟨(p % q).toNat, q, p % q, _, r0, r1, hb2, rfl, ⟨fun z => ((row16 hq).mp z).2, fun z => (row16 hq).mpr ⟨hw, z⟩⟩, rfl, rfl⟩, ?_⟩
  rintro m σ H2 ⟨x, y, z, hy0, hyx, hxb, rfl, hiff, rfl, rfl⟩
  refine ⟨_, rfl, _, _, rfl, rfl, _, rfl, ?_⟩
  refine iteD (fun c2 => ?_) (fun c2 => ?_)
  · have hy : 0 < y := c2
    have hyb : y.natAbs < 2 ^ 390 := by omega
    have t3 : 1 ≤ x / y := Int.le_ediv_of_mul_le hy (by omega)
    refine ⟨fun σ' H' => ∃ m', m' < y.toNat ∧ ∃ (x y : Int) (z : Option V), 0 ≤ y ∧ y < x ∧ x.natAbs < 2 ^ 390 ∧ m' = y.toNat ∧ (Row16 p q ↔ Rest16 x y) ∧ σ' = [some (.int y), some (.int x), z] ∧ H' = H2, fun _ _ h => h, ?_⟩
    refine ⟨_, rfl, _, rfl, _, _, rfl, rfl, ⟨hy, .inl (bb hyb)⟩, _, _, rfl, rfl, p255, _, _, rfl, rfl, _, _, rfl, rfl, _, rfl, ?_⟩
    rw [v255]
    refine iteD (fun c3 => ?_) (fun c3 => ?_)
    · refine ⟨H2, .refl (Same.refl _), ?_⟩
      rw [decide_eq_false (fun z => by have := ((rest16 hy).mp (hiff.mp z)).1; unfold CountIn at this; omega)] at hQ
      exact hQ
    · have hc : CountIn (x / y - 1) := by unfold CountIn; omega
      have s0 := Int.emod_nonneg x (Int.ne_of_gt hy)
      have s1 := Int.emod_lt_of_pos x hy
      refine ⟨_, rfl, _, rfl, _, _, rfl, rfl, hy, _, rfl, _, _, rfl, ?_⟩
      exact ⟨(x % y).toNat, by omega, y, x % y, _, s0, s1, hyb, rfl, ⟨fun z => ((rest16 hy).mp (hiff.mp z)).2, fun z => hiff.mpr ((rest16 hy).mpr ⟨hc, z⟩)⟩, rfl, rfl⟩
  · have hy : y = 0 := by omega
    subst hy
    refine ⟨_, rfl, rfl, H2, .refl (Same.refl _), ?_⟩
    have e : decide (V.int x = V.int 1) = decide (Row16 p q) := decide_eq_decide.mpr (by
      rw [hiff]
      unfold Rest16
      rw [cd_zero, euc_zero]
      exact ⟨fun z => ⟨V.int.inj z, fun z h => nomatch h⟩, fun z => congrArg V.int z.1⟩)
    rw [e]; exact hQ
def spLaw (K : PySem.W.Frag) : Sp := fun vs H Q _ => ∃ (a : Addr) (ns : List Int), vs = [.ref a] ∧ SqL K H a (ns.map V.int) ∧ ns.length ≤ 63 ∧ ∀ H', Q (.bl true) H'
theorem ok_law {f C cR : Addr} {c : Cs} {fd : FuncData} (gm_NoFit : mg "NoFit" = some (.ref C)) (xc_NoFit : ExcC K C) (xt_NoFit : PySem.W.typeIn K (.ref C) = some (.type "type")) (hm : PySem.W.mroIn K C (.ref C) = some true) {bs : List Bool} (kS : Kits K c C bs) (hal : alone bs = true) (kR : PySem.W.kitOne K (.ref C) (.ref cR) = some true)
    (nb : NB mg) (F : Fun K "law" "law" s_law f fd) (D_law_two : DefOk P w K mg base 2 "_law_two" ["_law_cell", "_law_k"] spLawTwo) (D_fraction_row : DefOk P w K mg base 5 "fraction_row" ["fraction"] spFracRow) (DB_fraction_row : DefOkE P w K mg base 5 "fraction_row" ["fraction"] (spFracRowBad C))
    (D_law_good : DefOk P w K mg base 1 "_law_good" ["_law_top", "_law_bottom"] spGood16) (D_law_alone : DefOk P w K mg base 1 "_law_alone" ["_law_error"] (spAlone K c cR)) :
    FnOk P w K mg base CX0 6 f fd ["_law_script"] (spLaw K) := by
  refine F.okK sc_law (fun vs H Q E h => ?_) (fun cdv A outer s H vs Q E hr h => ?_)
  · obtain ⟨a, ns, rfl, _⟩ := h; rfl
  obtain ⟨a, ns, rfl, hS, hl, q⟩ := h
  obtain ⟨EH, hEH⟩ : ∃ EH : St → XK, EH = fun σ c d H' => ∃ z1 x y, ¬ Row16 x y ∧ Bd2 x y ∧ σ = [some (.ref a), z1, some (.int x), some (.int y), some .non, some .non, none] ∧ c = .ref C ∧ d = none ∧ Same H H' := ⟨_, rfl⟩
  refine ⟨_, (pss_cons (ps_for PassesOwn.never rfl (pi_range1 rfl nb.range_ (pa_cons (pe_callB call_len rfl nb.len_ bo_len (pa_cons (pe_slice slAll (pv 0) po_none (po_some pe_int)) pa_nil)) pa_nil)) (pg_name (i := 1) sc_law.nd rfl (by first | exact Or.inl rfl | exact Or.inr rfl))
      (pss_cons (ps_asg (pe_callD D_law_two hr (pa_cons (pe_ix iAll (pv 0) (pv 1) (fun _ _ => rfl)) (pa_cons (pv 1) pa_nil))) (pg_tup rfl (pgs_cons (pg_name (i := 2) sc_law.nd rfl (by first | exact Or.inl rfl | exact Or.inr rfl)) (pgs_cons (pg_name (i := 3) sc_law.nd rfl (by first | exact Or.inl rfl | exact Or.inr rfl)) pgs_nil))))
      (pss_cons (ps_set (i := 4) sc_law.nd rfl (by first | exact Or.inl rfl | exact Or.inr rfl) pe_non)
      (pss_cons (ps_set (i := 5) sc_law.nd rfl (by first | exact Or.inl rfl | exact Or.inr rfl) pe_non)
      (pss_cons (ps_try (i := 6) (Eh := EH) (fun _ => (pss_one (ps_set (i := 4) sc_law.nd rfl (by first | exact Or.inl rfl | exact Or.inr rfl) (pe_callE2 D_fraction_row DB_fraction_row hr passes_try (pa_cons (pe_tup (pa_cons (pv 2) (pa_cons (pv 3) pa_nil))) pa_nil)))))
        (fun _ _ => (pss_one (ps_set (i := 5) sc_law.nd rfl (by first | exact Or.inl rfl | exact Or.inr rfl) (pv 6)))) gm_NoFit xc_NoFit xt_NoFit sc_law.nd)
      (pss_one (ps_if (pt_truth (pe_callD D_law_good hr (pa_cons (pv 2) (pa_cons (pv 3) pa_nil))) (fun _ => rfl)) (pss_one (ps_if (PW.pt (pw_or (pt_cmpR op_notN (pv 5) pe_non (nomark _)) (pw_or1 (pt_not (pt_truth (pe_callB call_isinstA rfl nb.isinstance_ bo_isinstance (pa_cons (pv 4) (pa_cons (pe_bltn (v := .ty "str") rfl nb.str_ bo_str rfl) pa_nil))) (fun _ => rfl)))))) (pss_one (ps_ret pe_bl)) pss_nil)) (pss_one (ps_if (pt_not (pt_truth (pe_callD D_law_alone hr (pa_cons (pv 5) pa_nil)) (fun _ => rfl))) (pss_one (ps_ret pe_bl)) pss_nil)))))))))
    (pss_one (ps_ret pe_bl))), ?_⟩
  refine ⟨_, rfl, _, rfl, .inl ⟨a, _, rfl, hS, fun p hp => ⟨_, _, rfl, .inl ⟨_, SqL.of upd_same, rfl⟩, ?_⟩⟩⟩
  have hcut := cutV_length (ns.map V.int) none (some 63)
  rw [mI] at hcut
  refine ⟨_, rfl, by omega, by omega, ?_⟩
  refine for_range (fun i σ H2 => Same H H2 ∧ ∃ z1 z2 z3 z4 z5, σ = [some (.ref a), z1, z2, z3, z4, z5, none]) ?_ ?_ ?_
  · exact ⟨same_new hp, _, _, _, _, _, rfl⟩
  · rintro i σ H2 hi ⟨hs, z1, z2, z3, z4, z5, rfl⟩
    rw [Int.zero_add]
    have hi2 : i < ns.length := by omega
    have e0 : atI (ns.map V.int) ((i : Nat) : Int) = some (.int (ns[i]'hi2)) := atI_nat (by rw [List.getElem?_map, List.getElem?_eq_getElem hi2]; rfl)
    refine ⟨_, rfl, _, rfl, .inl (.inl ⟨_, _, _, _, rfl, rfl, hs.seq hS, e0, ?_⟩)⟩
    refine ⟨_, rfl, _, _, rfl, fun x y hb r hr2 => ?_⟩
    have hs1 := hs.trans (same_new (o := HO.tup [V.int x, V.int y]) hr2)
    refine ⟨r, _, rfl, SqT.of upd_same, rfl, _, _, rfl, _, _, rfl, rfl, ?_⟩
    refine ⟨?_, fun σ' C' d H' ex hE hx => ?_⟩
    · refine ⟨_, rfl, _, rfl, (by show 2 ≤ sizeLine; decide), fun r2 hr3 => ?_⟩
      have hs2 := hs1.trans (same_new (o := HO.tup [V.int x, V.int y]) hr3)
      by_cases hR : Row16 x y
      · obtain ⟨hlen, hsz⟩ := hb.ok hR.1
        refine .inl ⟨r2, x, y, rfl, upd_same, hR.1, hlen, hsz, hR.2.1, hR.2.2, ?_⟩
        refine ⟨_, rfl, _, rfl, x, y, rfl, hb, _, rfl, ?_⟩
        rw [decide_eq_true hR]
        refine iteT ⟨_, rfl, rfl, _, rfl, iteF ⟨_, rfl, .inl ⟨_, _, _, true, rfl, .str _, kit_same .., true, rfl, iteF ?_⟩⟩⟩
        exact ⟨hs2, _, _, _, _, _, rfl⟩
      · refine .inr ⟨r2, x, y, rfl, upd_same, fun h => ⟨Nat.le_trans (hb.ok h).1 (by decide), (hb.ok h).2⟩, hR, ?_⟩
        subst hEH
        exact ⟨_, x, y, hR, hb, rfl, rfl, rfl, hs2⟩
    · subst hEH
      obtain ⟨z1', x', y', hR, hb', rfl, hc, rfl, hs3⟩ := hE
      injection hc with hc
      subst hc
      have hs4 := hs3.trans (same_new (o := ExcO ex C' none) hx)
      refine ⟨hm, ⟨_, rfl, ?_⟩⟩
      refine ⟨_, rfl, _, rfl, x', y', rfl, hb', _, rfl, ?_⟩
      rw [decide_eq_false hR]
      refine iteF ⟨_, rfl, ex, C', none, bs, rfl, upd_same, .inl rfl, kS, kR, hal, _, rfl, iteF ?_⟩
      exact ⟨hs4, _, _, _, _, _, rfl⟩
  · rintro σ H2 ⟨hs, z1, z2, z3, z4, z5, rfl⟩
    exact ⟨H, .refl hs, q _⟩
theorem ex1 (us : List Value) (hl : us.length = 1) : ∃ a : Value, us = [a] := match us, hl with | [a], _ => ⟨a, rfl⟩
theorem ex2 (us : List Value) (hl : us.length = 2) : ∃ a b : Value, us = [a, b] := match us, hl with | [a, b], _ => ⟨a, b, rfl⟩
theorem all_mk {l : PySem.W.OpenLaw} {w : World} {K : PySem.W.Frag} {h : Heap} {mg : Str → Option Value} {fa : Addr} (X : K.In h) (G : h.Ns mainGlobals mg) (hfa : mg "law" = some (.ref fa))
    {C_RiseError : Addr} {C_NoFit : Addr} {C_Short : Addr} {C_Wrong : Addr} {C_Left : Addr} {C_NoForm : Addr} {C_NoText : Addr} {C_NotAhead : Addr} {C_BadPage : Addr} {C_Twice : Addr} {C_Lacking : Addr} {f_turned_row : Addr} {od_turned_row an_turned_row : Option Addr} {sl_turned_row : Array (Option Value)} {oc_turned_row kV_turned_row dc_turned_row pm_turned_row cd_turned_row ct_turned_row : Value} {f_lower_digits : Addr} {od_lower_digits an_lower_digits : Option Addr} {sl_lower_digits : Array (Option Value)} {oc_lower_digits kV_lower_digits dc_lower_digits pm_lower_digits cd_lower_digits ct_lower_digits : Value} {f_is_count : Addr} {od_is_count an_is_count : Option Addr} {sl_is_count : Array (Option Value)} {oc_is_count kV_is_count dc_is_count pm_is_count cd_is_count ct_is_count : Value} {f_has_whole_row : Addr} {od_has_whole_row an_has_whole_row : Option Addr} {sl_has_whole_row : Array (Option Value)} {oc_has_whole_row kV_has_whole_row dc_has_whole_row pm_has_whole_row cd_has_whole_row ct_has_whole_row : Value} {f_count_row : Addr} {od_count_row an_count_row : Option Addr} {sl_count_row : Array (Option Value)} {oc_count_row kV_count_row dc_count_row pm_count_row cd_count_row ct_count_row : Value} {f_whole_row : Addr} {od_whole_row an_whole_row : Option Addr} {sl_whole_row : Array (Option Value)} {oc_whole_row kV_whole_row dc_whole_row pm_whole_row cd_whole_row ct_whole_row : Value} {f_steps_of : Addr} {od_steps_of an_steps_of : Option Addr} {sl_steps_of : Array (Option Value)} {oc_steps_of kV_steps_of dc_steps_of pm_steps_of cd_steps_of ct_steps_of : Value} {f_common_divisor : Addr} {od_common_divisor an_common_divisor : Option Addr} {sl_common_divisor : Array (Option Value)} {oc_common_divisor kV_common_divisor dc_common_divisor pm_common_divisor cd_common_divisor ct_common_divisor : Value} {f_is_fraction : Addr} {od_is_fraction an_is_fraction : Option Addr} {sl_is_fraction : Array (Option Value)} {oc_is_fraction kV_is_fraction dc_is_fraction pm_is_fraction cd_is_fraction ct_is_fraction : Value} {f_has_fraction_row : Addr} {od_has_fraction_row an_has_fraction_row : Option Addr} {sl_has_fraction_row : Array (Option Value)} {oc_has_fraction_row kV_has_fraction_row dc_has_fraction_row pm_has_fraction_row cd_has_fraction_row ct_has_fraction_row : Value} {f_row_of_steps : Addr} {od_row_of_steps an_row_of_steps : Option Addr} {sl_row_of_steps : Array (Option Value)} {oc_row_of_steps kV_row_of_steps dc_row_of_steps pm_row_of_steps cd_row_of_steps ct_row_of_steps : Value} {f_fraction_row : Addr} {od_fraction_row an_fraction_row : Option Addr} {sl_fraction_row : Array (Option Value)} {oc_fraction_row kV_fraction_row dc_fraction_row pm_fraction_row cd_fraction_row ct_fraction_row : Value} {f_law_mixed : Addr} {od_law_mixed an_law_mixed : Option Addr} {sl_law_mixed : Array (Option Value)} {oc_law_mixed kV_law_mixed dc_law_mixed pm_law_mixed cd_law_mixed ct_law_mixed : Value} {f_law_alone : Addr} {od_law_alone an_law_alone : Option Addr} {sl_law_alone : Array (Option Value)} {oc_law_alone kV_law_alone dc_law_alone pm_law_alone cd_law_alone ct_law_alone : Value} {f_law_edge : Addr} {od_law_edge an_law_edge : Option Addr} {sl_law_edge : Array (Option Value)} {oc_law_edge kV_law_edge dc_law_edge pm_law_edge cd_law_edge ct_law_edge : Value} {f_law_free_two : Addr} {od_law_free_two an_law_free_two : Option Addr} {sl_law_free_two : Array (Option Value)} {oc_law_free_two kV_law_free_two dc_law_free_two pm_law_free_two cd_law_free_two ct_law_free_two : Value} {f_law_two : Addr} {od_law_two an_law_two : Option Addr} {sl_law_two : Array (Option Value)} {oc_law_two kV_law_two dc_law_two pm_law_two cd_law_two ct_law_two : Value} {f_law_good : Addr} {od_law_good an_law_good : Option Addr} {sl_law_good : Array (Option Value)} {oc_law_good kV_law_good dc_law_good pm_law_good cd_law_good ct_law_good : Value} {f_law : Addr} {od_law an_law : Option Addr} {sl_law : Array (Option Value)} {oc_law kV_law dc_law pm_law cd_law ct_law : Value} {tk_MOST_DIGITS : Tok} {tk_MOST_AHEAD : Tok}
    (aC_RiseError : PySem.W.nsIn K mainGlobals "RiseError" = some (some (.ref C_RiseError)))
    (aC_NoFit : PySem.W.nsIn K mainGlobals "NoFit" = some (some (.ref C_NoFit)))
    (aC_Short : PySem.W.nsIn K mainGlobals "Short" = some (some (.ref C_Short)))
    (aC_Wrong : PySem.W.nsIn K mainGlobals "Wrong" = some (some (.ref C_Wrong)))
    (aC_Left : PySem.W.nsIn K mainGlobals "Left" = some (some (.ref C_Left)))
    (aC_NoForm : PySem.W.nsIn K mainGlobals "NoForm" = some (some (.ref C_NoForm)))
    (aC_NoText : PySem.W.nsIn K mainGlobals "NoText" = some (some (.ref C_NoText)))
    (aC_NotAhead : PySem.W.nsIn K mainGlobals "NotAhead" = some (some (.ref C_NotAhead)))
    (aC_BadPage : PySem.W.nsIn K mainGlobals "BadPage" = some (some (.ref C_BadPage)))
    (aC_Twice : PySem.W.nsIn K mainGlobals "Twice" = some (some (.ref C_Twice)))
    (aC_Lacking : PySem.W.nsIn K mainGlobals "Lacking" = some (some (.ref C_Lacking)))
    (xga_NoFit : PySem.W.findIn K (.ref C_NoFit) "__getattribute__" = some (some (.builtin "BaseException.__getattribute__")))
    (xgt_NoFit : PySem.W.findIn K (.ref C_NoFit) "__getattr__" = some none)
    (xcl_NoFit : PySem.W.findIn K (.ref C_NoFit) "__class__" = some (some (.builtin "object.__class__")))
    (xob_NoFit : PySem.W.mroIn K C_NoFit (.type "object") = some true)
    (xbe_NoFit : PySem.W.mroIn K C_NoFit (.type "BaseException") = some true)
    (xis_NoFit : PySem.W.isClsIn K C_NoFit = true)
    (xhn_NoFit : PySem.W.specialIn K (.builtin "object.__class__") "__get__" = some (some (.builtin "getset_descriptor.__get__")))
    (xtk_NoFit : PySem.W.takesIn K (.builtin "object.__class__") = some true)
    (xt_NoFit : PySem.W.typeIn K (.ref C_NoFit) = some (.type "type"))
    (xi_NoFit : PySem.W.excIn K C_NoFit bmV "ValueError.__new__" = true)
    (kt_NoFit_RiseError : PySem.W.kitOne K (.ref C_NoFit) (.ref C_RiseError) = some true)
    (kt_NoFit_Short : PySem.W.kitOne K (.ref C_NoFit) (.ref C_Short) = some false)
    (kt_NoFit_Wrong : PySem.W.kitOne K (.ref C_NoFit) (.ref C_Wrong) = some false)
    (kt_NoFit_Left : PySem.W.kitOne K (.ref C_NoFit) (.ref C_Left) = some false)
    (kt_NoFit_NoForm : PySem.W.kitOne K (.ref C_NoFit) (.ref C_NoForm) = some false)
    (kt_NoFit_NoText : PySem.W.kitOne K (.ref C_NoFit) (.ref C_NoText) = some false)
    (kt_NoFit_NotAhead : PySem.W.kitOne K (.ref C_NoFit) (.ref C_NotAhead) = some false)
    (kt_NoFit_BadPage : PySem.W.kitOne K (.ref C_NoFit) (.ref C_BadPage) = some false)
    (kt_NoFit_Twice : PySem.W.kitOne K (.ref C_NoFit) (.ref C_Twice) = some false)
    (kt_NoFit_Lacking : PySem.W.kitOne K (.ref C_NoFit) (.ref C_Lacking) = some false)
    (kt_NoFit_ValueError : PySem.W.kitOne K (.ref C_NoFit) (.type "ValueError") = some true)
    (mr_NoFit_NoFit : PySem.W.mroIn K C_NoFit (.ref C_NoFit) = some true)
    (a_turned_row : PySem.W.nsIn K mainGlobals "turned_row" = some (some (.ref f_turned_row)))
    (l_turned_row : K.lookup f_turned_row = some ⟨oc_turned_row, od_turned_row, .func (PySem.W.fnOf "turned_row" "turned_row" (defArgs s_turned_row) (defBody s_turned_row) (defScope s_turned_row) .none kV_turned_row dc_turned_row pm_turned_row an_turned_row cd_turned_row ct_turned_row), sl_turned_row⟩)
    (c_turned_row : PySem.W.codeIn K cd_turned_row "turned_row" = true)
    (k_turned_row : PySem.W.keepIn K (.ref f_turned_row) = true)
    (a_lower_digits : PySem.W.nsIn K mainGlobals "lower_digits" = some (some (.ref f_lower_digits)))
    (l_lower_digits : K.lookup f_lower_digits = some ⟨oc_lower_digits, od_lower_digits, .func (PySem.W.fnOf "lower_digits" "lower_digits" (defArgs s_lower_digits) (defBody s_lower_digits) (defScope s_lower_digits) .none kV_lower_digits dc_lower_digits pm_lower_digits an_lower_digits cd_lower_digits ct_lower_digits), sl_lower_digits⟩)
    (c_lower_digits : PySem.W.codeIn K cd_lower_digits "lower_digits" = true)
    (k_lower_digits : PySem.W.keepIn K (.ref f_lower_digits) = true)
    (a_is_count : PySem.W.nsIn K mainGlobals "is_count" = some (some (.ref f_is_count)))
    (l_is_count : K.lookup f_is_count = some ⟨oc_is_count, od_is_count, .func (PySem.W.fnOf "is_count" "is_count" (defArgs s_is_count) (defBody s_is_count) (defScope s_is_count) .none kV_is_count dc_is_count pm_is_count an_is_count cd_is_count ct_is_count), sl_is_count⟩)
    (c_is_count : PySem.W.codeIn K cd_is_count "is_count" = true)
    (k_is_count : PySem.W.keepIn K (.ref f_is_count) = true)
    (a_has_whole_row : PySem.W.nsIn K mainGlobals "has_whole_row" = some (some (.ref f_has_whole_row)))
    (l_has_whole_row : K.lookup f_has_whole_row = some ⟨oc_has_whole_row, od_has_whole_row, .func (PySem.W.fnOf "has_whole_row" "has_whole_row" (defArgs s_has_whole_row) (defBody s_has_whole_row) (defScope s_has_whole_row) .none kV_has_whole_row dc_has_whole_row pm_has_whole_row an_has_whole_row cd_has_whole_row ct_has_whole_row), sl_has_whole_row⟩)
    (c_has_whole_row : PySem.W.codeIn K cd_has_whole_row "has_whole_row" = true)
    (k_has_whole_row : PySem.W.keepIn K (.ref f_has_whole_row) = true)
    (a_count_row : PySem.W.nsIn K mainGlobals "count_row" = some (some (.ref f_count_row)))
    (l_count_row : K.lookup f_count_row = some ⟨oc_count_row, od_count_row, .func (PySem.W.fnOf "count_row" "count_row" (defArgs s_count_row) (defBody s_count_row) (defScope s_count_row) .none kV_count_row dc_count_row pm_count_row an_count_row cd_count_row ct_count_row), sl_count_row⟩)
    (c_count_row : PySem.W.codeIn K cd_count_row "count_row" = true)
    (k_count_row : PySem.W.keepIn K (.ref f_count_row) = true)
    (a_whole_row : PySem.W.nsIn K mainGlobals "whole_row" = some (some (.ref f_whole_row)))
    (l_whole_row : K.lookup f_whole_row = some ⟨oc_whole_row, od_whole_row, .func (PySem.W.fnOf "whole_row" "whole_row" (defArgs s_whole_row) (defBody s_whole_row) (defScope s_whole_row) .none kV_whole_row dc_whole_row pm_whole_row an_whole_row cd_whole_row ct_whole_row), sl_whole_row⟩)
    (c_whole_row : PySem.W.codeIn K cd_whole_row "whole_row" = true)
    (k_whole_row : PySem.W.keepIn K (.ref f_whole_row) = true)
    (a_steps_of : PySem.W.nsIn K mainGlobals "steps_of" = some (some (.ref f_steps_of)))
    (l_steps_of : K.lookup f_steps_of = some ⟨oc_steps_of, od_steps_of, .func (PySem.W.fnOf "steps_of" "steps_of" (defArgs s_steps_of) (defBody s_steps_of) (defScope s_steps_of) .none kV_steps_of dc_steps_of pm_steps_of an_steps_of cd_steps_of ct_steps_of), sl_steps_of⟩)
    (c_steps_of : PySem.W.codeIn K cd_steps_of "steps_of" = true)
    (k_steps_of : PySem.W.keepIn K (.ref f_steps_of) = true)
    (a_common_divisor : PySem.W.nsIn K mainGlobals "common_divisor" = some (some (.ref f_common_divisor)))
    (l_common_divisor : K.lookup f_common_divisor = some ⟨oc_common_divisor, od_common_divisor, .func (PySem.W.fnOf "common_divisor" "common_divisor" (defArgs s_common_divisor) (defBody s_common_divisor) (defScope s_common_divisor) .none kV_common_divisor dc_common_divisor pm_common_divisor an_common_divisor cd_common_divisor ct_common_divisor), sl_common_divisor⟩)
    (c_common_divisor : PySem.W.codeIn K cd_common_divisor "common_divisor" = true)
    (k_common_divisor : PySem.W.keepIn K (.ref f_common_divisor) = true)
    (a_is_fraction : PySem.W.nsIn K mainGlobals "is_fraction" = some (some (.ref f_is_fraction)))
    (l_is_fraction : K.lookup f_is_fraction = some ⟨oc_is_fraction, od_is_fraction, .func (PySem.W.fnOf "is_fraction" "is_fraction" (defArgs s_is_fraction) (defBody s_is_fraction) (defScope s_is_fraction) .none kV_is_fraction dc_is_fraction pm_is_fraction an_is_fraction cd_is_fraction ct_is_fraction), sl_is_fraction⟩)
    (c_is_fraction : PySem.W.codeIn K cd_is_fraction "is_fraction" = true)
    (k_is_fraction : PySem.W.keepIn K (.ref f_is_fraction) = true)
    (a_has_fraction_row : PySem.W.nsIn K mainGlobals "has_fraction_row" = some (some (.ref f_has_fraction_row)))
    (l_has_fraction_row : K.lookup f_has_fraction_row = some ⟨oc_has_fraction_row, od_has_fraction_row, .func (PySem.W.fnOf "has_fraction_row" "has_fraction_row" (defArgs s_has_fraction_row) (defBody s_has_fraction_row) (defScope s_has_fraction_row) .none kV_has_fraction_row dc_has_fraction_row pm_has_fraction_row an_has_fraction_row cd_has_fraction_row ct_has_fraction_row), sl_has_fraction_row⟩)
    (c_has_fraction_row : PySem.W.codeIn K cd_has_fraction_row "has_fraction_row" = true)
    (k_has_fraction_row : PySem.W.keepIn K (.ref f_has_fraction_row) = true)
    (a_row_of_steps : PySem.W.nsIn K mainGlobals "row_of_steps" = some (some (.ref f_row_of_steps)))
    (l_row_of_steps : K.lookup f_row_of_steps = some ⟨oc_row_of_steps, od_row_of_steps, .func (PySem.W.fnOf "row_of_steps" "row_of_steps" (defArgs s_row_of_steps) (defBody s_row_of_steps) (defScope s_row_of_steps) .none kV_row_of_steps dc_row_of_steps pm_row_of_steps an_row_of_steps cd_row_of_steps ct_row_of_steps), sl_row_of_steps⟩)
    (c_row_of_steps : PySem.W.codeIn K cd_row_of_steps "row_of_steps" = true)
    (k_row_of_steps : PySem.W.keepIn K (.ref f_row_of_steps) = true)
    (a_fraction_row : PySem.W.nsIn K mainGlobals "fraction_row" = some (some (.ref f_fraction_row)))
    (l_fraction_row : K.lookup f_fraction_row = some ⟨oc_fraction_row, od_fraction_row, .func (PySem.W.fnOf "fraction_row" "fraction_row" (defArgs s_fraction_row) (defBody s_fraction_row) (defScope s_fraction_row) .none kV_fraction_row dc_fraction_row pm_fraction_row an_fraction_row cd_fraction_row ct_fraction_row), sl_fraction_row⟩)
    (c_fraction_row : PySem.W.codeIn K cd_fraction_row "fraction_row" = true)
    (k_fraction_row : PySem.W.keepIn K (.ref f_fraction_row) = true)
    (a_law_mixed : PySem.W.nsIn K mainGlobals "_law_mixed" = some (some (.ref f_law_mixed)))
    (l_law_mixed : K.lookup f_law_mixed = some ⟨oc_law_mixed, od_law_mixed, .func (PySem.W.fnOf "_law_mixed" "_law_mixed" (defArgs s_law_mixed) (defBody s_law_mixed) (defScope s_law_mixed) .none kV_law_mixed dc_law_mixed pm_law_mixed an_law_mixed cd_law_mixed ct_law_mixed), sl_law_mixed⟩)
    (c_law_mixed : PySem.W.codeIn K cd_law_mixed "_law_mixed" = true)
    (k_law_mixed : PySem.W.keepIn K (.ref f_law_mixed) = true)
    (a_law_alone : PySem.W.nsIn K mainGlobals "_law_alone" = some (some (.ref f_law_alone)))
    (l_law_alone : K.lookup f_law_alone = some ⟨oc_law_alone, od_law_alone, .func (PySem.W.fnOf "_law_alone" "_law_alone" (defArgs s_law_alone) (defBody s_law_alone) (defScope s_law_alone) .none kV_law_alone dc_law_alone pm_law_alone an_law_alone cd_law_alone ct_law_alone), sl_law_alone⟩)
    (c_law_alone : PySem.W.codeIn K cd_law_alone "_law_alone" = true)
    (k_law_alone : PySem.W.keepIn K (.ref f_law_alone) = true)
    (a_law_edge : PySem.W.nsIn K mainGlobals "_law_edge" = some (some (.ref f_law_edge)))
    (l_law_edge : K.lookup f_law_edge = some ⟨oc_law_edge, od_law_edge, .func (PySem.W.fnOf "_law_edge" "_law_edge" (defArgs s_law_edge) (defBody s_law_edge) (defScope s_law_edge) .none kV_law_edge dc_law_edge pm_law_edge an_law_edge cd_law_edge ct_law_edge), sl_law_edge⟩)
    (c_law_edge : PySem.W.codeIn K cd_law_edge "_law_edge" = true)
    (k_law_edge : PySem.W.keepIn K (.ref f_law_edge) = true)
    (a_law_free_two : PySem.W.nsIn K mainGlobals "_law_free_two" = some (some (.ref f_law_free_two)))
    (l_law_free_two : K.lookup f_law_free_two = some ⟨oc_law_free_two, od_law_free_two, .func (PySem.W.fnOf "_law_free_two" "_law_free_two" (defArgs s_law_free_two) (defBody s_law_free_two) (defScope s_law_free_two) .none kV_law_free_two dc_law_free_two pm_law_free_two an_law_free_two cd_law_free_two ct_law_free_two), sl_law_free_two⟩)
    (c_law_free_two : PySem.W.codeIn K cd_law_free_two "_law_free_two" = true)
    (k_law_free_two : PySem.W.keepIn K (.ref f_law_free_two) = true)
    (a_law_two : PySem.W.nsIn K mainGlobals "_law_two" = some (some (.ref f_law_two)))
    (l_law_two : K.lookup f_law_two = some ⟨oc_law_two, od_law_two, .func (PySem.W.fnOf "_law_two" "_law_two" (defArgs s_law_two) (defBody s_law_two) (defScope s_law_two) .none kV_law_two dc_law_two pm_law_two an_law_two cd_law_two ct_law_two), sl_law_two⟩)
    (c_law_two : PySem.W.codeIn K cd_law_two "_law_two" = true)
    (k_law_two : PySem.W.keepIn K (.ref f_law_two) = true)
    (a_law_good : PySem.W.nsIn K mainGlobals "_law_good" = some (some (.ref f_law_good)))
    (l_law_good : K.lookup f_law_good = some ⟨oc_law_good, od_law_good, .func (PySem.W.fnOf "_law_good" "_law_good" (defArgs s_law_good) (defBody s_law_good) (defScope s_law_good) .none kV_law_good dc_law_good pm_law_good an_law_good cd_law_good ct_law_good), sl_law_good⟩)
    (c_law_good : PySem.W.codeIn K cd_law_good "_law_good" = true)
    (k_law_good : PySem.W.keepIn K (.ref f_law_good) = true)
    (a_law : PySem.W.nsIn K mainGlobals "law" = some (some (.ref f_law)))
    (l_law : K.lookup f_law = some ⟨oc_law, od_law, .func (PySem.W.fnOf "law" "law" (defArgs s_law) (defBody s_law) (defScope s_law) .none kV_law dc_law pm_law an_law cd_law ct_law), sl_law⟩)
    (c_law : PySem.W.codeIn K cd_law "law" = true)
    (k_law : PySem.W.keepIn K (.ref f_law) = true)
    (z_len : PySem.W.nsIn K mainGlobals "len" = some none)
    (z_range : PySem.W.nsIn K mainGlobals "range" = some none)
    (z_str : PySem.W.nsIn K mainGlobals "str" = some none)
    (z_isinstance : PySem.W.nsIn K mainGlobals "isinstance" = some none)
    (z_max : PySem.W.nsIn K mainGlobals "max" = some none)
    (z_all : PySem.W.nsIn K mainGlobals "all" = some none)
    (z_enumerate : PySem.W.nsIn K mainGlobals "enumerate" = some none)
    (z_ValueError : PySem.W.nsIn K mainGlobals "ValueError" = some none)
    (g0_MOST_DIGITS : PySem.W.nsIn K mainGlobals "MOST_DIGITS" = some (some (.int 255 tk_MOST_DIGITS)))
    (g0_MOST_AHEAD : PySem.W.nsIn K mainGlobals "MOST_AHEAD" = some (some (.int 7 tk_MOST_AHEAD)))
    : ∃ fd : FuncData, (∀ (s : Shared) (v : Value), BindsTo s fd ⟨[v], []⟩ [("_law_script", v)]) ∧ ∀ base : Heap, K.In base → base.Ns mainGlobals mg → FnOk l.prog w K mg base CX0 6 fa fd ["_law_script"] (spLaw K) := by
  have e := hfa.symm.trans (PySem.W.mg_of X G a_law)
  cases e
  have gm_RiseError : mg "RiseError" = some (.ref C_RiseError) := PySem.W.mg_of X G aC_RiseError
  have gc_RiseError : GlobV mg "RiseError" (.ref C_RiseError) := ⟨_, gm_RiseError, rfl⟩
  have gm_NoFit : mg "NoFit" = some (.ref C_NoFit) := PySem.W.mg_of X G aC_NoFit
  have gc_NoFit : GlobV mg "NoFit" (.ref C_NoFit) := ⟨_, gm_NoFit, rfl⟩
  have gm_Short : mg "Short" = some (.ref C_Short) := PySem.W.mg_of X G aC_Short
  have gc_Short : GlobV mg "Short" (.ref C_Short) := ⟨_, gm_Short, rfl⟩
  have gm_Wrong : mg "Wrong" = some (.ref C_Wrong) := PySem.W.mg_of X G aC_Wrong
  have gc_Wrong : GlobV mg "Wrong" (.ref C_Wrong) := ⟨_, gm_Wrong, rfl⟩
  have gm_Left : mg "Left" = some (.ref C_Left) := PySem.W.mg_of X G aC_Left
  have gc_Left : GlobV mg "Left" (.ref C_Left) := ⟨_, gm_Left, rfl⟩
  have gm_NoForm : mg "NoForm" = some (.ref C_NoForm) := PySem.W.mg_of X G aC_NoForm
  have gc_NoForm : GlobV mg "NoForm" (.ref C_NoForm) := ⟨_, gm_NoForm, rfl⟩
  have gm_NoText : mg "NoText" = some (.ref C_NoText) := PySem.W.mg_of X G aC_NoText
  have gc_NoText : GlobV mg "NoText" (.ref C_NoText) := ⟨_, gm_NoText, rfl⟩
  have gm_NotAhead : mg "NotAhead" = some (.ref C_NotAhead) := PySem.W.mg_of X G aC_NotAhead
  have gc_NotAhead : GlobV mg "NotAhead" (.ref C_NotAhead) := ⟨_, gm_NotAhead, rfl⟩
  have gm_BadPage : mg "BadPage" = some (.ref C_BadPage) := PySem.W.mg_of X G aC_BadPage
  have gc_BadPage : GlobV mg "BadPage" (.ref C_BadPage) := ⟨_, gm_BadPage, rfl⟩
  have gm_Twice : mg "Twice" = some (.ref C_Twice) := PySem.W.mg_of X G aC_Twice
  have gc_Twice : GlobV mg "Twice" (.ref C_Twice) := ⟨_, gm_Twice, rfl⟩
  have gm_Lacking : mg "Lacking" = some (.ref C_Lacking) := PySem.W.mg_of X G aC_Lacking
  have gc_Lacking : GlobV mg "Lacking" (.ref C_Lacking) := ⟨_, gm_Lacking, rfl⟩
  have xc_NoFit : ExcC K C_NoFit := ⟨xga_NoFit, xgt_NoFit, xcl_NoFit, xob_NoFit, xbe_NoFit, xis_NoFit, xhn_NoFit, xtk_NoFit⟩
  have F_turned_row : FunAt K mg "turned_row" s_turned_row ["row"] f_turned_row _ := ⟨fun_mk (st := s_turned_row) l_turned_row c_turned_row k_turned_row, (fun_mk (st := s_turned_row) l_turned_row c_turned_row k_turned_row).binds (ps := ["row"]) fun _ _ _ _ _ _ us hl => by obtain ⟨_, rfl⟩ := ex1 us hl; rfl, PySem.W.mg_of X G a_turned_row⟩
  have F_lower_digits : FunAt K mg "lower_digits" s_lower_digits ["n", "width"] f_lower_digits _ := ⟨fun_mk (st := s_lower_digits) l_lower_digits c_lower_digits k_lower_digits, (fun_mk (st := s_lower_digits) l_lower_digits c_lower_digits k_lower_digits).binds (ps := ["n", "width"]) fun _ _ _ _ _ _ us hl => by obtain ⟨_, _, rfl⟩ := ex2 us hl; rfl, PySem.W.mg_of X G a_lower_digits⟩
  have F_is_count : FunAt K mg "is_count" s_is_count ["n"] f_is_count _ := ⟨fun_mk (st := s_is_count) l_is_count c_is_count k_is_count, (fun_mk (st := s_is_count) l_is_count c_is_count k_is_count).binds (ps := ["n"]) fun _ _ _ _ _ _ us hl => by obtain ⟨_, rfl⟩ := ex1 us hl; rfl, PySem.W.mg_of X G a_is_count⟩
  have F_has_whole_row : FunAt K mg "has_whole_row" s_has_whole_row ["n"] f_has_whole_row _ := ⟨fun_mk (st := s_has_whole_row) l_has_whole_row c_has_whole_row k_has_whole_row, (fun_mk (st := s_has_whole_row) l_has_whole_row c_has_whole_row k_has_whole_row).binds (ps := ["n"]) fun _ _ _ _ _ _ us hl => by obtain ⟨_, rfl⟩ := ex1 us hl; rfl, PySem.W.mg_of X G a_has_whole_row⟩
  have F_count_row : FunAt K mg "count_row" s_count_row ["n"] f_count_row _ := ⟨fun_mk (st := s_count_row) l_count_row c_count_row k_count_row, (fun_mk (st := s_count_row) l_count_row c_count_row k_count_row).binds (ps := ["n"]) fun _ _ _ _ _ _ us hl => by obtain ⟨_, rfl⟩ := ex1 us hl; rfl, PySem.W.mg_of X G a_count_row⟩
  have F_whole_row : FunAt K mg "whole_row" s_whole_row ["n"] f_whole_row _ := ⟨fun_mk (st := s_whole_row) l_whole_row c_whole_row k_whole_row, (fun_mk (st := s_whole_row) l_whole_row c_whole_row k_whole_row).binds (ps := ["n"]) fun _ _ _ _ _ _ us hl => by obtain ⟨_, rfl⟩ := ex1 us hl; rfl, PySem.W.mg_of X G a_whole_row⟩
  have F_steps_of : FunAt K mg "steps_of" s_steps_of ["fraction"] f_steps_of _ := ⟨fun_mk (st := s_steps_of) l_steps_of c_steps_of k_steps_of, (fun_mk (st := s_steps_of) l_steps_of c_steps_of k_steps_of).binds (ps := ["fraction"]) fun _ _ _ _ _ _ us hl => by obtain ⟨_, rfl⟩ := ex1 us hl; rfl, PySem.W.mg_of X G a_steps_of⟩
  have F_common_divisor : FunAt K mg "common_divisor" s_common_divisor ["one", "other"] f_common_divisor _ := ⟨fun_mk (st := s_common_divisor) l_common_divisor c_common_divisor k_common_divisor, (fun_mk (st := s_common_divisor) l_common_divisor c_common_divisor k_common_divisor).binds (ps := ["one", "other"]) fun _ _ _ _ _ _ us hl => by obtain ⟨_, _, rfl⟩ := ex2 us hl; rfl, PySem.W.mg_of X G a_common_divisor⟩
  have F_is_fraction : FunAt K mg "is_fraction" s_is_fraction ["fraction"] f_is_fraction _ := ⟨fun_mk (st := s_is_fraction) l_is_fraction c_is_fraction k_is_fraction, (fun_mk (st := s_is_fraction) l_is_fraction c_is_fraction k_is_fraction).binds (ps := ["fraction"]) fun _ _ _ _ _ _ us hl => by obtain ⟨_, rfl⟩ := ex1 us hl; rfl, PySem.W.mg_of X G a_is_fraction⟩
  have F_has_fraction_row : FunAt K mg "has_fraction_row" s_has_fraction_row ["fraction"] f_has_fraction_row _ := ⟨fun_mk (st := s_has_fraction_row) l_has_fraction_row c_has_fraction_row k_has_fraction_row, (fun_mk (st := s_has_fraction_row) l_has_fraction_row c_has_fraction_row k_has_fraction_row).binds (ps := ["fraction"]) fun _ _ _ _ _ _ us hl => by obtain ⟨_, rfl⟩ := ex1 us hl; rfl, PySem.W.mg_of X G a_has_fraction_row⟩
  have F_row_of_steps : FunAt K mg "row_of_steps" s_row_of_steps ["steps"] f_row_of_steps _ := ⟨fun_mk (st := s_row_of_steps) l_row_of_steps c_row_of_steps k_row_of_steps, (fun_mk (st := s_row_of_steps) l_row_of_steps c_row_of_steps k_row_of_steps).binds (ps := ["steps"]) fun _ _ _ _ _ _ us hl => by obtain ⟨_, rfl⟩ := ex1 us hl; rfl, PySem.W.mg_of X G a_row_of_steps⟩
  have F_fraction_row : FunAt K mg "fraction_row" s_fraction_row ["fraction"] f_fraction_row _ := ⟨fun_mk (st := s_fraction_row) l_fraction_row c_fraction_row k_fraction_row, (fun_mk (st := s_fraction_row) l_fraction_row c_fraction_row k_fraction_row).binds (ps := ["fraction"]) fun _ _ _ _ _ _ us hl => by obtain ⟨_, rfl⟩ := ex1 us hl; rfl, PySem.W.mg_of X G a_fraction_row⟩
  have F_law_mixed : FunAt K mg "_law_mixed" s_law_mixed ["_law_cell", "_law_k"] f_law_mixed _ := ⟨fun_mk (st := s_law_mixed) l_law_mixed c_law_mixed k_law_mixed, (fun_mk (st := s_law_mixed) l_law_mixed c_law_mixed k_law_mixed).binds (ps := ["_law_cell", "_law_k"]) fun _ _ _ _ _ _ us hl => by obtain ⟨_, _, rfl⟩ := ex2 us hl; rfl, PySem.W.mg_of X G a_law_mixed⟩
  have F_law_alone : FunAt K mg "_law_alone" s_law_alone ["_law_error"] f_law_alone _ := ⟨fun_mk (st := s_law_alone) l_law_alone c_law_alone k_law_alone, (fun_mk (st := s_law_alone) l_law_alone c_law_alone k_law_alone).binds (ps := ["_law_error"]) fun _ _ _ _ _ _ us hl => by obtain ⟨_, rfl⟩ := ex1 us hl; rfl, PySem.W.mg_of X G a_law_alone⟩
  have F_law_edge : FunAt K mg "_law_edge" s_law_edge ["_law_number"] f_law_edge _ := ⟨fun_mk (st := s_law_edge) l_law_edge c_law_edge k_law_edge, (fun_mk (st := s_law_edge) l_law_edge c_law_edge k_law_edge).binds (ps := ["_law_number"]) fun _ _ _ _ _ _ us hl => by obtain ⟨_, rfl⟩ := ex1 us hl; rfl, PySem.W.mg_of X G a_law_edge⟩
  have F_law_free_two : FunAt K mg "_law_free_two" s_law_free_two ["_law_rest"] f_law_free_two _ := ⟨fun_mk (st := s_law_free_two) l_law_free_two c_law_free_two k_law_free_two, (fun_mk (st := s_law_free_two) l_law_free_two c_law_free_two k_law_free_two).binds (ps := ["_law_rest"]) fun _ _ _ _ _ _ us hl => by obtain ⟨_, rfl⟩ := ex1 us hl; rfl, PySem.W.mg_of X G a_law_free_two⟩
  have F_law_two : FunAt K mg "_law_two" s_law_two ["_law_cell", "_law_k"] f_law_two _ := ⟨fun_mk (st := s_law_two) l_law_two c_law_two k_law_two, (fun_mk (st := s_law_two) l_law_two c_law_two k_law_two).binds (ps := ["_law_cell", "_law_k"]) fun _ _ _ _ _ _ us hl => by obtain ⟨_, _, rfl⟩ := ex2 us hl; rfl, PySem.W.mg_of X G a_law_two⟩
  have F_law_good : FunAt K mg "_law_good" s_law_good ["_law_top", "_law_bottom"] f_law_good _ := ⟨fun_mk (st := s_law_good) l_law_good c_law_good k_law_good, (fun_mk (st := s_law_good) l_law_good c_law_good k_law_good).binds (ps := ["_law_top", "_law_bottom"]) fun _ _ _ _ _ _ us hl => by obtain ⟨_, _, rfl⟩ := ex2 us hl; rfl, PySem.W.mg_of X G a_law_good⟩
  have F_law := fun_mk (st := s_law) l_law c_law k_law
  have nb : NB mg := ⟨PySem.W.mg_none_of X G z_len, PySem.W.mg_none_of X G z_range, PySem.W.mg_none_of X G z_str, PySem.W.mg_none_of X G z_isinstance, PySem.W.mg_none_of X G z_max, PySem.W.mg_none_of X G z_all, PySem.W.mg_none_of X G z_enumerate⟩
  have nbV := PySem.W.mg_none_of X G z_ValueError
  have g_MOST_DIGITS : GlobV mg "MOST_DIGITS" (.int 255) := ⟨_, PySem.W.mg_of X G g0_MOST_DIGITS, ⟨_, rfl⟩⟩
  have g_MOST_AHEAD : GlobV mg "MOST_AHEAD" (.int 7) := ⟨_, PySem.W.mg_of X G g0_MOST_AHEAD, ⟨_, rfl⟩⟩
  refine ⟨PySem.W.fnOf "law" "law" (defArgs s_law) (defBody s_law) (defScope s_law) .none kV_law dc_law pm_law an_law cd_law ct_law, fun s v => .of_eq rfl, fun base _ _ => ?_⟩
  have D_turned_row := ok_turned_row (P := l.prog) (w := w) (base := base) F_turned_row
  have D_lower_digits := ok_lower_digits (P := l.prog) (w := w) (base := base) nb F_lower_digits
  have D_is_count := ok_is_count (P := l.prog) (w := w) (base := base) g_MOST_DIGITS F_is_count
  have D_has_whole_row := ok_has_whole_row F_has_whole_row D_is_count
  have D_count_row := ok_count_row g_MOST_AHEAD F_count_row D_is_count D_lower_digits
  have D_whole_row := ok_whole_row F_whole_row D_count_row D_turned_row
  have D_steps_of := ok_steps_of (P := l.prog) (w := w) (base := base) F_steps_of
  have D_common_divisor := ok_common_divisor (P := l.prog) (w := w) (base := base) F_common_divisor
  have D_is_fraction := ok_is_fraction F_is_fraction D_common_divisor
  have D_has_fraction_row := ok_has_fraction_row nb F_has_fraction_row D_is_fraction D_steps_of D_has_whole_row D_is_count
  have D_row_of_steps := ok_row_of_steps nb F_row_of_steps D_whole_row D_count_row D_turned_row
  have D_fraction_row := ok_fraction_row F_fraction_row D_has_fraction_row D_steps_of D_row_of_steps
  have DB_fraction_row := bad_fraction_row xi_NoFit gm_NoFit F_fraction_row D_has_fraction_row D_steps_of D_row_of_steps
  have D_law_mixed := ok_law_mixed (P := l.prog) (w := w) (base := base) F_law_mixed
  have NM : Nms mg ⟨C_NoFit, C_Short, C_Wrong, C_Left, C_NoForm, C_NoText, C_NotAhead, C_BadPage, C_Twice, C_Lacking⟩ := ⟨gc_NoFit, gc_Short, gc_Wrong, gc_Left, gc_NoForm, gc_NoText, gc_NotAhead, gc_BadPage, gc_Twice, gc_Lacking⟩
  have kS : Kits K ⟨C_NoFit, C_Short, C_Wrong, C_Left, C_NoForm, C_NoText, C_NotAhead, C_BadPage, C_Twice, C_Lacking⟩ C_NoFit [true, false, false, false, false, false, false, false, false, false, true] :=
    ⟨xc_NoFit, _, _, _, _, _, _, _, _, _, _, rfl, kit_same .., kt_NoFit_Short, kt_NoFit_Wrong, kt_NoFit_Left, kt_NoFit_NoForm, kt_NoFit_NoText, kt_NoFit_NotAhead, kt_NoFit_BadPage, kt_NoFit_Twice, kt_NoFit_Lacking, kt_NoFit_ValueError⟩
  have D_law_alone := ok_law_alone (P := l.prog) (w := w) (base := base) nb nbV NM gc_RiseError F_law_alone
  have D_law_edge := ok_law_edge (P := l.prog) (w := w) (base := base) F_law_edge
  have D_law_free_two := ok_law_free_two (P := l.prog) (w := w) (base := base) F_law_free_two
  have D_law_two := ok_law_two F_law_two D_law_free_two D_law_mixed D_law_edge
  have D_law_good := ok_law_good16 (P := l.prog) (w := w) (base := base) nb F_law_good
  exact ok_law gm_NoFit xc_NoFit xt_NoFit mr_NoFit_NoFit kS rfl kt_NoFit_RiseError nb F_law D_law_two D_fraction_row DB_fraction_row D_law_good D_law_alone

theorem walk {l : PySem.W.OpenLaw} {q : Program} {loose : List Str} {XP : (Str → Option Value) → Heap → Prop} {YP : World → Heap → Prop} {d : DefRec} {K : Params → PySem.W.Frag} (hn : l.most = some 63) (hdf : d.params.defaults = [])
    (hY : ∀ (w : World) (h : Heap), YP w h → (K w.params).In h)
    (F : ∀ (w : World) (mg : Str → Option Value) (fa : Addr) (h : Heap), (K w.params).In h → h.Ns mainGlobals mg → mg d.name = some (.ref fa) →
      ∃ fd : FuncData, (∀ (s : Shared) (u : Value), BindsTo s fd ⟨[u], []⟩ [("_law_script", u)]) ∧ ∀ base : Heap, (K w.params).In base → base.Ns mainGlobals mg → FnOk l.prog w (K w.params) mg base CX0 6 fa fd ["_law_script"] (spLaw (K w.params))) :
    PySem.W.WalkO q loose XP YP l.row.toRowW d [] (fun f vs => PySem.call f vs) :=
  L2.walk_of (n := 63) (k := 6) (x := "_law_script") (CX := fun _ => CX0) (sp := fun w => spLaw (K w.params)) hn (by decide) hdf ⟨rfl, by decide, by decide⟩ hY F (fun _ _ a ns hl _ hS => ⟨a, ns, rfl, hS, hl, fun _ => rfl⟩) fun _ _ _ _ _ z => z
end
end KR
open PySem PySem.W PyProof.Rows
set_option maxRecDepth 100000 in
set_option maxHeartbeats 0 in
theorem PySem.Challenge.cw_keyrise_k16_refused_fractions_holds : PySem.Challenge.rw_keyrise_k16_refused_fractions.Holds := by
  w_on; o_law; k_head; (case hw => w_witness2)
  k_fill
  refine KR.walk (l := PySem.Challenge.rw_keyrise_k16_refused_fractions) rfl rfl (fun w h Y => PySem.W.kIn_of Y) ?F
  case F =>
    intro w mg fa h KX G hmg
    refine' KR.all_mk KX G hmg ?aC_RiseError ?aC_NoFit ?aC_Short ?aC_Wrong ?aC_Left ?aC_NoForm ?aC_NoText ?aC_NotAhead ?aC_BadPage ?aC_Twice ?aC_Lacking ?xga_NoFit ?xgt_NoFit ?xcl_NoFit ?xob_NoFit ?xbe_NoFit ?xis_NoFit ?xhn_NoFit ?xtk_NoFit ?xt_NoFit ?xi_NoFit ?kt_NoFit_RiseError ?kt_NoFit_Short ?kt_NoFit_Wrong ?kt_NoFit_Left ?kt_NoFit_NoForm ?kt_NoFit_NoText ?kt_NoFit_NotAhead ?kt_NoFit_BadPage ?kt_NoFit_Twice ?kt_NoFit_Lacking ?kt_NoFit_ValueError ?mr_NoFit_NoFit ?a_turned_row ?l_turned_row ?c_turned_row ?k_turned_row ?a_lower_digits ?l_lower_digits ?c_lower_digits ?k_lower_digits ?a_is_count ?l_is_count ?c_is_count ?k_is_count ?a_has_whole_row ?l_has_whole_row ?c_has_whole_row ?k_has_whole_row ?a_count_row ?l_count_row ?c_count_row ?k_count_row ?a_whole_row ?l_whole_row ?c_whole_row ?k_whole_row ?a_steps_of ?l_steps_of ?c_steps_of ?k_steps_of ?a_common_divisor ?l_common_divisor ?c_common_divisor ?k_common_divisor ?a_is_fraction ?l_is_fraction ?c_is_fraction ?k_is_fraction ?a_has_fraction_row ?l_has_fraction_row ?c_has_fraction_row ?k_has_fraction_row ?a_row_of_steps ?l_row_of_steps ?c_row_of_steps ?k_row_of_steps ?a_fraction_row ?l_fraction_row ?c_fraction_row ?k_fraction_row ?a_law_mixed ?l_law_mixed ?c_law_mixed ?k_law_mixed ?a_law_alone ?l_law_alone ?c_law_alone ?k_law_alone ?a_law_edge ?l_law_edge ?c_law_edge ?k_law_edge ?a_law_free_two ?l_law_free_two ?c_law_free_two ?k_law_free_two ?a_law_two ?l_law_two ?c_law_two ?k_law_two ?a_law_good ?l_law_good ?c_law_good ?k_law_good ?a_law ?l_law ?c_law ?k_law ?z_len ?z_range ?z_str ?z_isinstance ?z_max ?z_all ?z_enumerate ?z_ValueError ?g0_MOST_DIGITS ?g0_MOST_AHEAD
    (case aC_RiseError => k_is)
    (case aC_NoFit => k_is)
    (case aC_Short => k_is)
    (case aC_Wrong => k_is)
    (case aC_Left => k_is)
    (case aC_NoForm => k_is)
    (case aC_NoText => k_is)
    (case aC_NotAhead => k_is)
    (case aC_BadPage => k_is)
    (case aC_Twice => k_is)
    (case aC_Lacking => k_is)
    (case xga_NoFit => k_is)
    (case xgt_NoFit => k_is)
    (case xcl_NoFit => k_is)
    (case xob_NoFit => k_is)
    (case xbe_NoFit => k_is)
    (case xis_NoFit => k_is)
    (case xhn_NoFit => k_is)
    (case xtk_NoFit => k_is)
    (case xt_NoFit => k_is)
    (case xi_NoFit => k_exc)
    (case kt_NoFit_RiseError => kit_is)
    (case kt_NoFit_Short => kit_is)
    (case kt_NoFit_Wrong => kit_is)
    (case kt_NoFit_Left => kit_is)
    (case kt_NoFit_NoForm => kit_is)
    (case kt_NoFit_NoText => kit_is)
    (case kt_NoFit_NotAhead => kit_is)
    (case kt_NoFit_BadPage => kit_is)
    (case kt_NoFit_Twice => kit_is)
    (case kt_NoFit_Lacking => kit_is)
    (case kt_NoFit_ValueError => kit_is)
    (case mr_NoFit_NoFit => k_is)
    (case a_turned_row => k_is)
    (case l_turned_row => k_is)
    (case c_turned_row => k_is)
    (case k_turned_row => k_is)
    (case a_lower_digits => k_is)
    (case l_lower_digits => k_is)
    (case c_lower_digits => k_is)
    (case k_lower_digits => k_is)
    (case a_is_count => k_is)
    (case l_is_count => k_is)
    (case c_is_count => k_is)
    (case k_is_count => k_is)
    (case a_has_whole_row => k_is)
    (case l_has_whole_row => k_is)
    (case c_has_whole_row => k_is)
    (case k_has_whole_row => k_is)
    (case a_count_row => k_is)
    (case l_count_row => k_is)
    (case c_count_row => k_is)
    (case k_count_row => k_is)
    (case a_whole_row => k_is)
    (case l_whole_row => k_is)
    (case c_whole_row => k_is)
    (case k_whole_row => k_is)
    (case a_steps_of => k_is)
    (case l_steps_of => k_is)
    (case c_steps_of => k_is)
    (case k_steps_of => k_is)
    (case a_common_divisor => k_is)
    (case l_common_divisor => k_is)
    (case c_common_divisor => k_is)
    (case k_common_divisor => k_is)
    (case a_is_fraction => k_is)
    (case l_is_fraction => k_is)
    (case c_is_fraction => k_is)
    (case k_is_fraction => k_is)
    (case a_has_fraction_row => k_is)
    (case l_has_fraction_row => k_is)
    (case c_has_fraction_row => k_is)
    (case k_has_fraction_row => k_is)
    (case a_row_of_steps => k_is)
    (case l_row_of_steps => k_is)
    (case c_row_of_steps => k_is)
    (case k_row_of_steps => k_is)
    (case a_fraction_row => k_is)
    (case l_fraction_row => k_is)
    (case c_fraction_row => k_is)
    (case k_fraction_row => k_is)
    (case a_law_mixed => k_is)
    (case l_law_mixed => k_is)
    (case c_law_mixed => k_is)
    (case k_law_mixed => k_is)
    (case a_law_alone => k_is)
    (case l_law_alone => k_is)
    (case c_law_alone => k_is)
    (case k_law_alone => k_is)
    (case a_law_edge => k_is)
    (case l_law_edge => k_is)
    (case c_law_edge => k_is)
    (case k_law_edge => k_is)
    (case a_law_free_two => k_is)
    (case l_law_free_two => k_is)
    (case c_law_free_two => k_is)
    (case k_law_free_two => k_is)
    (case a_law_two => k_is)
    (case l_law_two => k_is)
    (case c_law_two => k_is)
    (case k_law_two => k_is)
    (case a_law_good => k_is)
    (case l_law_good => k_is)
    (case c_law_good => k_is)
    (case k_law_good => k_is)
    (case a_law => k_is)
    (case l_law => k_is)
    (case c_law => k_is)
    (case k_law => k_is)
    (case z_len => k_is)
    (case z_range => k_is)
    (case z_str => k_is)
    (case z_isinstance => k_is)
    (case z_max => k_is)
    (case z_all => k_is)
    (case z_enumerate => k_is)
    (case z_ValueError => k_is)
    (case g0_MOST_DIGITS => k_is)
    (case g0_MOST_AHEAD => k_is)


