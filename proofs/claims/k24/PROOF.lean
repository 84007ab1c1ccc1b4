import PyProof.Rows.All
import Wide.All
import OpenK.AllK
import Wide.FinOn
import Lean
import PyProof.EqAt
import PyProof.EqKinds
import PyProof.TupleCall
import PySem.Challenge.RW_keyrise_k24_no_form
set_option Elab.async false
set_option linter.all false
set_option maxRecDepth 100000
/-! THE HAND LAYER, for ints, bools, texts, own classes, LISTS and tuples (index, slices, in, append, pop ..), calls, loops. Paste it whole ahead of your own text; what your proof does not reach may be deleted. -/
namespace L2
open PySem PySem.Spec PyProof.Rows

/-- a key: an int or a str -/
abbrev Key := Sum Int Str
def keyIs : Key → Value → Bool
  | .inl k, v => Value.isInt k v
  | .inr x, v => Value.isStrOf x v
def keyH (w : World) : Key → Int
  | .inl k => hashInt k
  | .inr x => hashStr w x
theorem keyIs_shape : ∀ {k : Key} {v : Value}, keyIs k v = true → (∃ i t, k = Sum.inl i ∧ v = Value.int i t) ∨ (∃ x t, k = Sum.inr x ∧ v = Value.str x t)
  | .inl i, v, h => by
    obtain ⟨t, e⟩ := Value.isInt_shape (k := i) (v := v) h
    exact .inl ⟨i, t, rfl, e⟩
  | .inr x, v, h => by
    obtain ⟨t, e⟩ := Value.isStrOf_shape (x := x) (v := v) h
    exact .inr ⟨x, t, rfl, e⟩
theorem key_ll (a b : Int) : decide ((Sum.inl a : Key) = Sum.inl b) = (a == b) := by
  by_cases e : a = b
  · subst e; simp
  · have h : ¬ (Sum.inl a : Key) = Sum.inl b := fun q => e (Sum.inl.inj q)
    rw [decide_eq_false h]
    exact (beq_eq_false_iff_ne.mpr e).symm
theorem key_rr (a b : Str) : decide ((Sum.inr a : Key) = Sum.inr b) = decide (a = b) := by
  by_cases e : a = b
  · subst e; simp
  · have h : ¬ (Sum.inr a : Key) = Sum.inr b := fun q => e (Sum.inr.inj q)
    rw [decide_eq_false h, decide_eq_false e]
theorem key_lr (a : Int) (b : Str) : decide ((Sum.inl a : Key) = Sum.inr b) = false := decide_eq_false (fun q => nomatch q)
theorem key_rl (a : Str) (b : Int) : decide ((Sum.inr a : Key) = Sum.inl b) = false := decide_eq_false (fun q => nomatch q)

def mixKind (prog : Program) (w : World) : PySem.KeyKind prog w Key where
  is := keyIs
  hash := keyH w
  inj := fun v a b ha hb => by
    rcases keyIs_shape ha with ⟨i, t, rfl, rfl⟩ | ⟨x, t, rfl, rfl⟩
    · rcases keyIs_shape hb with ⟨j, u, rfl, e⟩ | ⟨y, u, rfl, e⟩
      · injection e with e1 _; rw [e1]
      · exact nomatch e
    · rcases keyIs_shape hb with ⟨j, u, rfl, e⟩ | ⟨y, u, rfl, e⟩
      · exact nomatch e
      · injection e with e1 _; rw [e1]
  byValue := fun k v h => by
    rcases keyIs_shape h with ⟨i, t, rfl, rfl⟩ | ⟨x, t, rfl, rfl⟩ <;> rfl
  pyHash := fun hv h => by
    rcases keyIs_shape hv with ⟨i, t, rfl, rfl⟩ | ⟨x, t, rfl, rfl⟩
    · exact wpAny_pyHash_int h
    · exact wpAny_pyHash_str h
  eqBool := fun hu hv h => by
    rcases keyIs_shape hu with ⟨i, t, rfl, rfl⟩ | ⟨x, t, rfl, rfl⟩
    · rcases keyIs_shape hv with ⟨j, u, rfl, rfl⟩ | ⟨y, u, rfl, rfl⟩
      · rw [key_ll] at h; exact wpAny_eqBool_int h
      · rw [key_lr] at h; exact SeqAt.EqAt.int_str i t y u _ _ _ _ h
    · rcases keyIs_shape hv with ⟨j, u, rfl, rfl⟩ | ⟨y, u, rfl, rfl⟩
      · rw [key_rl] at h; exact SeqAt.EqAt.str_int x t j u _ _ _ _ h
      · rw [key_rr] at h; exact wpAny_eqBool_str h
  «strs» := fun k x t v h => by
    rcases keyIs_shape h with ⟨i, u, rfl, e⟩ | ⟨y, u, rfl, e⟩
    · exact nomatch e
    · injection e with e1 _
      subst e1
      cases v <;> rfl

end L2

namespace L2
open PySem PySem.Spec PyProof.Rows

/-- a value, without the heap -/
inductive V where
  | non | bl (b : Bool) | int (i : Int) | str (x : Str) | byt (b : Array UInt8) | flt (b : UInt64) | ref (a : Addr) | ty (n : String)
  deriving DecidableEq

def RelV : V → Value → Prop
  | .non, u => u = Value.none
  | .bl b, u => u = Value.bool b
  | .int i, u => ∃ t, u = Value.int i t
  | .str x, u => ∃ t, u = Value.str x t
  | .byt b, u => ∃ t, u = Value.bytes b t
  | .flt b, u => ∃ t, u = Value.float b t
  | .ref a, u => u = Value.ref a
  | .ty n, u => u = Value.type n

abbrev Vals : List V → List Value → Prop := Paired RelV
theorem Vals.length {xs : List V} {us : List Value} (r : Vals xs us) : xs.length = us.length := Paired.length r
theorem Vals.get : ∀ {xs : List V} {us : List Value} {i : Nat} {x : V}, Vals xs us → xs[i]? = some x → ∃ u, us[i]? = some u ∧ RelV x u
  | _, _, _, _, .nil, e => by simp at e
  | _, _, 0, _, .cons r _, e => by simp at e; subst e; exact ⟨_, rfl, r⟩
  | _, _, i + 1, x, .cons _ t, e => by
    obtain ⟨u, h1, h2⟩ := Vals.get (i := i) (x := x) t (by simpa using e)
    exact ⟨u, by simpa using h1, h2⟩
theorem Vals.set {x : V} {u : Value} (r : RelV x u) : ∀ {xs : List V} {us : List Value} (i : Nat), Vals xs us → Vals (xs.set i x) (us.set i u)
  | _, _, _, .nil => .nil
  | _, _, 0, .cons _ t => .cons r t
  | _, _, i + 1, .cons q t => .cons q (Vals.set r i t)
theorem Vals.append : ∀ {xs ys : List V} {us ws : List Value}, Vals xs us → Vals ys ws → Vals (xs ++ ys) (us ++ ws)
  | _, _, _, _, .nil, s => s
  | _, _, _, _, .cons r t, s => .cons r (Vals.append t s)
theorem Vals.take : ∀ {xs : List V} {us : List Value} (n : Nat), Vals xs us → Vals (xs.take n) (us.take n)
  | _, _, 0, _ => .nil
  | _, _, _ + 1, .nil => .nil
  | _, _, n + 1, .cons r t => .cons r (Vals.take n t)
theorem Vals.drop : ∀ {xs : List V} {us : List Value} (n : Nat), Vals xs us → Vals (xs.drop n) (us.drop n)
  | _, _, 0, r => r
  | _, _, _ + 1, .nil => .nil
  | _, _, n + 1, .cons _ t => Vals.drop n t
theorem Vals.none_of : ∀ {xs : List V} {us : List Value} {i : Nat}, Vals xs us → xs[i]? = none → us[i]? = none := fun {xs us i} r e => by
  have h1 := r.length
  have h2 : xs.length ≤ i := List.getElem?_eq_none_iff.mp e
  exact List.getElem?_eq_none_iff.mpr (by omega)

def RelO : Option V → Option Value → Prop
  | some v, some u => RelV v u
  | none, none => True
  | _, _ => False
def KV {κ : Type} : List (κ × V) → List (κ × Value) → Prop := Paired fun (p : κ × V) (q : κ × Value) => p.1 = q.1 ∧ RelV p.2 q.2

/-- a key of a dict (00_mix): an int or a text -/
def kV : Key → V
  | .inl i => .int i
  | .inr x => .str x

/-- what stands at a tracked address -/
inductive HO where
  /-- a list -/
  | lst (xs : List V)
  /-- a tuple (never changes) -/
  | tup (xs : List V)
  /-- a dict whose keys are ints and texts; one whose keys are tuples of ints and texts (the empty one is both) -/
  | dK (kvs : List (Key × V)) | dT (kvs : List (List Key × V))
  /-- a set of ints: its members, its size -/
  | set (S : Int → Bool) (n : Nat)
  /-- an instance of the class at C, its dict at dx, its attributes -/
  | ins (C dx : Addr) (fs : List (Str × V))
  /-- the dict of the instance at x -/
  | own (x : Addr)
  /-- the dict of an exception -/
  | xd (fs : List (Str × V))
  /-- a bound method, f of x -/
  | met (f x : Addr)
  /-- a range object lo, lo + 1, .. below hi -/
  | rng (lo hi : Int)
  /-- a thing that is known to the object (the script; a dict while a loop walks it): read, never written while it is so -/
  | frz (o : Obj) (u : HO)
  /-- a code object's table -/
  | tbl (ps : Array Value)
  /-- any other thing, by what is true of its one object (a def of one's own: SetO a S n := HO.ext fun h => ..) -/
  | ext (φ : Heap → Prop)

abbrev Hp := Addr → Option HO
def upd (H : Hp) (a : Addr) (o : HO) : Hp := fun b => if b = a then some o else H b
theorem upd_same {H : Hp} {a : Addr} {o : HO} : upd H a o a = some o := by unfold upd; rw [if_pos rfl]
theorem upd_ne {H : Hp} {a b : Addr} {o : HO} (h : b ≠ a) : upd H a o b = H b := by unfold upd; rw [if_neg h]
theorem ne_of_none {H : Hp} {a b : Addr} {o : HO} (h : H a = some o) (h' : H b = none) : a ≠ b := by
  intro e; subst e; rw [h] at h'; cases h'

section
variable (P : Program) (w : World)
def ObjOk (H : Hp) (h : Heap) (a : Addr) : HO → Prop
  | .lst xs => xs.length ≤ sizeLine ∧ ∃ (its : List Value) (n : Nat), Vals xs its ∧ h.get? a = some { cls := .type "list", data := .seq its.toArray n }
  | .tup xs => xs.length ≤ sizeLine ∧ ∃ its : List Value, Vals xs its ∧ IsTup h a its.toArray
  | .dK kvs => kvs.length ≤ sizeLine ∧ (a == sysModules) = false ∧ ∃ vs, KV kvs vs ∧ h.DictOf (mixKind P w) a vs
  | .dT _ => False
  | .set S n => h.SetOf (intKind P w) a S n
  | .ins C dx fs => H dx = some (.own a) ∧ fs.length ≤ 1000 ∧ dx ≠ a ∧ h.get? a = some (PySem.W.instObj C dx) ∧
      ∃ mA, h.Ns1 dx mA ∧ (∀ f, RelO (fs.lookup f) (mA f)) ∧ PySem.Within mA (fs.map (·.1))
  | .own _ => ∃ o, h.get? a = some o
  | .xd fs => ∃ mA, h.Ns1 a mA ∧ ∀ f, RelO (fs.lookup f) (mA f)
  | .rng lo hi => ∃ t u v, h.get? a = some { cls := .type "range", data := .fields #[.int lo t, .int hi u, .int 1 v] }
  | .frz o u => h.get? a = some o ∧ ObjOk H h a u
  | .tbl ps => h.get? a = some { cls := .none, data := .fields ps }
  | .met f x => h.get? a = some (PySem.W.methodObj (.ref f) (.ref x))
  | .ext φ => φ h ∧ (∃ o, h.get? a = some o) ∧ ∀ h1 h2 : Heap, φ h1 → (∀ o, h1.get? a = some o → h2.get? a = some o) → φ h2
/-- the abstract heap is held -/
def HOk (H : Hp) (h : Heap) : Prop := ∀ a o, H a = some o → ObjOk P w H h a o
end

section
variable {P : Program} {w : World} {H H' : Hp} {h h' : Heap} {a : Addr} {o : HO}
theorem ObjOk.lt (x : ObjOk P w H h a o) : a < h.objs.size := by
  cases o with
  | lst xs => obtain ⟨_, _, _, _, e⟩ := x; exact Heap.lt_size e
  | tup xs => obtain ⟨_, _, _, p⟩ := x; exact p.lt
  | dK kvs => obtain ⟨_, _, _, _, o, _, _, e, _⟩ := x; exact Heap.lt_size e
  | dT kvs => exact (show False from x).elim
  | set S n => obtain ⟨o, _, _, _, e, _⟩ := x; exact Heap.lt_size e
  | ins C dx fs => obtain ⟨_, _, _, e, _⟩ := x; exact Heap.lt_size e
  | own y => obtain ⟨_, e⟩ := x; exact Heap.lt_size e
  | xd fs => obtain ⟨_, ⟨_, _, _, e, _⟩, _⟩ := x; exact Heap.lt_size e
  | rng lo hi => obtain ⟨_, _, _, e⟩ := x; exact Heap.lt_size e
  | frz ob u => obtain ⟨e, _⟩ := x; exact Heap.lt_size e
  | tbl ps => exact Heap.lt_size (show h.get? a = some _ from x)
  | met f y => exact Heap.lt_size (show h.get? a = some _ from x)
  | ext φ => obtain ⟨_, ⟨_, e⟩, _⟩ := x; exact Heap.lt_size e
/-- what an object's description leans on: its own object, its own dict, the tuples -/
theorem ObjOk.stay (x : ObjOk P w H h a o) (k : ∀ b u, (b = a ∨ H b = some (.own a)) → h.get? b = some u → h'.get? b = some u)
    (ho : ∀ b, H b = some (.own a) → H' b = some (.own a)) (ht : ∀ b xs, H b = some (.tup xs) → H' b = some (.tup xs)) : ObjOk P w H' h' a o := by
  induction o with
  | lst xs => obtain ⟨z, its, n, r, e⟩ := x; exact ⟨z, its, n, r, k _ _ (.inl rfl) e⟩
  | tup xs => obtain ⟨z, its, r, ob, e, c⟩ := x; exact ⟨z, its, r, ob, k _ _ (.inl rfl) e, c⟩
  | dK kvs => obtain ⟨z, y, vs, r, ob, es, ep, e, c⟩ := x; exact ⟨z, y, vs, r, ob, es, ep, k _ _ (.inl rfl) e, c⟩
  | dT kvs => exact (show False from x).elim
  | set S n => obtain ⟨ob, es, ep, t, e, c⟩ := x; exact ⟨ob, es, ep, t, k _ _ (.inl rfl) e, c⟩
  | ins C dx fs =>
    obtain ⟨d, z, ne, e, mA, ⟨od, es, ep, e2, c⟩, r⟩ := x
    exact ⟨ho _ d, z, ne, k _ _ (.inl rfl) e, mA, ⟨od, es, ep, k _ _ (.inr d) e2, c⟩, r⟩
  | own y => obtain ⟨ob, e⟩ := x; exact ⟨ob, k _ _ (.inl rfl) e⟩
  | xd fs => obtain ⟨mA, ⟨od, es, ep, e, c⟩, r⟩ := x; exact ⟨mA, ⟨od, es, ep, k _ _ (.inl rfl) e, c⟩, r⟩
  | rng lo hi => obtain ⟨t, u, v, e⟩ := x; exact ⟨t, u, v, k _ _ (.inl rfl) e⟩
  | frz ob u ih => obtain ⟨e, q⟩ := x; exact ⟨k _ _ (.inl rfl) e, ih q⟩
  | tbl ps =>
    have e : h.get? a = some { cls := .none, data := .fields ps } := x
    show h'.get? a = some { cls := .none, data := .fields ps }
    exact k a _ (.inl rfl) e
  | met f y =>
    have e : h.get? a = some (PySem.W.methodObj (.ref f) (.ref y)) := x
    show h'.get? a = some (PySem.W.methodObj (.ref f) (.ref y))
    exact k a _ (.inl rfl) e
  | ext φ => obtain ⟨p, ⟨o, e⟩, st⟩ := x; exact ⟨st _ _ p fun o q => k _ _ (.inl rfl) q, ⟨o, k _ _ (.inl rfl) e⟩, st⟩
theorem HOk.lt (x : HOk P w H h) (e : H a = some o) : a < h.objs.size := (x a o e).lt
theorem HOk.fresh (x : HOk P w H h) (e : h.objs.size ≤ a) : H a = none := by
  cases q : H a with
  | none => rfl
  | some u => exact absurd (Nat.lt_of_lt_of_le (x.lt q) e) (Nat.lt_irrefl _)
/-- every object of the heap is kept -/
theorem HOk.kept (x : HOk P w H h) (k : ∀ b u, h.get? b = some u → h'.get? b = some u) : HOk P w H h' := fun a o e =>
  (x a o e).stay (fun b u _ q => k b u q) (fun _ q => q) fun _ _ q => q
/-- a new object is laid and tracked -/
theorem HOk.laid (x : HOk P w H h) (k : ∀ b u, h.get? b = some u → h'.get? b = some u) (hp : h.objs.size ≤ a) (new : ObjOk P w (upd H a o) h' a o) : HOk P w (upd H a o) h' := fun b u e => by
  have hn := x.fresh hp
  by_cases hb : b = a
  · subst hb; rw [upd_same] at e; cases e; exact new
  · rw [upd_ne hb] at e
    exact (x b u e).stay (fun c v _ q => k c v q) (fun c q => by rw [upd_ne (ne_of_none q hn)]; exact q) fun c xs q => by rw [upd_ne (ne_of_none q hn)]; exact q
end

/-- what may be read as u: it is u, or a known u -/
def Rd (H : Hp) (a : Addr) (u : HO) : Prop := H a = some u ∨ ∃ o, H a = some (.frz o u)
theorem Rd.of {H : Hp} {a : Addr} {u : HO} (h : H a = some u) : Rd H a u := .inl h
theorem Rd.ok {P : Program} {w : World} {H : Hp} {h : Heap} {a : Addr} {u : HO} (r : Rd H a u) (x : HOk P w H h) : ObjOk P w H h a u := by
  rcases r with r | ⟨o, r⟩
  · exact x a u r
  · obtain ⟨_, q⟩ := x a _ r
    exact q
/-- what may be written -/
def Mut : Option HO → Prop
  | some (.lst _) => True
  | some (.dK _) => True
  | some (.dT _) => True
  | some (.set _ _) => True
  | some (.ins _ _ _) => True
  | some (.ext _) => True
  | _ => False
section
variable {P : Program} {w : World} {H : Hp} {h h' : Heap} {x e : Addr} {o' : HO}
/-- the object at e is changed: x itself, or the dict of the instance x -/
theorem HOk.write (ok : HOk P w H h) (mu : Mut (H x)) (he : e = x ∨ H e = some (.own x)) (k : ∀ b u, b ≠ e → h.get? b = some u → h'.get? b = some u) (heo : ∃ u, h'.get? e = some u)
    (new : ObjOk P w (upd H x o') h' x o') : HOk P w (upd H x o') h' := fun b u q => by
  have nown : ∀ c y, H c = some (.own y) → c ≠ x := fun c y r z => by subst z; rw [r] at mu; exact mu
  have ntup : ∀ c xs, H c = some (.tup xs) → c ≠ x := fun c xs r z => by subst z; rw [r] at mu; exact mu
  by_cases hb : b = x
  · subst hb; rw [upd_same] at q; cases q; exact new
  · rw [upd_ne hb] at q
    by_cases hbe : b = e
    · have q' : H b = some (.own x) := by
        rcases he with z | z
        · exact absurd (hbe.trans z) hb
        · rw [hbe]; exact z
      rw [q] at q'; cases q'
      obtain ⟨v, hv⟩ := heo
      exact ⟨v, by rw [hbe]; exact hv⟩
    · refine (ok b u q).stay (fun c v hc r => k c v ?_ r) (fun c r => by rw [upd_ne (nown c b r)]; exact r) fun c xs r => by rw [upd_ne (ntup c xs r)]; exact r
      rcases hc with rfl | hc
      · exact hbe
      · rintro rfl
        rcases he with z | z
        · exact nown c b hc z
        · rw [hc] at z; cases z; exact hb rfl
end

/-! ### kept unless tracked; of the frames at fs (the callers') the slots may change (an exception that passes writes there); of the records at ex (iterators) nothing is said -/
structure Un (fs ex : List Addr) (H H' : Hp) (h h' : Heap) : Prop where
  keep : ∀ b o, h.get? b = some o → H b = none → b ∉ fs → b ∉ ex → h'.get? b = some o
  slot : ∀ b o, h.get? b = some o → H b = none → b ∈ fs → b ∉ ex → ∃ sl, h'.get? b = some { o with slots := sl }
  free : ∀ b o, h.get? b = some o → H b = none → b ∉ ex → H' b = none
  there : ∀ b o, h.get? b = some o → b ∉ ex → ∃ o', h'.get? b = some o'
  tups : ∀ b xs, H b = some (.tup xs) → H' b = some (.tup xs)
  frzs : ∀ b o u, H b = some (.frz o u) → H' b = some (.frz o u)
  tbls : ∀ b ps, H b = some (.tbl ps) → ∃ more, H' b = some (.tbl (ps ++ more))
section
variable {fs fs' ex ex' : List Addr} {H H1 H2 : Hp} {h h1 h2 h' : Heap} {a x e : Addr} {o : HO}
theorem Un.any (u : Un fs ex H H1 h h1) {b : Addr} {ob : Obj} (q : h.get? b = some ob) (n : H b = none) (hx : b ∉ ex) : ∃ sl, h1.get? b = some { ob with slots := sl } := by
  by_cases hb : b ∈ fs
  · exact u.slot b ob q n hb hx
  · exact ⟨ob.slots, u.keep b ob q n hb hx⟩
theorem Un.trans (a : Un fs ex H H1 h h1) (b : Un fs ex H1 H2 h1 h2) : Un fs ex H H2 h h2 where
  keep := fun c ob q n hc hx => b.keep c ob (a.keep c ob q n hc hx) (a.free c ob q n hx) hc hx
  slot := fun c ob q n hc hx => by
    obtain ⟨sl, e1⟩ := a.slot c ob q n hc hx
    obtain ⟨sl', e2⟩ := b.slot c _ e1 (a.free c ob q n hx) hc hx
    exact ⟨sl', e2⟩
  free := fun c ob q n hx => by
    obtain ⟨o', e1⟩ := a.there c ob q hx
    exact b.free c o' e1 (a.free c ob q n hx) hx
  there := fun c ob q hx => by
    obtain ⟨o', e1⟩ := a.there c ob q hx
    exact b.there c o' e1 hx
  tups := fun c xs q => b.tups c xs (a.tups c xs q)
  frzs := fun c ob xs q => b.frzs c ob xs (a.frzs c ob xs q)
  tbls := fun c ps q => by
    obtain ⟨m1, e1⟩ := a.tbls c ps q
    obtain ⟨m2, e2⟩ := b.tbls c _ e1
    exact ⟨m1 ++ m2, by rw [e2, Array.append_assoc]⟩
theorem Un.kept (k : ∀ b u, h.get? b = some u → h'.get? b = some u) : Un fs ex H H h h' :=
  ⟨fun b ob q _ _ _ => k b ob q, fun b ob q _ _ _ => ⟨ob.slots, k b ob q⟩, fun _ _ _ n _ => n, fun b ob q _ => ⟨ob, k b ob q⟩, fun _ _ q => q, fun _ _ _ q => q, fun _ ps q => ⟨#[], by rw [q]; simp⟩⟩
theorem Un.refl : Un fs ex H H h h := Un.kept fun _ _ q => q
theorem Un.laid (k : ∀ b u, h.get? b = some u → h'.get? b = some u) (hp : h.objs.size ≤ a) (hn : H a = none) : Un fs ex H (upd H a o) h h' where
  keep := fun b u q _ _ _ => k b u q
  slot := fun b u q _ _ _ => ⟨u.slots, k b u q⟩
  free := fun b u q n _ => by rw [upd_ne (Nat.ne_of_lt (Nat.lt_of_lt_of_le (Heap.lt_size q) hp))]; exact n
  there := fun b u q _ => ⟨u, k b u q⟩
  tups := fun b xs q => by rw [upd_ne (ne_of_none q hn)]; exact q
  frzs := fun b u xs q => by rw [upd_ne (ne_of_none q hn)]; exact q
  tbls := fun b ps q => ⟨#[], by rw [upd_ne (ne_of_none q hn), q]; simp⟩
theorem Un.write (mu : Mut (H x)) (he : e = x ∨ H e = some (.own x)) (k : ∀ b u, b ≠ e → h.get? b = some u → h'.get? b = some u) (heo : ∃ u, h'.get? e = some u) : Un fs ex H (upd H x o) h h' := by
  have hx : ∀ b, H b = none → b ≠ x := fun b n z => by subst z; rw [n] at mu; exact mu
  have hb : ∀ b, H b = none → b ≠ e := fun b n z => by
    subst z
    rcases he with r | r
    · exact hx b n r
    · rw [n] at r; cases r
  have hm : ∀ b u, H b = some u → ¬ Mut (some u) → b ≠ x := fun b u q nm z => by subst z; rw [q] at mu; exact nm mu
  refine ⟨fun b u q n _ _ => k b u (hb b n) q, fun b u q n _ _ => ⟨u.slots, k b u (hb b n) q⟩, fun b u q n _ => by rw [upd_ne (hx b n)]; exact n, fun b u q _ => ?_,
    fun b xs q => by rw [upd_ne (hm b _ q fun z => z)]; exact q, fun b u xs q => by rw [upd_ne (hm b _ q fun z => z)]; exact q, fun b ps q => ⟨#[], by rw [upd_ne (hm b _ q fun z => z), q]; simp⟩⟩
  by_cases hbe : b = e
  · subst hbe; exact heo
  · exact ⟨u, k b u hbe q⟩
theorem Un.mono (u : Un fs ex H H1 h h1) (hs : ∀ b ∈ fs, b ∈ fs') (hx : ∀ b ∈ ex, b ∈ ex') : Un fs' ex' H H1 h h1 :=
  ⟨fun b ob q n hb he => u.keep b ob q n (fun z => hb (hs b z)) fun z => he (hx b z), fun _ _ q n _ he => u.any q n fun z => he (hx _ z), fun b ob q n he => u.free b ob q n fun z => he (hx b z), fun b ob q he => u.there b ob q fun z => he (hx b z), u.tups, u.frzs, u.tbls⟩
end

/-! ### the heap without what is tracked -/
def trk (h : Heap) (H : Hp) : List Addr := (List.range h.objs.size).filter fun a => (H a).isSome
def hidT (h : Heap) (H : Hp) : Heap := PySem.W.hideAll h (trk h H)
theorem hidT_size (h : Heap) (H : Hp) : (hidT h H).objs.size = h.objs.size := PySem.W.hideAll_size _ _
theorem hidT_get {h : Heap} {H : Hp} {b : Addr} {o : Obj} (e : h.get? b = some o) (n : H b = none) : (hidT h H).get? b = some o :=
  PySem.W.hideAll_get _ e fun hm => by
    have q : (H b).isSome = true := (List.mem_filter.mp hm).2
    rw [n] at q; simp at q
theorem of_hidT {h : Heap} {H : Hp} {b : Addr} {o : Obj} (e : (hidT h H).get? b = some o) : h.get? b = some o ∧ H b = none := by
  have e' : h.get? b = some o := PySem.W.of_hideAll (trk h H) e
  refine ⟨e', ?_⟩
  cases q : H b with
  | none => rfl
  | some x =>
    have hm : b ∈ trk h H := List.mem_filter.mpr ⟨List.mem_range.mpr (Heap.lt_size e'), by simp [q]⟩
    have z : (hidT h H).get? b = none := PySem.W.hideAll_none (trk h H) hm
    rw [z] at e; cases e

/-! ### OpenK's ledger, filled with every new object but one -/
def allNews (g h : Heap) (L : Addr) : List (Addr × Obj) := (List.range h.objs.size).filterMap fun a => if a = L ∨ (g.get? a).isSome = true then none else (h.get? a).map fun o => (a, o)
def rest (g h : Heap) (L d : Addr) : List (Addr × Obj) := (allNews g h L).filter fun p => decide (p.1 ≠ d)
end L2

namespace L2
open PySem PySem.Spec PyProof.Rows

/-- the module's facts, over the base: the heap at the law's entry without what is tracked there -/
structure Mod (K : PySem.W.Frag) (mg : Str → Option Value) (base : Heap) : Prop where
  kin : K.In base
  glob : base.Ns mainGlobals mg
  blt : ∃ mb, base.Ns builtinsNs mb ∧ ∀ x : Str, x ≠ "__name__" → mb x = bootBuiltins x
  nolimit : base.NoLimit

/-- the context: a def's body (or a comprehension's block) running. base: fixed through the whole law; s₀, H₀: the entry; outer: the frames whose slots others may change (a def's callers); stack: all frames that run;
   ex: iterators that were made ahead of the entry and are walked here (a comprehension's); fn: the names whose cells were made at the entry (a def: all; a comprehension's block: its own); calm: not within an except suite; pn: pins that every state bears; xe: what is wanted of an exception that leaves the code -/
structure Cx where
  prog : Program
  w : World
  K : PySem.W.Frag
  mg : Str → Option Value
  base : Heap
  A : Around
  N : List Str
  s₀ : Shared
  H₀ : Hp
  env : Env
  outer : List Env
  stack : List Env
  ex : List Addr
  fn : Str → Bool
  calm : Bool
  pn : List (Addr × Obj)
  xe : Value → Shared → Prop
/-- the callers' frames -/
def frs (l : List Env) : List Addr := l.filterMap (·.frame)
abbrev Cx.fs (X : Cx) : List Addr := frs X.outer

def Vis (sc : Scope) (x : Str) : Prop := sc.names.lookup x = some .local ∨ sc.names.lookup x = some .cell ∨ sc.names.lookup x = some .free
def Loc (sc : Scope) (x : Str) : Prop := sc.names.lookup x = some .local ∨ sc.names.lookup x = some .cell
def Look (env : Env) (h : Heap) (m : Str → Option Value) (x : Str) (u : Value) : Prop :=
  (env.kindOf x = some .local ∧ m x = some u) ∨ ((env.kindOf x = some .cell ∨ env.kindOf x = some .free) ∧ ∃ c, env.cells.lookup x = some c ∧ h.IsCell c (some u))

structure Cx.Ok (X : Cx) : Prop where
  mod : Mod X.K X.mg X.base
  kind : X.env.scope.kind = .function
  glob : X.env.globals = mainGlobals
  blt : X.env.builtins = builtinsNs
  above : X.s₀.heap.objs.size ≤ X.env.locals
  inj : ∀ x y c, X.env.cells.lookup x = some c → X.env.cells.lookup y = some c → x = y
  has : ∀ x, (X.env.kindOf x = some .cell ∨ X.env.kindOf x = some .free) → ∃ c, X.env.cells.lookup x = some c
  cab : ∀ x c, X.fn x = true → X.env.cells.lookup x = some c → X.s₀.heap.objs.size ≤ c
  hd : X.calm = true → X.A.handled = none
  frames : X.A.frames = some X.stack
  stk : X.stack = X.outer ∨ (X.stack = X.env :: X.outer ∧ X.env.frame = some X.env.locals)
  exf : ∀ b ∈ X.ex, b ≠ X.env.locals ∧ ∀ x c, X.env.cells.lookup x = some c → c ≠ b
  bs : ∀ b o, X.base.get? b = some o → X.s₀.heap.get? b = some o ∧ X.H₀ b = none
  bsz : X.base.objs.size ≤ X.s₀.heap.objs.size
  noex : ∀ b o, X.base.get? b = some o → b ∉ X.ex
  exfs : ∀ b ∈ X.ex, b ∉ X.fs
  funs : X.s₀.heap.FunFrames X.base X.outer
  frf : ∀ b ∈ X.fs, X.H₀ b = none

structure Inv (X : Cx) (pins : List (Addr × Obj)) (σ : List (Option V)) (H : Hp) (s : Shared) : Prop where
  ok : X.Ok
  os : s.os = X.s₀.os
  bare : AllBare s.gens
  base : Un X.fs X.ex X.H₀ H X.s₀.heap s.heap
  loc : ∃ m, s.heap.Ns X.env.locals m ∧ ∀ (i : Nat) (x : Str) (v : V), X.N[i]? = some x → σ[i]? = some (some v) → Vis X.env.scope x → ∃ u, RelV v u ∧ Look X.env s.heap m x u
  cell : ∀ x c, X.env.cells.lookup x = some c → ∃ v, s.heap.IsCell c v
  free : H X.env.locals = none
  freeC : ∀ x c, X.env.cells.lookup x = some c → H c = none
  pin : ∀ p ∈ X.pn ++ pins, s.heap.get? p.1 = some p.2 ∧ H p.1 = none ∧ p.1 ≠ X.env.locals ∧ p.1 ∉ X.fs ∧ ∀ v, p.2.data ≠ .cell v
  hok : HOk X.prog X.w H s.heap
  len : σ.length = X.N.length

section
variable {X : Cx} {pins : List (Addr × Obj)} {σ : List (Option V)} {H H' : Hp} {s : Shared} {h' : Heap}

theorem Cx.Ok.nofr (ok : X.Ok) {b : Addr} {o : Obj} (e : X.base.get? b = some o) : b ∉ X.fs := fun hb => by
  have := (ok.funs.mem hb).1
  rw [e] at this; cases this
theorem Inv.bs (I : Inv X pins σ H s) : ∀ b o, X.base.get? b = some o → s.heap.get? b = some o ∧ H b = none := fun b o e =>
  ⟨I.base.keep b o (I.ok.bs b o e).1 (I.ok.bs b o e).2 (I.ok.nofr e) (I.ok.noex b o e), I.base.free b o (I.ok.bs b o e).1 (I.ok.bs b o e).2 (I.ok.noex b o e)⟩
theorem Inv.bk (I : Inv X pins σ H s) : ∀ b o, X.base.get? b = some o → s.heap.get? b = some o := fun b o e => (I.bs b o e).1
theorem Inv.mod (I : Inv X pins σ H s) : Mod X.K X.mg X.base := I.ok.mod
theorem Inv.kIn (I : Inv X pins σ H s) : X.K.In s.heap := I.ok.mod.kin.keeps I.bk
theorem Inv.nolimit (I : Inv X pins σ H s) : s.heap.NoLimit := I.ok.mod.nolimit.keeps I.bk
/-- the frame over the base: for OpenK's rules (K.In X.base is I.mod.kin) -/
theorem Inv.fr (I : Inv X pins σ H s) : ∃ m, Fr X.base X.env.locals s.heap m :=
  let ⟨m, hn, _⟩ := I.loc
  ⟨m, hn, I.bk, Nat.le_trans I.ok.bsz I.ok.above⟩
theorem Inv.lt (I : Inv X pins σ H s) : X.env.locals < s.heap.objs.size := let ⟨_, hn, _⟩ := I.loc; hn.lt
theorem Inv.sz (I : Inv X pins σ H s) : X.s₀.heap.objs.size ≤ s.heap.objs.size := Nat.le_trans I.ok.above (Nat.le_of_lt I.lt)
theorem Inv.nofs (I : Inv X pins σ H s) {a : Addr} (h : s.heap.objs.size ≤ a) : a ∉ X.fs := fun hb => by
  obtain ⟨_, o, ho, _⟩ := I.ok.funs.mem hb
  exact absurd (Nat.lt_of_lt_of_le (Heap.lt_size ho) (Nat.le_trans I.sz h)) (Nat.lt_irrefl _)
theorem Inv.cne (I : Inv X pins σ H s) : ∀ x c, X.env.cells.lookup x = some c → c ≠ X.env.locals := fun x c e z => by
  obtain ⟨v, o, ho, hd⟩ := I.cell x c e
  obtain ⟨m, ⟨o', es, ep, ho', hd', _⟩, _⟩ := I.loc
  rw [z, ho'] at ho; cases ho; rw [hd'] at hd; cases hd
theorem Inv.funs (I : Inv X pins σ H s) : s.heap.FunFrames X.base X.outer := by
  have all : ∀ (l : List Env), (∀ b ∈ frs l, b ∈ X.fs) → X.s₀.heap.FunFrames X.base l → s.heap.FunFrames X.base l := by
    intro l
    induction l with
    | nil => intro _ _; trivial
    | cons env r ih =>
      intro hs hl
      obtain ⟨hk, ⟨L, o, hf, hn, ho, hd⟩, hr⟩ := hl
      have hL : L ∈ X.fs := hs L (by unfold frs; rw [List.filterMap_cons, hf]; exact List.mem_cons_self)
      obtain ⟨sl, e⟩ := I.base.slot L o ho (I.ok.frf L hL) hL fun z => I.ok.exfs L z hL
      exact ⟨hk, ⟨L, _, hf, hn, e, hd⟩, ih (fun b hb => hs b (by unfold frs; rw [List.filterMap_cons, hf]; exact List.mem_cons_of_mem _ hb)) hr⟩
  exact all X.outer (fun _ hb => hb) I.ok.funs

/-- the frames that run, for a call -/
theorem Inv.stack (I : Inv X pins σ H s) : s.heap.FunFrames X.base X.stack := by
  rcases I.ok.stk with e | ⟨e, hf⟩
  · rw [e]; exact I.funs
  · rw [e]
    obtain ⟨m, hn, _⟩ := I.loc
    refine .cons (by rw [I.ok.kind]; decide) hf hn ?_ I.funs
    exact Heap.get?_none_of_le (Nat.le_trans I.ok.bsz I.ok.above)
theorem Inv.stkSub (I : Inv X pins σ H s) : ∀ b ∈ frs X.stack, b ∈ X.env.locals :: X.fs := fun b hb => by
  rcases I.ok.stk with e | ⟨e, hf⟩
  · rw [e] at hb; exact List.mem_cons_of_mem _ hb
  · rw [e] at hb
    unfold frs at hb
    rw [List.filterMap_cons, hf] at hb
    exact hb
theorem Inv.stkFree (I : Inv X pins σ H s) : ∀ b ∈ frs X.stack, H b = none := fun b hb => by
  rcases List.mem_cons.mp (I.stkSub b hb) with e | hb
  · rw [e]; exact I.free
  · obtain ⟨_, o, ho, _⟩ := I.ok.funs.mem hb
    exact I.base.free b o ho (I.ok.frf b hb) fun z => I.ok.exfs b z hb

/-- THE STEP: the untracked objects but the frame and the records at ch are kept (the callers' frames up to slots), the frame's map is kept, the new abstract heap is held -/
theorem Inv.step {g' : Array GenState} {t' : Nat} {d' : Drawn} {ch : List Addr} (I : Inv X pins σ H s)
    (hch : ∀ b ∈ ch, (b ∈ X.ex ∨ X.s₀.heap.objs.size ≤ b) ∧ b ≠ X.env.locals ∧ (∀ x c, X.env.cells.lookup x = some c → c ≠ b) ∧ ∀ p ∈ X.pn ++ pins, p.1 ≠ b)
    (keep : ∀ b o, b ≠ X.env.locals → b ∉ X.fs → b ∉ ch → s.heap.get? b = some o → H b = none → h'.get? b = some o)
    (slot : ∀ b o, b ≠ X.env.locals → b ∈ X.fs → b ∉ ch → s.heap.get? b = some o → H b = none → ∃ sl, h'.get? b = some { o with slots := sl }) (free : ∀ b o, b ∉ ch → s.heap.get? b = some o → H b = none → H' b = none)
    (there : ∀ b o, b ∉ ch → s.heap.get? b = some o → ∃ o', h'.get? b = some o')
    (tups : ∀ b xs, H b = some (.tup xs) → H' b = some (.tup xs)) (frzs : ∀ b o u, H b = some (.frz o u) → H' b = some (.frz o u)) (tbls : ∀ b ps, H b = some (.tbl ps) → ∃ more, H' b = some (.tbl (ps ++ more)))
    (ns : ∀ m, s.heap.Ns X.env.locals m → h'.Ns X.env.locals m) (hok : HOk X.prog X.w H' h') (hg : AllBare g') :
    Inv X pins σ H' { s with heap := h', gens := g', drawn := d', toks := t' } := by
  have neL : ∀ b o, X.s₀.heap.get? b = some o → b ≠ X.env.locals := fun b o e => Nat.ne_of_lt (Nat.lt_of_lt_of_le (Heap.lt_size e) I.ok.above)
  have neC : ∀ b o, X.s₀.heap.get? b = some o → b ∉ X.ex → b ∉ ch := fun b o e hx hb => by
    rcases (hch b hb).1 with z | z
    · exact hx z
    · exact absurd (Nat.lt_of_lt_of_le (Heap.lt_size e) z) (Nat.lt_irrefl _)
  have cellK : ∀ x c, X.env.cells.lookup x = some c → ∀ v, s.heap.IsCell c v → h'.IsCell c v := fun x c e v ⟨o, ho, hd⟩ => by
    have nch : c ∉ ch := fun z => (hch c z).2.2.1 x c e rfl
    by_cases hc : c ∈ X.fs
    · obtain ⟨sl, q⟩ := slot c o (I.cne x c e) hc nch ho (I.freeC x c e)
      exact ⟨_, q, hd⟩
    · exact ⟨o, keep c o (I.cne x c e) hc nch ho (I.freeC x c e), hd⟩
  refine ⟨I.ok, I.os, hg, ⟨fun b o e n hb hx => ?_, fun b o e n hb hx => ?_, fun b o e n hx => ?_, fun b o e hx => ?_, fun b xs e => tups b xs (I.base.tups b xs e), fun b o xs e => frzs b o xs (I.base.frzs b o xs e), fun b ps e => ?_⟩, ?_, fun x c e => ?_, ?_, fun x c e => ?_, fun p hp => ?_, hok, I.len⟩
  · exact keep b o (neL b o e) hb (neC b o e hx) (I.base.keep b o e n hb hx) (I.base.free b o e n hx)
  · obtain ⟨sl, e1⟩ := I.base.slot b o e n hb hx
    obtain ⟨sl', e2⟩ := slot b _ (neL b o e) hb (neC b o e hx) e1 (I.base.free b o e n hx)
    exact ⟨sl', e2⟩
  · obtain ⟨o', e1⟩ := I.base.there b o e hx
    exact free b o' (neC b o e hx) e1 (I.base.free b o e n hx)
  · obtain ⟨o', e1⟩ := I.base.there b o e hx
    exact there b o' (neC b o e hx) e1
  · obtain ⟨m1, e1⟩ := I.base.tbls b ps e
    obtain ⟨m2, e2⟩ := tbls b _ e1
    exact ⟨m1 ++ m2, by rw [e2, Array.append_assoc]⟩
  · obtain ⟨m, hn, hl⟩ := I.loc
    refine ⟨m, ns m hn, fun i x v e1 e2 e3 => ?_⟩
    obtain ⟨u, r, l⟩ := hl i x v e1 e2 e3
    refine ⟨u, r, ?_⟩
    rcases l with l | ⟨k, c, e, z⟩
    · exact .inl l
    · exact .inr ⟨k, c, e, cellK x c e _ z⟩
  · obtain ⟨v, z⟩ := I.cell x c e
    exact ⟨v, cellK x c e v z⟩
  · obtain ⟨m, ⟨o, _, _, ho, _⟩, _⟩ := I.loc
    exact free _ o (fun z => (hch _ z).2.1 rfl) ho I.free
  · obtain ⟨v, o, ho, hd⟩ := I.cell x c e
    exact free c o (fun z => (hch c z).2.2.1 x c e rfl) ho (I.freeC x c e)
  · obtain ⟨e, n, ne, nf, d⟩ := I.pin p hp
    have nch : p.1 ∉ ch := fun z => (hch p.1 z).2.2.2 p hp rfl
    exact ⟨keep p.1 p.2 ne nf nch e n, free p.1 p.2 nch e n, ne, nf, d⟩
/-- .. where the frame's own object is kept too -/
theorem Inv.un {t' : Nat} (I : Inv X pins σ H s) (u : Un X.fs [] H H' s.heap h') (hok : HOk X.prog X.w H' h') : Inv X pins σ H' { s with heap := h', toks := t' } := by
  obtain ⟨m, ⟨o, es, ep, ho, r⟩, _⟩ := id I.loc
  obtain ⟨sl, hL⟩ := u.any ho I.free (by simp)
  exact I.step (g' := s.gens) (d' := s.drawn) (ch := []) (fun _ z => nomatch z) (fun b o _ hb _ e n => u.keep b o e n hb (by simp)) (fun b o _ hb _ e n => u.slot b o e n hb (by simp)) (fun b o _ e n => u.free b o e n (by simp)) (fun b o _ e => u.there b o e (by simp)) u.tups u.frzs u.tbls (fun m' hm => by
    obtain ⟨o', es', ep', ho', r'⟩ := hm
    rw [ho] at ho'; cases ho'
    exact ⟨_, es', ep', hL, r'⟩) hok I.bare
/-- behind a call (or a comprehension's block): the slots of this frame may have changed too, the records at ch may have turned -/
theorem Inv.call {g' : Array GenState} {t' : Nat} {d' : Drawn} {ch : List Addr} (I : Inv X pins σ H s) (u : Un (frs X.stack) ch H H' s.heap h') (hok : HOk X.prog X.w H' h') (hg : AllBare g')
    (hch : ∀ b ∈ ch, (b ∈ X.ex ∨ X.s₀.heap.objs.size ≤ b) ∧ b ≠ X.env.locals ∧ (∀ x c, X.env.cells.lookup x = some c → c ≠ b) ∧ ∀ p ∈ X.pn ++ pins, p.1 ≠ b) :
    Inv X pins σ H' { s with heap := h', gens := g', drawn := d', toks := t' } := by
  obtain ⟨m, ⟨o, es, ep, ho, r⟩, _⟩ := id I.loc
  obtain ⟨sl, hL⟩ := u.any ho I.free fun z => (hch _ z).2.1 rfl
  exact I.step (ch := ch) hch (fun b o hL hb hc e n => u.keep b o e n (fun z => (List.mem_cons.mp (I.stkSub b z)).elim hL hb) hc) (fun b o _ _ hc e n => u.any e n hc) (fun b o hc e n => u.free b o e n hc) (fun b o hc e => u.there b o e hc) u.tups u.frzs u.tbls (fun m' hm => by
    obtain ⟨o', es', ep', ho', r'⟩ := hm
    rw [ho] at ho'; cases ho'
    exact ⟨_, es', ep', hL, r'⟩) hok hg
/-- an untracked record of ours (an iterator) has turned -/
theorem Inv.turned {t' : Nat} {it : Addr} (I : Inv X pins σ H s) (k : ∀ b o, b ≠ it → s.heap.get? b = some o → h'.get? b = some o) (hn : H it = none) (hL : it ≠ X.env.locals)
    (h1 : it ∈ X.ex ∨ X.s₀.heap.objs.size ≤ it) (h2 : ∀ x c, X.env.cells.lookup x = some c → c ≠ it) (h3 : ∀ p ∈ X.pn ++ pins, p.1 ≠ it) : Inv X pins σ H { s with heap := h', toks := t' } := by
  have nit : ∀ b u, H b = some u → b ≠ it := fun b u e z => by rw [z, hn] at e; cases e
  refine I.step (g' := s.gens) (d' := s.drawn) (ch := [it]) (fun b hb => ?_) (fun b o _ _ hc e _ => k b o (fun z => hc (by simp [z])) e) (fun b o _ _ hc e _ => ⟨o.slots, k b o (fun z => hc (by simp [z])) e⟩) (fun _ _ _ _ n => n)
    (fun b o hc e => ⟨o, k b o (fun z => hc (by simp [z])) e⟩) (fun _ _ e => e) (fun _ _ _ e => e) (fun b ps e => ⟨#[], by rw [e]; simp⟩) (fun m hm => ?_) (fun b u e => ?_) I.bare
  · have e : b = it := by simpa using hb
    subst e
    exact ⟨h1, hL, h2, h3⟩
  · obtain ⟨o, es, ep, ho, r⟩ := hm
    exact ⟨o, es, ep, k _ o (Ne.symm hL) ho, r⟩
  · refine (I.hok b u e).stay (fun c v hc q => k c v ?_ q) (fun _ q => q) fun _ _ q => q
    rcases hc with z | z
    · rw [z]; exact nit b u e
    · exact nit c _ z
theorem Inv.tok (I : Inv X pins σ H s) (t : Nat) : Inv X pins σ H { s with toks := t } := I.un (h' := s.heap) (t' := t) Un.refl I.hok
/-- all objects kept -/
theorem Inv.kept {t' : Nat} (I : Inv X pins σ H s) (k : ∀ b u, s.heap.get? b = some u → h'.get? b = some u) : Inv X pins σ H { s with heap := h', toks := t' } := I.un (Un.kept k) (I.hok.kept k)
/-- a new object laid and tracked -/
theorem Inv.laid {a : Addr} {o : HO} {t' : Nat} (I : Inv X pins σ H s) (k : ∀ b u, s.heap.get? b = some u → h'.get? b = some u) (hp : s.heap.objs.size ≤ a) (new : ObjOk X.prog X.w (upd H a o) h' a o) :
    Inv X pins σ (upd H a o) { s with heap := h', toks := t' } := I.un (Un.laid k hp (I.hok.fresh hp)) (I.hok.laid k hp new)
/-- an object written -/
theorem Inv.write {x e : Addr} {o : HO} {t' : Nat} (I : Inv X pins σ H s) (mu : Mut (H x)) (he : e = x ∨ H e = some (.own x)) (k : ∀ b u, b ≠ e → s.heap.get? b = some u → h'.get? b = some u) (heo : ∃ u, h'.get? e = some u)
    (new : ObjOk X.prog X.w (upd H x o) h' x o) : Inv X pins σ (upd H x o) { s with heap := h', toks := t' } := I.un (Un.write mu he k heo) (I.hok.write mu he k heo new)
theorem Inv.pins_of {pins' : List (Addr × Obj)} (I : Inv X pins σ H s) (h : ∀ p ∈ pins', s.heap.get? p.1 = some p.2 ∧ H p.1 = none ∧ p.1 ≠ X.env.locals ∧ p.1 ∉ X.fs ∧ ∀ v, p.2.data ≠ .cell v) : Inv X pins' σ H s :=
  ⟨I.ok, I.os, I.bare, I.base, I.loc, I.cell, I.free, I.freeC, fun p hp => (List.mem_append.mp hp).elim (fun z => I.pin p (List.mem_append_left _ z)) (h p), I.hok, I.len⟩

theorem nodup_ix {N : List Str} (hN : N.Nodup) {i j : Nat} {x : Str} (a : N[i]? = some x) (b : N[j]? = some x) : i = j := by
  obtain ⟨h1, e1⟩ := List.getElem?_eq_some_iff.mp a
  obtain ⟨h2, e2⟩ := List.getElem?_eq_some_iff.mp b
  exact (List.getElem_inj hN).mp (e1.trans e2.symm)

/-- a name is stored; what changed -/
theorem store_ok2 {M : Model} {A : Around} {E : Value → Shared → Prop} {i : Nat} {x : Str} {v : V} {u : Value} {Q : Unit → Shared → Prop} (I : Inv X pins σ H s) (hN : X.N.Nodup) (hi : X.N[i]? = some x) (hx : Loc X.env.scope x) (r : RelV v u)
    (h : ∀ s', Inv X pins (σ.set i (some v)) H s' → (∃ a, Heap.SameBut a s.heap s'.heap ∧ (a = X.env.locals ∨ X.env.cells.lookup x = some a)) → Q () s') (hf : X.fn x = true ∨ X.env.scope.names.lookup x = some .local := by first | exact .inl rfl | exact .inr rfl | assumption) : wpAny M A (storeName X.env x u) Q E s := by
  obtain ⟨m, hn, hl⟩ := id I.loc
  have hcls : (X.env.scope.kind == .class || (X.env.scope.kind == .module && X.env.locals != X.env.globals)) = false := by rw [I.ok.kind]; rfl
  have hiσ : i < σ.length := by rw [I.len]; exact (List.getElem?_eq_some_iff.mp hi).1
  have cne := I.cne
  have tracked : ∀ {a : Addr} {h' : Heap}, (∃ o, s.heap.get? a = some o ∧ H a = none) → Heap.SameBut a s.heap h' → HOk X.prog X.w H h' := fun {a h'} ha hs b ob e => by
    obtain ⟨_, _, hfree⟩ := ha
    refine (I.hok b ob e).stay (fun c w' hc q => (hs.2 c ?_).trans q) (fun _ q => q) fun _ _ q => q
    rintro rfl
    rcases hc with rfl | hc
    · rw [hfree] at e; cases e
    · rw [hfree] at hc; cases hc
  rcases hx with hk | hk
  · refine wpAny_storeName_local hk hn (fun h' hn' hs => ?_) hcls
    obtain ⟨oL, _, _, hoL, _⟩ := id hn
    refine h _ ⟨I.ok, I.os, I.bare, ⟨fun b o e n hb hx => ?_, fun b o e n hb hx => ?_, I.base.free, fun b o e hx => ?_, I.base.tups, I.base.frzs, I.base.tbls⟩, ⟨_, hn', fun j y v' e1 e2 e3 => ?_⟩, fun y c e => ?_, I.free, I.freeC, fun p hp => ?_, tracked ⟨oL, hoL, I.free⟩ hs, by simpa using I.len⟩ ⟨_, hs, .inl rfl⟩
    · exact (hs.2 b (Nat.ne_of_lt (Nat.lt_of_lt_of_le (Heap.lt_size e) I.ok.above))).trans (I.base.keep b o e n hb hx)
    · obtain ⟨sl, e1⟩ := I.base.slot b o e n hb hx
      exact ⟨sl, (hs.2 b (Nat.ne_of_lt (Nat.lt_of_lt_of_le (Heap.lt_size e) I.ok.above))).trans e1⟩
    · obtain ⟨o', e1⟩ := I.base.there b o e hx
      exact ⟨o', (hs.2 b (Nat.ne_of_lt (Nat.lt_of_lt_of_le (Heap.lt_size e) I.ok.above))).trans e1⟩
    · by_cases hj : j = i
      · subst hj
        rw [hi] at e1; cases e1
        rw [List.getElem?_set_self hiσ] at e2
        cases e2
        exact ⟨u, r, .inl ⟨hk, by simp⟩⟩
      · rw [List.getElem?_set_ne (Ne.symm hj)] at e2
        obtain ⟨u', r', q⟩ := hl j y v' e1 e2 e3
        refine ⟨u', r', ?_⟩
        rcases q with ⟨k, e⟩ | ⟨k, c, e, z⟩
        · refine .inl ⟨k, ?_⟩
          have : y ≠ x := fun e => hj (nodup_ix hN e1 (e ▸ hi))
          simp [this, e]
        · exact .inr ⟨k, c, e, z.sameBut hs (cne y c e)⟩
    · obtain ⟨w', z⟩ := I.cell y c e
      exact ⟨w', z.sameBut hs (cne y c e)⟩
    · obtain ⟨e, n, ne, nf, d⟩ := I.pin p hp
      exact ⟨(hs.2 p.1 ne).trans e, n, ne, nf, d⟩
  · have hfn : X.fn x = true := by
      rcases hf with z | z
      · exact z
      · rw [z] at hk; cases hk
    obtain ⟨c, hc⟩ := I.ok.has x (.inl hk)
    obtain ⟨w', z⟩ := I.cell x c hc
    refine wpAny_storeName_cell I.ok.kind hk hc z (fun h' hc' hs => ?_)
    obtain ⟨oc, hoc, hocd⟩ := id z
    refine h { s with heap := h' } ⟨I.ok, I.os, I.bare, ⟨fun b o e n hb hx => ?_, fun b o e n hb hx => ?_, I.base.free, fun b o e hx => ?_, I.base.tups, I.base.frzs, I.base.tbls⟩, ⟨m, hn.sameBut hs (Ne.symm (cne x c hc)), fun j y v' e1 e2 e3 => ?_⟩, fun y c' e => ?_, I.free, I.freeC, fun p hp => ?_, tracked ⟨oc, hoc, I.freeC x c hc⟩ hs, by simpa using I.len⟩ ⟨c, hs, .inr hc⟩
    · exact (hs.2 b (Nat.ne_of_lt (Nat.lt_of_lt_of_le (Heap.lt_size e) (I.ok.cab x c hfn hc)))).trans (I.base.keep b o e n hb hx)
    · obtain ⟨sl, e1⟩ := I.base.slot b o e n hb hx
      exact ⟨sl, (hs.2 b (Nat.ne_of_lt (Nat.lt_of_lt_of_le (Heap.lt_size e) (I.ok.cab x c hfn hc)))).trans e1⟩
    · obtain ⟨o', e1⟩ := I.base.there b o e hx
      exact ⟨o', (hs.2 b (Nat.ne_of_lt (Nat.lt_of_lt_of_le (Heap.lt_size e) (I.ok.cab x c hfn hc)))).trans e1⟩
    · by_cases hj : j = i
      · subst hj
        rw [hi] at e1; cases e1
        rw [List.getElem?_set_self hiσ] at e2
        cases e2
        exact ⟨u, r, .inr ⟨.inl hk, c, hc, hc'⟩⟩
      · rw [List.getElem?_set_ne (Ne.symm hj)] at e2
        obtain ⟨u', r', q⟩ := hl j y v' e1 e2 e3
        refine ⟨u', r', ?_⟩
        rcases q with q | ⟨k, c', e, z'⟩
        · exact .inl q
        · refine .inr ⟨k, c', e, z'.sameBut hs ?_⟩
          rintro rfl
          exact hj (nodup_ix hN e1 (I.ok.inj _ _ _ e hc ▸ hi))
    · by_cases hcc : c' = c
      · subst hcc; exact ⟨_, hc'⟩
      · obtain ⟨w2, z2⟩ := I.cell y c' e
        exact ⟨w2, z2.sameBut hs hcc⟩
    · obtain ⟨e, n, ne, nf, d⟩ := I.pin p hp
      refine ⟨(hs.2 p.1 ?_).trans e, n, ne, nf, d⟩
      intro q
      rw [q, hoc] at e
      have q' : oc = p.2 := Option.some.inj e
      exact d w' (by rw [← q']; exact hocd)
theorem store_ok {M : Model} {A : Around} {E : Value → Shared → Prop} {i : Nat} {x : Str} {v : V} {u : Value} {Q : Unit → Shared → Prop} (I : Inv X pins σ H s) (hN : X.N.Nodup) (hi : X.N[i]? = some x) (hx : Loc X.env.scope x) (r : RelV v u)
    (h : ∀ s', Inv X pins (σ.set i (some v)) H s' → Q () s') (hf : X.fn x = true ∨ X.env.scope.names.lookup x = some .local := by first | exact .inl rfl | exact .inr rfl | assumption) : wpAny M A (storeName X.env x u) Q E s :=
  store_ok2 I hN hi hx r (fun s' I' _ => h s' I') hf
/-- behind a call or a block, the state as it is -/
theorem Inv.call' {s' : Shared} {ch : List Addr} (I : Inv X pins σ H s) (ho : s'.os = s.os) (u : Un (frs X.stack) ch H H' s.heap s'.heap) (hok : HOk X.prog X.w H' s'.heap) (hg : AllBare s'.gens)
    (hch : ∀ b ∈ ch, (b ∈ X.ex ∨ X.s₀.heap.objs.size ≤ b) ∧ b ≠ X.env.locals ∧ (∀ x c, X.env.cells.lookup x = some c → c ≠ b) ∧ ∀ p ∈ X.pn ++ pins, p.1 ≠ b) : Inv X pins σ H' s' := by
  obtain ⟨h', g', d', t', o'⟩ := s'
  have e : o' = s.os := ho
  subst e
  exact I.call (g' := g') (t' := t') (d' := d') u hok hg hch
end

/-! ### the judgements -/
/-- an exception: its class, its own dict's address (where it has one), the abstract heap behind it -/
abbrev XK := Value → Option Addr → Hp → Prop
abbrev St := List (Option V)
abbrev VK := V → Hp → Prop
/-- an expression's reading; a test's; an argument list's -/
abbrev TE := St → Hp → VK → Prop
abbrev TT := St → Hp → (Bool → Hp → Prop) → Prop
abbrev TA := St → Hp → (List V → Hp → Prop) → Prop
/-- what is wanted behind a statement -/
structure Ends where
  nx : St → Hp → Prop
  rt : VK
  bk : St → Hp → Prop := fun _ _ => False
  ct : St → Hp → Prop := fun _ _ => False
abbrev TS := Ends → St → Hp → Prop

def EP (X : Cx) (pins : List (Addr × Obj)) (σ : St) (Q : VK) (u : Value) (s' : Shared) : Prop := ∃ v H', Inv X pins σ H' s' ∧ RelV v u ∧ Q v H'
def TP (X : Cx) (pins : List (Addr × Obj)) (σ : St) (Q : Bool → Hp → Prop) (b : Bool) (s' : Shared) : Prop := ∃ H', Inv X pins σ H' s' ∧ Q b H'
def AP (X : Cx) (pins : List (Addr × Obj)) (σ : St) (Q : List V → Hp → Prop) (us : List Value) (s' : Shared) : Prop := ∃ vs H', Inv X pins σ H' s' ∧ Vals vs us ∧ Q vs H'
def SP (X : Cx) (pins : List (Addr × Obj)) (D : Ends) (f : Flow) (s' : Shared) : Prop :=
  match f with
  | .next => ∃ σ' H', Inv X pins σ' H' s' ∧ D.nx σ' H'
  | .brk => ∃ σ' H', Inv X pins σ' H' s' ∧ D.bk σ' H'
  | .cont => ∃ σ' H', Inv X pins σ' H' s' ∧ D.ct σ' H'
  | .ret u => ∃ v σ' H', Inv X pins σ' H' s' ∧ RelV v u ∧ D.rt v H'

def PE (X : Cx) (e : Expr) (t : TE) : Prop :=
  ∀ (pins : List (Addr × Obj)) (s : Shared) (σ : St) (H : Hp) (Q : VK), Inv X pins σ H s → t σ H Q → wpAny (model X.prog X.w) X.A (eval e X.env) (EP X pins σ Q) X.xe s
def PT (X : Cx) (e : Expr) (t : TT) : Prop :=
  ∀ (pins : List (Addr × Obj)) (s : Shared) (σ : St) (H : Hp) (Q : Bool → Hp → Prop), Inv X pins σ H s → t σ H Q → wpAny (model X.prog X.w) X.A (isTrue e X.env (eval e X.env)) (TP X pins σ Q) X.xe s
/-- a test whatever its 'whole' is (and, or) -/
def PW (X : Cx) (e : Expr) (t : TT) : Prop :=
  ∀ (whole : Sem Value) (pins : List (Addr × Obj)) (s : Shared) (σ : St) (H : Hp) (Q : Bool → Hp → Prop), Inv X pins σ H s → t σ H Q → wpAny (model X.prog X.w) X.A (isTrue e X.env whole) (TP X pins σ Q) X.xe s
theorem PW.pt {X : Cx} {e : Expr} {t : TT} (h : PW X e t) : PT X e t := h _
/-- an argument list (no star), from the left -/
def PA (X : Cx) (es : List Expr) (t : TA) : Prop :=
  ∀ (pos : Pos) (pins : List (Addr × Obj)) (s : Shared) (σ : St) (H : Hp) (Q : List V → Hp → Prop), Inv X pins σ H s → t σ H Q → wpAny (model X.prog X.w) X.A (spliced (backTo pos (starEach es X.env))) (AP X pins σ Q) X.xe s
def PS (X : Cx) (st : Stmt) (t : TS) : Prop :=
  ∀ (pins : List (Addr × Obj)) (s : Shared) (σ : St) (H : Hp) (D : Ends), Inv X pins σ H s → t D σ H → wpAny (model X.prog X.w) X.A (exec st X.env) (SP X pins D) X.xe s
def PSs (X : Cx) (st : List Stmt) (t : TS) : Prop :=
  ∀ (pins : List (Addr × Obj)) (s : Shared) (σ : St) (H : Hp) (D : Ends), Inv X pins σ H s → t D σ H → wpAny (model X.prog X.w) X.A (execs st X.env) (SP X pins D) X.xe s
/-- weaken the end -/
theorem thn {α : Type} {t : Sem α} {Q Q' : α → Shared → Prop} {M : Model} {A : Around} {E : Value → Shared → Prop} {s : Shared} (h : wpAny M A t Q E s) (hQ : ∀ a s, Q a s → Q' a s) : wpAny M A t Q' E s := wpAny_mono h hQ fun _ _ x => x
end L2

namespace L2
open PySem PySem.Spec PyProof.Rows
section
variable {X : Cx}

/-! ### names and constants -/
def tVar (i : Nat) : TE := fun σ H Q => ∃ v, σ[i]? = some (some v) ∧ Q v H
def tC (v : V) : TE := fun _ H Q => Q v H
theorem pe_var {i : Nat} {x : Str} {pos : Pos} (hN : X.N[i]? = some x) (hv : Vis X.env.scope x) (hd : (x == ("__debug__" : Str)) = false := by decide) (hcd : (x == ("__classdict__" : Str)) = false := by decide) : PE X (.Name x pos) (tVar i) := by
  intro pins s σ H Q I h
  obtain ⟨v, e, h⟩ := h
  obtain ⟨m, hn, hl⟩ := I.loc
  obtain ⟨u, r, l⟩ := hl i x v hN e hv
  have fin : EP X pins σ Q u s := ⟨v, H, I, r, h⟩
  rcases l with ⟨hk, hm⟩ | ⟨hk, c, hc, hcell⟩
  · exact wpAny_Name (wpAny_loadName_local I.ok.kind hk hn hm fin) hd
  · rcases hk with hk | hk
    · exact wpAny_Name (wpAny_loadName_cell I.ok.kind hk hc hcell fin) hd
    · exact wpAny_Name (wpAny_loadName_free I.ok.kind hk hc hcell fin hcd) hd
theorem pe_int {i j pos} : PE X (.Constant (.int i) j pos) (tC (.int i)) := fun _ _ _ H _ I h => wpAny_Constant_int ⟨.int i, H, I.tok _, ⟨_, rfl⟩, h⟩
theorem pe_bl {b j pos} : PE X (.Constant (.bool b) j pos) (tC (.bl b)) := fun _ _ _ H _ I h => Constant_bool ⟨.bl b, H, I, rfl, h⟩
theorem pe_non {j pos} : PE X (.Constant .none j pos) (tC .non) := fun _ _ _ H _ I h => Constant_none ⟨.non, H, I, rfl, h⟩
theorem pe_str {x j pos} : PE X (.Constant (.str x) j pos) (tC (.str x)) := fun _ _ _ H _ I h => Calls.Constant_str ⟨.str x, H, I.tok _, ⟨_, rfl⟩, h⟩

/-- a global name of the def -/
def Gl (X : Cx) (x : Str) : Prop := X.env.kindOf x = some .globalImplicit
theorem ld_glob {E : Value → Shared → Prop} {pins : List (Addr × Obj)} {s : Shared} {σ : St} {H : Hp} {x : Str} {u : Value} {pos : Pos} {Q : Value → Shared → Prop} (I : Inv X pins σ H s) (hg : Gl X x) (hm : X.mg x = some u) (h : Q u s)
    (hd : (x == ("__debug__" : Str)) = false := by decide) : wpAny (model X.prog X.w) X.A (eval (.Name x pos) X.env) Q E s :=
  Calls.Name_function_global I.ok.kind hg (Calls.loadGlobal_global (by rw [I.ok.glob]; exact I.mod.glob.keeps I.bk) hm h) hd
theorem ld_blt {E : Value → Shared → Prop} {pins : List (Addr × Obj)} {s : Shared} {σ : St} {H : Hp} {x : Str} {u : Value} {pos : Pos} {Q : Value → Shared → Prop} (I : Inv X pins σ H s) (hg : Gl X x) (hm : X.mg x = none) (hv : bootBuiltins x = some u) (h : Q u s)
    (hn : x ≠ "__name__" := by decide) (hd : (x == ("__debug__" : Str)) = false := by decide) : wpAny (model X.prog X.w) X.A (eval (.Name x pos) X.env) Q E s := by
  obtain ⟨mb, h1, h2⟩ := I.mod.blt
  exact Calls.Name_function_global I.ok.kind hg (Calls.loadGlobal_builtin (by rw [I.ok.glob]; exact I.mod.glob.keeps I.bk) hm (by rw [I.ok.blt]; exact h1.keeps I.bk) ((h2 x hn).trans hv) h) hd
/-- a module's constant, a class, a function, as a value -/
theorem pe_glob {x : Str} {v : V} {u : Value} {pos : Pos} (hg : Gl X x) (hm : X.mg x = some u) (r : RelV v u) (hd : (x == ("__debug__" : Str)) = false := by decide) : PE X (.Name x pos) (tC v) :=
  fun _ _ _ H _ I h => ld_glob I hg hm ⟨v, H, I, r, h⟩ hd
theorem pe_bltn {x : Str} {v : V} {u : Value} {pos : Pos} (hg : Gl X x) (hm : X.mg x = none) (hv : bootBuiltins x = some u) (r : RelV v u) (hn : x ≠ "__name__" := by decide) (hd : (x == ("__debug__" : Str)) = false := by decide) : PE X (.Name x pos) (tC v) :=
  fun _ _ _ H _ I h => ld_blt I hg hm hv ⟨v, H, I, r, h⟩ hn hd

/-! ### arithmetic -/
variable {a b : Expr} {ta tb : TE} {pos : Pos}
/-! ### comparisons -/
def PC (X : Cx) (op : CmpOp) (a b : Expr) (t : TE) : Prop :=
  ∀ (pins : List (Addr × Obj)) (s : Shared) (σ : St) (H : Hp) (Q : VK), Inv X pins σ H s → t σ H Q →
    wpAny (model X.prog X.w) X.A (eval a X.env) (fun v s₁ => wpAny (model X.prog X.w) X.A (eval b X.env) (fun u s₂ => wpAny (model X.prog X.w) X.A (compareOp op v u) (EP X pins σ Q) X.xe s₂) X.xe s₁) X.xe s
/-! ### and, or, not -/
variable {tA tB' : TT} {rest : List Expr}
def tAnd (t u : TT) : TT := fun σ H Q => t σ H fun c H1 => if c = true then u σ H1 Q else Q false H1
def tOr (t u : TT) : TT := fun σ H Q => t σ H fun c H1 => if c = true then Q true H1 else u σ H1 Q
def tNot (t : TT) : TT := fun σ H Q => t σ H fun c H1 => Q (!c) H1
theorem pw_and1 (ha : PT X a tA) : PW X (.BoolOp .And [a] pos) tA := by
  intro wh pins s σ H Q I h
  refine isTrue_and (thn (ha pins s σ H Q I h) fun c s1 e => ?_)
  cases c with
  | true => exact isTrue_and_nil e
  | false => exact e
theorem pw_or1 (ha : PT X a tA) : PW X (.BoolOp .Or [a] pos) tA := by
  intro wh pins s σ H Q I h
  refine isTrue_or (thn (ha pins s σ H Q I h) fun c s1 e => ?_)
  cases c with
  | false => exact isTrue_or_nil e
  | true => exact e
theorem pw_and (ha : PT X a tA) (hb : PW X (.BoolOp .And (b :: rest) pos) tB') : PW X (.BoolOp .And (a :: b :: rest) pos) (tAnd tA tB') := by
  intro wh pins s σ H Q I h
  refine isTrue_and (thn (ha pins s σ H _ I h) fun c s1 ⟨H1, I1, q1⟩ => ?_)
  cases c with
  | true => exact hb wh pins s1 σ H1 Q I1 q1
  | false => exact ⟨H1, I1, q1⟩
theorem pw_or (ha : PT X a tA) (hb : PW X (.BoolOp .Or (b :: rest) pos) tB') : PW X (.BoolOp .Or (a :: b :: rest) pos) (tOr tA tB') := by
  intro wh pins s σ H Q I h
  refine isTrue_or (thn (ha pins s σ H _ I h) fun c s1 ⟨H1, I1, q1⟩ => ?_)
  cases c with
  | true => exact ⟨H1, I1, q1⟩
  | false => exact hb wh pins s1 σ H1 Q I1 q1
theorem pt_not (ha : PT X a tA) : PT X (.UnaryOp .Not a pos) (tNot tA) := by
  intro pins s σ H Q I h
  exact isTrue_not (ha pins s σ H (fun c H1 => Q (!c) H1) I h)
/-- .. as values (bools) -/
def tAndV (ta tb : TE) : TE := fun σ H Q => ta σ H fun x H1 => ∃ c, x = .bl c ∧ if c = true then tb σ H1 Q else Q (.bl false) H1
theorem pe_one {op} {t : TE} (h : PE X a t) : PE X (.BoolOp op [a] pos) t := fun pins s σ H Q I hw => BoolOp_one (h pins s σ H Q I hw)
theorem pe_and (ha : PE X a ta) (hb : PE X (.BoolOp .And (b :: rest) pos) tb) : PE X (.BoolOp .And (a :: b :: rest) pos) (tAndV ta tb) := by
  intro pins s σ H Q I h
  refine BoolOp_and (thn (ha pins s σ H _ I h) fun v s1 ⟨x, H1, I1, r1, q1⟩ => ?_)
  obtain ⟨c, rfl, q1⟩ := q1
  cases r1
  refine wpAny_truthy_bool ?_
  cases c with
  | true => exact hb pins s1 σ H1 Q I1 q1
  | false => exact ⟨.bl false, H1, I1, rfl, q1⟩
end
end L2

namespace L2
open PySem PySem.Spec PyProof.Rows

/-! ### a list, a tuple that is read: tracked, frozen, or an object of the module -/
def SqL (K : PySem.W.Frag) (H : Hp) (a : Addr) (xs : List V) : Prop :=
  Rd H a (.lst xs) ∨
    ∃ (o : Obj) (its : Array Value) (n : Nat), K.lookup a = some o ∧ o.cls = .type "list" ∧ o.dict = none ∧ o.data = .seq its n ∧ its.size ≤ sizeLine ∧ Vals xs its.toList
def SqT (K : PySem.W.Frag) (H : Hp) (a : Addr) (xs : List V) : Prop :=
  Rd H a (.tup xs) ∨
    ∃ (o : Obj) (its : Array Value) (n : Nat), K.lookup a = some o ∧ o.cls = .type "tuple" ∧ o.data = .seq its n ∧ its.size ≤ sizeLine ∧ Vals xs its.toList
def absV : Value → Option V
  | .none => some .non
  | .bool b => some (.bl b)
  | .int i _ => some (.int i)
  | .str x _ => some (.str x)
  | .bytes b _ => some (.byt b)
  | .float b _ => some (.flt b)
  | .ref a => some (.ref a)
  | .type n => some (.ty n)
  | _ => none
theorem RelV.abs {x : V} {u : Value} (r : RelV x u) : absV u = some x := by
  cases x with
  | non => cases r; rfl
  | bl _ => cases r; rfl
  | int _ => obtain ⟨t, rfl⟩ := r; rfl
  | str _ => obtain ⟨t, rfl⟩ := r; rfl
  | byt _ => obtain ⟨t, rfl⟩ := r; rfl
  | flt _ => obtain ⟨t, rfl⟩ := r; rfl
  | ref _ => cases r; rfl
  | ty _ => cases r; rfl
theorem RelV.inj {x y : V} {u : Value} (r : RelV x u) (q : RelV y u) : x = y := Option.some.inj (r.abs.symm.trans q.abs)
theorem Vals.inj : ∀ {xs ys : List V} {us : List Value}, Vals xs us → Vals ys us → xs = ys
  | _, _, _, .nil, .nil => rfl
  | _, _, _, .cons r t, .cons r' t' => by rw [r.inj r', Vals.inj t t']
section
variable {X : Cx} {pins : List (Addr × Obj)} {σ : St} {H : Hp} {s : Shared} {a : Addr} {xs ys : List V}
theorem SqL.of {K : PySem.W.Frag} (h : H a = some (.lst xs)) : SqL K H a xs := .inl (.inl h)
theorem SqT.of {K : PySem.W.Frag} (h : H a = some (.tup xs)) : SqT K H a xs := .inl (.inl h)
theorem Inv.list (I : Inv X pins σ H s) (h : SqL X.K H a xs) : ∃ its : List Value, Vals xs its ∧ PlainL s.heap a its.toArray ∧ xs.length ≤ sizeLine := by
  rcases h with h | ⟨o, its, n, hk, hc, hd, hs, hz, r⟩
  · obtain ⟨z, its, n, r, e⟩ := h.ok I.hok
    exact ⟨its, r, ⟨_, n, e, rfl, rfl, rfl⟩, z⟩
  · refine ⟨its.toList, r, ⟨o, n, I.kIn a o hk, hc, hd, by simpa using hs⟩, ?_⟩
    have e := r.length
    simp only [Array.length_toList] at e
    omega
theorem Inv.tuple (I : Inv X pins σ H s) (h : SqT X.K H a xs) : ∃ its : List Value, Vals xs its ∧ IsTup s.heap a its.toArray ∧ xs.length ≤ sizeLine := by
  rcases h with h | ⟨o, its, n, hk, hc, hs, hz, r⟩
  · obtain ⟨z, its, r, p⟩ := h.ok I.hok
    exact ⟨its, r, p, z⟩
  · refine ⟨its.toList, r, ⟨o, I.kIn a o hk, hc, n, by simpa using hs⟩, ?_⟩
    have e := r.length
    simp only [Array.length_toList] at e
    omega
theorem Inv.list_inj (I : Inv X pins σ H s) (h : SqL X.K H a xs) (h' : SqL X.K H a ys) : xs = ys := by
  obtain ⟨its, r, ⟨o, n, e, _, _, d⟩, _⟩ := I.list h
  obtain ⟨its', r', ⟨o', n', e', _, _, d'⟩, _⟩ := I.list h'
  rw [e] at e'; cases e'
  rw [d] at d'
  injection d' with d1 _
  have : its = its' := by simpa using congrArg Array.toList d1
  subst this
  exact r.inj r'
end

/-! ### another wish about exceptions -/
abbrev Cx.wish (X : Cx) (E : Value → Shared → Prop) : Cx := { X with xe := E }
/-- no exception leaves -/
abbrev Cx.nox (X : Cx) : Cx := X.wish fun _ _ => False
theorem Cx.Ok.wish {X : Cx} (ok : X.Ok) (E : Value → Shared → Prop) : (X.wish E).Ok :=
  ⟨ok.mod, ok.kind, ok.glob, ok.blt, ok.above, ok.inj, ok.has, ok.cab, ok.hd, ok.frames, ok.stk, ok.exf, ok.bs, ok.bsz, ok.noex, ok.exfs, ok.funs, ok.frf⟩
theorem Cx.Ok.unwish {X : Cx} {E : Value → Shared → Prop} (ok : (X.wish E).Ok) : X.Ok :=
  ⟨ok.mod, ok.kind, ok.glob, ok.blt, ok.above, ok.inj, ok.has, ok.cab, ok.hd, ok.frames, ok.stk, ok.exf, ok.bs, ok.bsz, ok.noex, ok.exfs, ok.funs, ok.frf⟩
section
variable {X : Cx} {pins : List (Addr × Obj)} {σ : St} {H : Hp} {s : Shared} {E : Value → Shared → Prop}
theorem Inv.wish (I : Inv X pins σ H s) (E : Value → Shared → Prop) : Inv (X.wish E) pins σ H s := ⟨I.ok.wish E, I.os, I.bare, I.base, I.loc, I.cell, I.free, I.freeC, I.pin, I.hok, I.len⟩
theorem Inv.unwish (I : Inv (X.wish E) pins σ H s) : Inv X pins σ H s := ⟨I.ok.unwish, I.os, I.bare, I.base, I.loc, I.cell, I.free, I.freeC, I.pin, I.hok, I.len⟩
theorem SP.unwish {D : Ends} {f : Flow} {s' : Shared} (h : SP (X.wish E) pins D f s') : SP X pins D f s' := by
  cases f with
  | next => obtain ⟨σ', H', I, q⟩ := h; exact ⟨σ', H', I.unwish, q⟩
  | brk => obtain ⟨σ', H', I, q⟩ := h; exact ⟨σ', H', I.unwish, q⟩
  | cont => obtain ⟨σ', H', I, q⟩ := h; exact ⟨σ', H', I.unwish, q⟩
  | ret u => obtain ⟨v, σ', H', I, r, q⟩ := h; exact ⟨v, σ', H', I.unwish, r, q⟩
theorem PE.nox {e : Expr} {t : TE} (h : PE X.nox e t) : PE X e t := fun pins s σ H Q I hw =>
  wpAny_mono (h pins s σ H Q (I.wish _) hw) (fun _ _ ⟨v, H', I', r, q⟩ => ⟨v, H', I'.unwish, r, q⟩) fun _ _ z => False.elim z
theorem PT.nox {e : Expr} {t : TT} (h : PT X.nox e t) : PT X e t := fun pins s σ H Q I hw =>
  wpAny_mono (h pins s σ H Q (I.wish _) hw) (fun _ _ ⟨H', I', q⟩ => ⟨H', I'.unwish, q⟩) fun _ _ z => False.elim z
theorem PSs.nox {st : List Stmt} {t : TS} (h : PSs X.nox st t) : PSs X st t := fun pins s σ H D I hw =>
  wpAny_mono (h pins s σ H D (I.wish _) hw) (fun _ _ q => q.unwish) fun _ _ z => False.elim z
end

/-! ### blocks and small statements -/
section
variable {X : Cx} {st : Stmt} {rest : List Stmt} {t u : TS} {e : Expr} {te : TE} {pos : Pos}
def tNext : TS := fun D σ H => D.nx σ H
def tSeq (t u : TS) : TS := fun D σ H => t { D with nx := u D } σ H
theorem pss_nil : PSs X [] tNext := fun _ _ σ H _ I h => wpAny_execs_nil ⟨σ, H, I, h⟩
theorem pss_cons (h1 : PS X st t) (h2 : PSs X rest u) : PSs X (st :: rest) (tSeq t u) := by
  intro pins s σ H D I h
  refine wpAny_execs_cons (thn (h1 pins s σ H { D with nx := u D } I h) fun f s1 q => ?_)
  cases f with
  | next =>
    obtain ⟨σ', H', I', q⟩ := q
    exact h2 pins s1 σ' H' D I' q
  | ret v => exact q
  | brk => exact q
  | cont => exact q
theorem pss_one (h1 : PS X st t) : PSs X [st] t := by
  intro pins s σ H D I h
  refine wpAny_execs_cons (thn (h1 pins s σ H D I h) fun f s1 q => ?_)
  cases f with
  | next => exact wpAny_execs_nil q
  | ret v => exact q
  | brk => exact q
  | cont => exact q
/-- in a def's body nothing is shown -/
theorem Inv.quiet {pins : List (Addr × Obj)} {σ : St} {H : Hp} {s : Shared} (I : Inv X pins σ H s) : interactive X.env = false := by simp [interactive, I.ok.kind]
/-- an expression whose value is dropped -/
def tDrop (te : TE) : TS := fun D σ H => te σ H fun _ H1 => D.nx σ H1
theorem ps_expr (he : PE X e te) (hs : swapsWith e none pos.line X.env = pure false := by rfl) : PS X (.Expr e pos) (tDrop te) := by
  intro pins s σ H D I h
  exact wpAny_Expr_any (thn (he pins s σ H _ I h) fun v s1 ⟨x, H1, I1, r1, q1⟩ => ⟨σ, H1, I1, q1⟩) I.quiet hs
def tRet (te : TE) : TS := fun D σ H => te σ H D.rt
theorem ps_ret (he : PE X e te) : PS X (.Return (some e) pos) (tRet te) := by
  intro pins s σ H D I h
  exact wpAny_Return_some (thn (he pins s σ H _ I h) fun v s1 ⟨x, H1, I1, r1, q1⟩ => ⟨x, σ, H1, I1, r1, q1⟩)
def tIfS (c : TT) (t u : TS) : TS := fun D σ H => c σ H fun b H1 => if b = true then t D σ H1 else u D σ H1
theorem ps_if {c : Expr} {a b : List Stmt} {tc : TT} (hc : PT X c tc) (ha : PSs X a t) (hb : PSs X b u) : PS X (.If c a b pos) (tIfS tc t u) := by
  intro pins s σ H D I h
  refine wpAny_If (thn (hc pins s σ H _ I h) fun d s1 ⟨H1, I1, q1⟩ => ?_)
  cases d with
  | true => exact ha pins s1 σ H1 D I1 q1
  | false => exact hb pins s1 σ H1 D I1 q1
/-- code that the proof never comes to -/
def tNever : TS := fun _ _ _ => False
theorem ps_never : PS X st tNever := fun _ _ _ _ _ _ h => h.elim
end

/-! ### targets -/
abbrev TG := V → St → Hp → (St → Hp → Prop) → Prop
abbrev TGs := List V → St → Hp → (St → Hp → Prop) → Prop
def PG (X : Cx) (target : Expr) (t : TG) : Prop :=
  ∀ (pins : List (Addr × Obj)) (s : Shared) (σ : St) (H : Hp) (v : V) (u : Value) (Q : St → Hp → Prop), Inv X pins σ H s → RelV v u → t v σ H Q →
    wpAny (model X.prog X.w) X.A (assign target X.env u) (fun _ s' => ∃ σ' H', Inv X pins σ' H' s' ∧ Q σ' H') X.xe s
/-- several targets, one after another -/
def PGs (X : Cx) (ts : List Expr) (t : TGs) : Prop :=
  ∀ (pins : List (Addr × Obj)) (s : Shared) (σ : St) (H : Hp) (vs : List V) (us : List Value) (Q : St → Hp → Prop), Inv X pins σ H s → Vals vs us → t vs σ H Q →
    wpAny (model X.prog X.w) X.A (assignInOrder ((assignEach ts X.env).map (·.2)) us) (fun _ s' => ∃ σ' H', Inv X pins σ' H' s' ∧ Q σ' H') X.xe s
/-- o[i] = v, by values -/
abbrev TSet := V → V → V → Hp → (Hp → Prop) → Prop
def PSet (X : Cx) (t : TSet) : Prop :=
  ∀ (pins : List (Addr × Obj)) (s : Shared) (σ : St) (H : Hp) (o i v : V) (ov iv u : Value) (Q : Hp → Prop), Inv X pins σ H s → RelV o ov → RelV i iv → RelV v u → t o i v H Q →
    wpAny (model X.prog X.w) X.A (setItem ov iv u) (fun _ s' => ∃ H', Inv X pins σ H' s' ∧ Q H') X.xe s
section
variable {X : Cx} {pos : Pos}
def gName (i : Nat) : TG := fun v σ H Q => Q (σ.set i (some v)) H
theorem pg_name {i : Nat} {x : Str} (hN : X.N.Nodup) (hi : X.N[i]? = some x) (hx : Loc X.env.scope x) (hf : X.fn x = true ∨ X.env.scope.names.lookup x = some .local := by first | exact .inl rfl | exact .inr rfl | assumption) : PG X (.Name x pos) (gName i) := by
  intro pins s σ H v u Q I r h
  exact wpAny_assign_Name (store_ok I hN hi hx r (fun s' I' => ⟨_, H, I', h⟩) hf)
def gNil : TGs := fun vs σ H Q => vs = [] ∧ Q σ H
def gCons (t : TG) (u : TGs) : TGs := fun vs σ H Q => ∃ v r, vs = v :: r ∧ t v σ H fun σ' H' => u r σ' H' Q
theorem pgs_nil : PGs X [] gNil := by
  intro pins s σ H vs us Q I r h
  obtain ⟨e, h⟩ := h
  subst e
  cases r
  exact assignInOrder_nil ⟨σ, H, I, h⟩
theorem pgs_cons {e : Expr} {es : List Expr} {t : TG} {u : TGs} (h1 : PG X e t) (h2 : PGs X es u)
    (hs : (assignEach (e :: es) X.env).map (·.2) = assign e X.env :: (assignEach es X.env).map (·.2) := by rfl) : PGs X (e :: es) (gCons t u) := by
  intro pins s σ H vs us Q I r h
  obtain ⟨v, vr, e1, h⟩ := h
  subst e1
  cases r with
  | cons r rr =>
    rw [hs]
    refine assignInOrder_cons (thn (h1 pins s σ H _ _ _ I r h) fun _ s1 ⟨σ1, H1, I1, q1⟩ => ?_)
    exact h2 pins s1 σ1 H1 _ _ Q I1 rr q1
/-- (a, b, ..) = a tuple of that length -/
def gTup (K : PySem.W.Frag) (n : Nat) (t : TGs) : TG := fun v σ H Q => ∃ a xs, v = .ref a ∧ SqT K H a xs ∧ xs.length = n ∧ t xs σ H Q
theorem pg_tup {es : List Expr} {k : Nat} {t : TGs} {n : Nat} (hc : X.calm = true) (h : PGs X es t)
    (hn : (assignEach es X.env).length = n := by rfl) (hst : (assignEach es X.env).findIdx? (·.1) = none := by rfl) : PG X (.Tuple es k pos) (gTup X.K n t) := by
  intro pins s σ H v u Q I r hw
  obtain ⟨a, xs, e1, hq, hl, hw⟩ := hw
  subst e1
  cases r
  obtain ⟨its, rv, ht, hz⟩ := I.tuple hq
  refine assign_Tuple_tuple (I.ok.hd hc) ht (by simp [hn, ← hl, rv.length]) hst fun h' hx => ?_
  have I1 : Inv X pins σ H { s with heap := h' } := I.kept (t' := s.toks) fun b o e => hx b o (Nat.ne_of_lt (Heap.lt_size e)) e
  exact h pins _ σ H xs _ Q I1 (by simpa using rv) hw
/-- o[i] = .. -/
def gSub (to ti : TE) (t : TSet) : TG := fun v σ H Q => to σ H fun o H1 => ti σ H1 fun i H2 => t o i v H2 fun H3 => Q σ H3
theorem pg_sub {o i : Expr} {to ti : TE} {t : TSet} (ho : PE X o to) (hi : PE X i ti) (hs : PSet X t)
    (ha : ∀ v, assign (.Subscript o i pos) X.env v = (do
      let ov ← holding [v] (eval o X.env)
      let iv ← holding [v, ov] (eval i X.env)
      standAt pos
      holding [v, ov, iv] (setItem ov iv v)
      release [v, ov, iv] []) := by intro _; rfl) : PG X (.Subscript o i pos) (gSub to ti t) := by
  intro pins s σ H v u Q I r h
  rw [ha]
  refine wpAny_bind (wpAny_holding (thn (ho pins s σ H _ I h) fun ov s1 ⟨x, H1, I1, r1, q1⟩ => ?_))
  refine wpAny_bind (wpAny_holding (thn (hi pins s1 σ H1 _ I1 q1) fun iv s2 ⟨y, H2, I2, r2, q2⟩ => ?_))
  refine wpAny_bind (wpAny_standAt (wpAny_bind (wpAny_holding (thn (hs pins s2 σ H2 x y v ov iv u _ I2 r1 r2 r q2) fun _ s3 ⟨H3, I3, q3⟩ => ?_))))
  exact wpAny_release ⟨σ, H3, I3, q3⟩
/-- target = value -/
def tAsg (te : TE) (g : TG) : TS := fun D σ H => te σ H fun x H1 => g x σ H1 D.nx
theorem ps_asg {tg e : Expr} {te : TE} {g : TG} (he : PE X e te) (hg : PG X tg g) (hs : swapsWithSole [tg] e pos.line X.env = pure false := by rfl) (hw : swappedStores [tg] e X.env = pure none := by rfl)
    (h1 : (assignEach [tg] X.env).map (·.2) = [assign tg X.env] := by rfl) : PS X (.Assign [tg] e pos) (tAsg te g) := by
  intro pins s σ H D I h
  refine wpAny_Assign_stores (thn (he pins s σ H _ I h) fun v s1 ⟨x, H1, I1, r1, q1⟩ => ?_) hs hw
  rw [h1]
  exact thn (hg pins s1 σ H1 x v _ I1 r1 q1) fun _ s2 q => q
/-- name = value -/
theorem ps_set {i : Nat} {x : Str} {e : Expr} {te : TE} {pos' : Pos} (hN : X.N.Nodup) (hi : X.N[i]? = some x) (hx : Loc X.env.scope x) (he : PE X e te) (hs : swapsWith e (some (.Name x pos')) pos.line X.env = pure false := by rfl) (hf : X.fn x = true ∨ X.env.scope.names.lookup x = some .local := by first | exact .inl rfl | exact .inr rfl | assumption) :
    PS X (.Assign [.Name x pos'] e pos) (tAsg te (gName i)) := by
  intro pins s σ H D I h
  refine wpAny_Assign_Name (thn (he pins s σ H _ I h) fun v s1 ⟨y, H1, I1, r1, q1⟩ => ?_) hs
  exact store_ok I1 hN hi hx r1 (fun s2 I2 => ⟨_, H1, I2, q1⟩) hf
end

/-! ### while -/
section
variable {X : Cx} {pos : Pos}
end

/-! ### what a loop or a comprehension walks -/
/-- at turn i: it yields x (the heap may grow), or it stops -/
structure It where
  go : Nat → Hp → Prop
  yld : Nat → Hp → V → Hp → Prop
  stop : Nat → Hp → Prop
/-- the iterator's own objects may turn: they are not the frame's, not pinned, younger than the entry (or a comprehension's own) -/
def FpOk (X : Cx) (pins : List (Addr × Obj)) (H : Hp) (b : Addr) : Prop :=
  H b = none ∧ b ≠ X.env.locals ∧ b ∉ X.fs ∧ (b ∈ X.ex ∨ X.s₀.heap.objs.size ≤ b) ∧ (∀ x c, X.env.cells.lookup x = some c → c ≠ b) ∧ ∀ p ∈ X.pn ++ pins, p.1 ≠ b
theorem Inv.fpOk {X : Cx} {pins : List (Addr × Obj)} {σ : St} {H H' : Hp} {s : Shared} {b : Addr} (I : Inv X pins σ H s) (hb : s.heap.objs.size ≤ b) (hn : H' b = none) : FpOk X pins H' b := by
  refine ⟨hn, Nat.ne_of_gt (Nat.lt_of_lt_of_le I.lt hb), I.nofs hb, .inr (Nat.le_trans I.sz hb), fun x c e z => ?_, fun p hp z => ?_⟩
  · obtain ⟨v, q⟩ := I.cell x c e
    exact absurd (Nat.lt_of_lt_of_le q.lt (by rw [z]; exact hb)) (Nat.lt_irrefl _)
  · exact absurd (Nat.lt_of_lt_of_le (Heap.lt_size (I.pin p hp).1) (by rw [z]; exact hb)) (Nat.lt_irrefl _)
structure Turn (P : Program) (w : World) (K : PySem.W.Frag) (tg : Expr) (J : It) (fp : List Addr) (it : Addr) (tn : Nat → Heap → Prop) : Prop where
  mem : it ∈ fp
  obj : ∀ i h, tn i h → ∀ b ∈ fp, ∃ o, h.get? b = some o ∧ ∀ v, o.data ≠ .cell v
  keep : ∀ i h h', tn i h → (∀ b ∈ fp, ∀ o, h.get? b = some o → h'.get? b = some o) → tn i h'
  item : ∀ (X : Cx), X.prog = P → X.w = w → X.K = K → X.calm = true → ∀ (i : Nat) (pins : List (Addr × Obj)) (s : Shared) (σ : St) (H : Hp) (E : Value → Shared → Prop), Inv X pins σ H s → (∀ b ∈ fp, FpOk X pins H b) → tn i s.heap → J.go i H →
    wpAny (model P w) X.A (pyNext (.ref it)) (fun r s1 => ∃ u, r = some u ∧
      wpAny (model P w) X.A (letOwnedTupleGo tg (.ref it) u) (fun _ s2 => ∃ x H', Inv X pins σ H' s2 ∧ RelV x u ∧ J.yld i H x H' ∧ tn (i + 1) s2.heap ∧ ∀ b ∈ fp, H' b = none) E s1) E s
  done : ∀ (X : Cx), X.prog = P → X.w = w → X.K = K → X.calm = true → ∀ (i : Nat) (pins : List (Addr × Obj)) (s : Shared) (σ : St) (H : Hp) (E : Value → Shared → Prop), Inv X pins σ H s → (∀ b ∈ fp, FpOk X pins H b) → tn i s.heap → J.stop i H →
    wpAny (model P w) X.A (pyNext (.ref it)) (fun r s1 => r = none ∧ Inv X pins σ H s1) E s
  self : ∀ (A : Around) (i : Nat) (s : Shared) (Q : Value → Shared → Prop) (E : Value → Shared → Prop), tn i s.heap → Q (.ref it) s → wpAny (model P w) A (pyIter (.ref it)) Q E s
abbrev TI := St → Hp → (It → Hp → Prop) → Prop
/-- an iterator has come -/
def PIE (X : Cx) (pins : List (Addr × Obj)) (σ : St) (tg : Expr) (R : It → Hp → Prop) (itv : Value) (s2 : Shared) : Prop :=
  ∃ (it : Addr) (fp : List Addr) (tn : Nat → Heap → Prop) (J : It) (H' : Hp), itv = .ref it ∧ Inv X pins σ H' s2 ∧ Turn X.prog X.w X.K tg J fp it tn ∧ tn 0 s2.heap ∧ (∀ b ∈ fp, FpOk X pins H' b) ∧ R J H'
def PI (X : Cx) (tg iter : Expr) (wi : TI) : Prop :=
  ∀ (pins : List (Addr × Obj)) (s : Shared) (σ : St) (H : Hp) (R : It → Hp → Prop), Inv X pins σ H s → wi σ H R →
    wpAny (model X.prog X.w) X.A (eval iter X.env) (fun v s1 => wpAny (model X.prog X.w) X.A (pyIter v) (PIE X pins σ tg R) X.xe s1) X.xe s

/-- the step ahead of the store is nothing for an iterator that keeps no tuple -/
theorem go_of {M : Model} {A : Around} {E : Value → Shared → Prop} {s : Shared} {tg : Expr} {it : Addr} {u : Value} {o : Obj} {n : String} {vs : Array Value} {Q : Unit → Shared → Prop} (ho : s.heap.get? it = some o) (hc : o.cls = .type n) (hd : o.data = .fields vs)
    (hn : ["enumerate", "zip", "dict_itemiterator", "dict_reverseitemiterator", "odict_iterator", "itertools.zip_longest", "itertools.pairwise"].contains n = false) (hQ : Q () s) : wpAny M A (letOwnedTupleGo tg (.ref it) u) Q E s := by
  unfold letOwnedTupleGo
  cases tg <;> first
    | exact wpAny_pure hQ
    | (cases u <;> first
        | exact wpAny_pure hQ
        | (refine wpAny_bind (wpAny_load ho ?_)
           rw [hc, hd]
           show wpAny M A (if (["enumerate", "zip", "dict_itemiterator", "dict_reverseitemiterator", "odict_iterator", "itertools.zip_longest", "itertools.pairwise"].contains n && vs[0]? == some (rawInt _)) = true then _ else _) Q E s
           rw [if_neg (by intro h; rw [hn, Bool.false_and] at h; cases h)]
           exact wpAny_pure hQ))

/-- the list at a, as it stands at each turn (a loop may append to it) -/
def Itl (K : PySem.W.Frag) (a : Addr) : It :=
  ⟨fun i H => ∃ xs x, SqL K H a xs ∧ xs[i]? = some x, fun i H x H' => H' = H ∧ ∀ xs, SqL K H a xs → xs[i]? = some x, fun i H => ∃ xs, SqL K H a xs ∧ xs.length ≤ i⟩
/-- lo, lo + 1, .. (n of them) -/
def Itr (lo : Int) (n : Nat) : It := ⟨fun i _ => i < n, fun i H x H' => H' = H ∧ x = .int (lo + i), fun i _ => n ≤ i⟩
theorem turn_list {P : Program} {w : World} {K : PySem.W.Frag} {tg : Expr} (a it : Addr) : Turn P w K tg (Itl K a) [it] it (fun i h => h.IsListIter it a i) where
  mem := by simp
  obj := fun i h st b hb => by
    have e : b = it := by simpa using hb
    subst e
    obtain ⟨o, e, c, d⟩ := st
    exact ⟨o, e, fun v z => by rw [d] at z; cases z⟩
  keep := fun i h h' st k => st.at fun o e => k it (by simp) o e
  item := by
    intro X hP hw hK hc i pins s σ H E I hf st hg
    subst hP hw hK
    obtain ⟨xs, x, hq, hx⟩ := hg
    obtain ⟨its, rv, p, hz⟩ := I.list hq
    obtain ⟨u, hu, ru⟩ := rv.get hx
    obtain ⟨f0, f1, f2, f3, f4, f5⟩ := hf it (by simp)
    refine wpAny_pyNext_list_item st p.isList (x := u) (by simpa using hu) fun h' st' sb => ?_
    have I1 : Inv X pins σ H { s with heap := h' } := I.turned (t' := s.toks) (fun b o hb e => (sb.2 b hb).trans e) f0 f1 f3 f4 f5
    obtain ⟨o, e, c, d⟩ := id st'
    exact ⟨u, rfl, go_of (s := { s with heap := h' }) e c d (by decide) ⟨x, H, I1, ru, ⟨rfl, fun ys hy => by rw [I.list_inj hy hq]; exact hx⟩, st', fun b hb => (hf b hb).1⟩⟩
  done := by
    intro X hP hw hK hc i pins s σ H E I hf st hg
    subst hP hw hK
    obtain ⟨xs, hq, hx⟩ := hg
    obtain ⟨its, rv, p, hz⟩ := I.list hq
    obtain ⟨f0, f1, f2, f3, f4, f5⟩ := hf it (by simp)
    have hl := rv.length
    exact wpAny_pyNext_list_end (I.ok.hd hc) st p.isList (by simp; omega) fun h' eb => ⟨rfl, I.turned (t' := s.toks) (fun b o hb e => eb b o hb e) f0 f1 f3 f4 f5⟩
  self := fun _ _ _ _ _ st h => wpAny_pyIter_listiter st h
theorem turn_range {P : Program} {w : World} {K : PySem.W.Frag} {tg : Expr} (it : Addr) (lo : Int) (n : Nat) : Turn P w K tg (Itr lo n) [it] it (fun i h => IsRangeIter h it (lo + (i : Nat) * 1) ((n : Int) - (i : Nat)) 1) where
  mem := by simp
  obj := fun i h st b hb => by
    have e : b = it := by simpa using hb
    subst e
    exact ⟨_, st, fun v z => by
      have z' : Data.fields _ = Data.cell v := z
      cases z'⟩
  keep := fun i h h' st k => k it (by simp) _ st
  item := by
    intro X hP hw hK hc i pins s σ H E I hf st hg
    subst hP hw hK
    obtain ⟨f0, f1, f2, f3, f4, f5⟩ := hf it (by simp)
    have W := Walks.range (prog := X.prog) (w := X.w) (I.ok.hd hc) it lo 1 n
    refine W.item i s _ _ hg st fun v h' tk hv st' kk => ?_
    obtain ⟨t, rfl⟩ := hv
    have I1 : Inv X pins σ H { s with heap := h', toks := tk } := I.turned (fun b o hb e => kk b o (by simpa using hb) e) f0 f1 f3 f4 f5
    refine ⟨_, rfl, go_of (s := { s with heap := h', toks := tk }) (n := "range_iterator") st' rfl rfl (by decide) ⟨.int (lo + i), H, I1, ⟨t, ?_⟩, ⟨rfl, rfl⟩, st', fun b hb => (hf b hb).1⟩⟩
    rw [Int.mul_one]
  done := by
    intro X hP hw hK hc i pins s σ H E I hf st hg
    subst hP hw hK
    obtain ⟨f0, f1, f2, f3, f4, f5⟩ := hf it (by simp)
    exact wpAny_pyNext_range_end (I.ok.hd hc) st (by have : n ≤ i := hg; omega) fun h' eb => ⟨rfl, I.turned (t' := s.toks) (fun b o hb e => eb b o hb e) f0 f1 f3 f4 f5⟩
  self := fun _ _ _ _ _ st h => wpAny_pyIter_rangeiter st h
end L2

namespace L2
open PySem PySem.Spec PyProof.Rows
section
variable {X : Cx} {tg : Expr}
def iList (K : PySem.W.Frag) (tl : TE) : TI := fun σ H R => tl σ H fun x H1 => ∃ a, x = .ref a ∧ (∃ xs, SqL K H1 a xs) ∧ R (Itl K a) H1
theorem pi_list {l : Expr} {tl : TE} (hl : PE X l tl) : PI X tg l (iList X.K tl) := by
  intro pins s σ H R I h
  refine thn (hl pins s σ H _ I h) fun v s1 ⟨x, H1, I1, r1, q1⟩ => ?_
  obtain ⟨a, e, ⟨xs, hq⟩, q⟩ := q1
  subst e
  cases r1
  obtain ⟨its, rv, p, hz⟩ := I1.list hq
  refine wpAny_pyIter_list p.isList ?_
  refine ⟨s1.heap.objs.size, [s1.heap.objs.size], _, _, H1, rfl, I1.kept (t' := s1.toks) fun b o e => Heap.get?_push_of_some _ e, turn_list a _, ⟨_, Heap.get?_push_size _ rfl, rfl, rfl⟩, fun b hb => ?_, q⟩
  have e : b = s1.heap.objs.size := by simpa using hb
  subst e
  exact I1.fpOk (Nat.le_refl _) (I1.hok.fresh (Nat.le_refl _))
/-- a range object just made, walked -/
theorem range_it {pins : List (Addr × Obj)} {σ : St} {H : Hp} {s : Shared} {R : It → Hp → Prop} {E : Value → Shared → Prop} {lo hi : Int} {t u v : Tok} {tk : Nat} (I : Inv X pins σ H s) (h1 : -(2 ^ 62) ≤ lo) (h2 : lo < 2 ^ 62) (h3 : -(2 ^ 62) ≤ hi) (h4 : hi < 2 ^ 62)
    (q : R (Itr lo (hi - lo).toNat) H) : wpAny (model X.prog X.w) X.A (pyIter (.ref s.heap.objs.size)) (PIE X pins σ tg R) E { s with heap := s.heap.push { cls := .type "range", data := .fields #[.int lo t, .int hi u, .int 1 v] }, toks := tk } := by
  refine wpAny_pyIter_range (IsRange.new ..) (small_one h1 h2 h3 h4) ?_
  have I1 : Inv X pins σ H { s with heap := s.heap.push { cls := .type "range", data := .fields #[.int lo t, .int hi u, .int 1 v] }, toks := tk } := I.kept fun b o e => Heap.get?_push_of_some _ e
  refine ⟨(s.heap.push { cls := .type "range", data := .fields #[.int lo t, .int hi u, .int 1 v] }).objs.size, [(s.heap.push { cls := .type "range", data := .fields #[.int lo t, .int hi u, .int 1 v] }).objs.size], _, _, H, rfl,
    I1.kept (t' := tk) fun b o e => Heap.get?_push_of_some _ e, turn_range _ lo (hi - lo).toNat, ?_, fun b hb => ?_, q⟩
  · have e1 : lo + ((0 : Nat) : Int) * 1 = lo := by simp
    have e2 : (((hi - lo).toNat : Nat) : Int) - ((0 : Nat) : Int) = Builtin.Range.rangeSize lo hi 1 := by rw [rangeSize_one]; split <;> omega
    show IsRangeIter _ _ (lo + ((0 : Nat) : Int) * 1) ((((hi - lo).toNat : Nat) : Int) - ((0 : Nat) : Int)) 1
    rw [e1, e2]
    exact Heap.get?_push_size _ rfl
  · have e : b = (s.heap.push { cls := .type "range", data := .fields #[.int lo t, .int hi u, .int 1 v] }).objs.size := by simpa using hb
    subst e
    exact I1.fpOk (Nat.le_refl _) (I1.hok.fresh (Nat.le_refl _))
def iRng1 (ta : TA) : TI := fun σ H R => ta σ H fun vs H1 => ∃ j : Int, vs = [.int j] ∧ -(2 ^ 62) ≤ j ∧ j < 2 ^ 62 ∧ R (Itr 0 j.toNat) H1
theorem pi_range1 {a : Expr} {ta : TA} {p pos : Pos} (hg : Gl X "range") (hm : X.mg "range" = none) (ha : PA X [a] ta) (hs : starEach [a] X.env = [(false, eval a X.env)] := by rfl) : PI X tg (.Call (.Name "range" p) [a] [] pos) (iRng1 ta) := by
  intro pins s σ H R I h
  refine Call_ (ld_blt I hg hm boot_range (PyProof.Rows.callWith_type1 (thn (ha pos pins s σ H _ I h) fun us s1 ⟨vs, H1, I1, r1, q1⟩ => ?_) hs rfl))
  obtain ⟨j, e, q1, q2, q⟩ := q1
  subst e
  cases r1 with
  | cons r rr =>
    cases rr
    obtain ⟨t, rfl⟩ := r
    exact call_range_1 (range_it I1 (by omega) (by omega) q1 q2 (by simpa using q))
/-! ### for -/
/-- W: the invariant by the turn and a measure; N: what the body is to reach -/
def tFor (wi : TI) (g : TG) (tb : TS) : TS := fun D σ H => wi σ H fun J H1 => ∃ W : Nat → Nat → St → Hp → Prop, (∃ m, W 0 m σ H1) ∧ ∀ i m σ H, W i m σ H →
  (J.stop i H ∧ D.nx σ H) ∨ (J.go i H ∧ ∃ N : St → Hp → Prop, (∀ σ' H', N σ' H' → ∃ m', m' < m ∧ W (i + 1) m' σ' H') ∧ ∀ x H', J.yld i H x H' → g x σ H' fun σ2 H2 => tb { D with nx := N, ct := N, bk := D.nx } σ2 H2)
/-- the records at fp as they stand -/
def pinsAt (fp : List Addr) (h : Heap) : List (Addr × Obj) := fp.filterMap fun b => (h.get? b).map fun o => (b, o)
theorem mem_pinsAt {fp : List Addr} {h : Heap} {b : Addr} {o : Obj} (hb : b ∈ fp) (e : h.get? b = some o) : (b, o) ∈ pinsAt fp h := List.mem_filterMap.mpr ⟨b, hb, by rw [e]; rfl⟩
theorem of_pinsAt {fp : List Addr} {h : Heap} {p : Addr × Obj} (hp : p ∈ pinsAt fp h) : p.1 ∈ fp ∧ h.get? p.1 = some p.2 := by
  obtain ⟨b, hb, e⟩ := List.mem_filterMap.mp hp
  cases q : h.get? b with
  | none => rw [q] at e; cases e
  | some o =>
    rw [q] at e
    have e' : (b, o) = p := Option.some.inj e
    subst e'
    exact ⟨hb, q⟩
theorem Inv.pinned {pins : List (Addr × Obj)} {σ : St} {H : Hp} {s : Shared} {fp : List Addr} (I : Inv X pins σ H s) (hf : ∀ b ∈ fp, FpOk X pins H b) (ho : ∀ b ∈ fp, ∃ o, s.heap.get? b = some o ∧ ∀ v, o.data ≠ .cell v) : Inv X (pins ++ pinsAt fp s.heap) σ H s :=
  I.pins_of fun p hp => (List.mem_append.mp hp).elim (fun z => I.pin p (List.mem_append_right _ z)) fun z => by
    obtain ⟨hb, e⟩ := of_pinsAt z
    obtain ⟨f0, f1, f2, _⟩ := hf p.1 hb
    obtain ⟨o, e', d⟩ := ho p.1 hb
    rw [e] at e'; cases e'
    exact ⟨e, f0, f1, f2, d⟩
theorem Inv.unpinned {pins pl : List (Addr × Obj)} {σ : St} {H : Hp} {s : Shared} (I : Inv X (pins ++ pl) σ H s) : Inv X pins σ H s := I.pins_of fun p hp => I.pin p (List.mem_append_right _ (List.mem_append_left _ hp))
theorem ps_for {iter : Expr} {body : List Stmt} {wi : TI} {g : TG} {tb : TS} {pos : Pos} (hp : PassesOwn (model X.prog X.w) X.A X.env X.xe) (hc : X.calm = true) (hi : PI X tg iter wi) (hg : PG X tg g) (hb : PSs X body tb)
    (hs : ∀ x, foldedSetIterable iter X.env x = pure x := by intro _; rfl) : PS X (.For tg iter body [] pos) (tFor wi g tb) := by
  intro pins s σ H D I h
  refine wpAny_For (thn (hi pins s σ H _ I h) fun v s1 h1 => thn h1 fun itv s2 h2 => ?_) hs
  obtain ⟨it, fp, tn, J, H2, e, I2, T, st2, f2, W, ⟨m0, w0⟩, turn⟩ := h2
  subst e
  -- what stays true of the iterator's objects through the loop
  have stat : ∀ {H' : Hp}, (∀ b ∈ fp, H' b = none) → ∀ b ∈ fp, FpOk X pins H' b := fun hn b hb => ⟨hn b hb, (f2 b hb).2⟩
  refine codeAny_forLoop_any (fun n s' => ∃ i σ' H', Inv X pins σ' H' s' ∧ tn i s'.heap ∧ (∀ b ∈ fp, H' b = none) ∧ W i n σ' H') ?_ m0 ⟨0, σ, H2, I2, st2, fun b hb => (f2 b hb).1, w0⟩
  rintro n s3 ⟨i, σ3, H3, I3, st3, fr3, w3⟩
  rcases turn i n σ3 H3 w3 with ⟨stop, qn⟩ | ⟨go, N, hN, step⟩
  · refine wpAny_passesOwn hp (thn (T.done X rfl rfl rfl hc i pins s3 σ3 H3 X.xe I3 (stat fr3) st3 stop) fun r s4 ⟨hr, I4⟩ => ?_)
    subst hr
    exact wpAny_execs_nil ⟨σ3, H3, I4, qn⟩
  · refine wpAny_passesOwn hp (thn (T.item X rfl rfl rfl hc i pins s3 σ3 H3 X.xe I3 (stat fr3) st3 go) fun r s4 ⟨u, hr, h4⟩ => ?_)
    subst hr
    refine wpAny_passesOwn hp (thn h4 fun _ s5 ⟨x, H5, I5, r5, y5, st5, fr5⟩ => ?_)
    have I5' := I5.pinned (stat fr5) (T.obj _ _ st5)
    refine wpAny_passesOwn hp (thn (hg _ s5 σ3 H5 x u _ I5' r5 (step x H5 y5)) fun _ s6 ⟨σ6, H6, I6, q6⟩ => ?_)
    refine wpAny_passesOwn hp (thn (hb _ s6 σ6 H6 _ I6 q6) fun f s7 q7 => ?_)
    have again : ∀ {σ7 : St} {H7 : Hp}, Inv X (pins ++ pinsAt fp s5.heap) σ7 H7 s7 → N σ7 H7 → ∃ m, m < n ∧ ∃ i σ' H', Inv X pins σ' H' s7 ∧ tn i s7.heap ∧ (∀ b ∈ fp, H' b = none) ∧ W i m σ' H' := fun {σ7 H7} I7 n7 => by
      obtain ⟨m', hm, w7⟩ := hN σ7 H7 n7
      refine ⟨m', hm, i + 1, σ7, H7, I7.unpinned, T.keep _ _ _ st5 fun b hb o e => (I7.pin (b, o) (List.mem_append_right _ (List.mem_append_right _ (mem_pinsAt hb e)))).1, fun b hb => ?_, w7⟩
      obtain ⟨o, e, d⟩ := T.obj _ _ st5 b hb
      exact (I7.pin (b, o) (List.mem_append_right _ (List.mem_append_right _ (mem_pinsAt hb e)))).2.1
    cases f with
    | next => obtain ⟨σ7, H7, I7, n7⟩ := q7; exact again I7 n7
    | cont => obtain ⟨σ7, H7, I7, n7⟩ := q7; exact again I7 n7
    | brk => obtain ⟨σ7, H7, I7, q7⟩ := q7; exact ⟨σ7, H7, I7.unpinned, q7⟩
    | ret v => obtain ⟨x7, σ7, H7, I7, r7, q7⟩ := q7; exact ⟨x7, σ7, H7, I7.unpinned, r7, q7⟩
end

/-! ### the forms one uses -/
/-- over a list that the body leaves as it is -/
theorem for_list {K : PySem.W.Frag} {a : Addr} {xs : List V} {g : TG} {tb : TS} {D : Ends} {σ : St} {H : Hp} (Pv : Nat → St → Hp → Prop) (h0 : Pv 0 σ H) (hl : ∀ i σ H, i ≤ xs.length → Pv i σ H → SqL K H a xs)
    (hs : ∀ i x σ H, xs[i]? = some x → Pv i σ H → g x σ H fun σ2 H2 => tb { D with nx := Pv (i + 1), ct := Pv (i + 1), bk := D.nx } σ2 H2) (hd : ∀ σ H, Pv xs.length σ H → D.nx σ H) :
    ∃ W : Nat → Nat → St → Hp → Prop, (∃ m, W 0 m σ H) ∧ ∀ i m σ H, W i m σ H →
      ((Itl K a).stop i H ∧ D.nx σ H) ∨ ((Itl K a).go i H ∧ ∃ N : St → Hp → Prop, (∀ σ' H', N σ' H' → ∃ m', m' < m ∧ W (i + 1) m' σ' H') ∧ ∀ x H', (Itl K a).yld i H x H' → g x σ H' fun σ2 H2 => tb { D with nx := N, ct := N, bk := D.nx } σ2 H2) := by
  refine ⟨fun i m σ H => m = xs.length - i ∧ i ≤ xs.length ∧ Pv i σ H, ⟨xs.length, by simp, Nat.zero_le _, h0⟩, ?_⟩
  rintro i m σ H ⟨rfl, hi, p⟩
  have q := hl i σ H hi p
  by_cases hlt : i < xs.length
  · refine .inr ⟨⟨xs, xs[i], q, by simp [hlt]⟩, Pv (i + 1), fun σ' H' p' => ⟨xs.length - (i + 1), by omega, rfl, hlt, p'⟩, fun x H' y => ?_⟩
    obtain ⟨e, y⟩ := y
    subst e
    exact hs i x σ _ (y xs q) p
  · have e : i = xs.length := by omega
    subst e
    exact .inl ⟨⟨xs, q, Nat.le_refl _⟩, hd σ H p⟩
theorem for_range {lo : Int} {n : Nat} {g : TG} {tb : TS} {D : Ends} {σ : St} {H : Hp} (Pv : Nat → St → Hp → Prop) (h0 : Pv 0 σ H)
    (hs : ∀ i σ H, i < n → Pv i σ H → g (.int (lo + i)) σ H fun σ2 H2 => tb { D with nx := Pv (i + 1), ct := Pv (i + 1), bk := D.nx } σ2 H2) (hd : ∀ σ H, Pv n σ H → D.nx σ H) :
    ∃ W : Nat → Nat → St → Hp → Prop, (∃ m, W 0 m σ H) ∧ ∀ i m σ H, W i m σ H →
      ((Itr lo n).stop i H ∧ D.nx σ H) ∨ ((Itr lo n).go i H ∧ ∃ N : St → Hp → Prop, (∀ σ' H', N σ' H' → ∃ m', m' < m ∧ W (i + 1) m' σ' H') ∧ ∀ x H', (Itr lo n).yld i H x H' → g x σ H' fun σ2 H2 => tb { D with nx := N, ct := N, bk := D.nx } σ2 H2) := by
  refine ⟨fun i m σ H => m = n - i ∧ i ≤ n ∧ Pv i σ H, ⟨n, by simp, Nat.zero_le _, h0⟩, ?_⟩
  rintro i m σ H ⟨rfl, hi, p⟩
  by_cases hlt : i < n
  · refine .inr ⟨hlt, Pv (i + 1), fun σ' H' p' => ⟨n - (i + 1), by omega, rfl, hlt, p'⟩, fun x H' y => ?_⟩
    obtain ⟨e, y⟩ := y
    subst e y
    exact hs i σ _ hlt p
  · have e : i = n := by omega
    subst e
    exact .inl ⟨Nat.le_refl _, hd σ H p⟩
end L2

namespace L2
open PySem PySem.Spec PyProof.Rows

abbrev R2 := V → V → Hp → VK → Prop
/-- a two-place operation on values: f is binaryOp op, inplaceOp op or compareOp op -/
def OpR (X : Cx) (f : Value → Value → Sem Value) (r : R2) : Prop :=
  ∀ (pins : List (Addr × Obj)) (s : Shared) (σ : St) (H : Hp) (x y : V) (v u : Value) (Q : VK), Inv X pins σ H s → RelV x v → RelV y u → r x y H Q →
    wpAny (model X.prog X.w) X.A (f v u) (EP X pins σ Q) X.xe s
/-- a one-place operation -/
def UnR (X : Cx) (f : Value → Sem Value) (r : V → Hp → VK → Prop) : Prop :=
  ∀ (pins : List (Addr × Obj)) (s : Shared) (σ : St) (H : Hp) (x : V) (v : Value) (Q : VK), Inv X pins σ H s → RelV x v → r x H Q →
    wpAny (model X.prog X.w) X.A (f v) (EP X pins σ Q) X.xe s
/-- a call of a value that is known (a builtin, a type) with values -/
def CallR (X : Cx) (f : Value) (r : List V → Hp → VK → Prop) : Prop :=
  ∀ (pins : List (Addr × Obj)) (s : Shared) (σ : St) (H : Hp) (xs : List V) (us : List Value) (Q : VK), Inv X pins σ H s → Vals xs us → r xs H Q →
    wpAny (model X.prog X.w) X.A (call f us) (EP X pins σ Q) X.xe s
/-- a value's truth -/
def TruR (X : Cx) (r : V → Hp → (Bool → Hp → Prop) → Prop) : Prop :=
  ∀ (pins : List (Addr × Obj)) (s : Shared) (σ : St) (H : Hp) (x : V) (v : Value) (Q : Bool → Hp → Prop), Inv X pins σ H s → RelV x v → r x H Q →
    wpAny (model X.prog X.w) X.A (truthy v) (TP X pins σ Q) X.xe s

def tOp (r : R2) (ta tb : TE) : TE := fun σ H Q => ta σ H fun x H1 => tb σ H1 fun y H2 => r x y H2 Q
def tUn (r : V → Hp → VK → Prop) (ta : TE) : TE := fun σ H Q => ta σ H fun x H1 => r x H1 Q
/-- ints in, under C, and a value out -/
def rI (C : Int → Int → Prop) (g : Int → Int → V) : R2 := fun x y H Q => ∃ i j, x = .int i ∧ y = .int j ∧ C i j ∧ Q (g i j) H
def rI0 (g : Int → Int → V) : R2 := fun x y H Q => ∃ i j, x = .int i ∧ y = .int j ∧ Q (g i j) H
def rU (g : Int → V) : V → Hp → VK → Prop := fun x H Q => ∃ i, x = .int i ∧ Q (g i) H

section
variable {X : Cx} {a b c : Expr} {ta tb tc : TE} {pos : Pos}

theorem binT (ha : PE X a ta) (hb : PE X b tb) {pins : List (Addr × Obj)} {s : Shared} {σ : St} {H : Hp} {R : V → V → Hp → Prop} (I : Inv X pins σ H s)
    (h : ta σ H fun x H1 => tb σ H1 fun y H2 => R x y H2) {Q : Value → Shared → Prop} {f : Value → Value → Sem Value}
    (hf : ∀ v u s2 x y H2, Inv X pins σ H2 s2 → RelV x v → RelV y u → R x y H2 → wpAny (model X.prog X.w) X.A (f v u) Q X.xe s2) :
    wpAny (model X.prog X.w) X.A (eval a X.env) (fun v s₁ => wpAny (model X.prog X.w) X.A (eval b X.env) (fun u s₂ => wpAny (model X.prog X.w) X.A (f v u) Q X.xe s₂) X.xe s₁) X.xe s := by
  refine thn (ha pins s σ H _ I h) fun v s1 ⟨x, H1, I1, r1, q1⟩ => ?_
  refine thn (hb pins s1 σ H1 _ I1 q1) fun u s2 ⟨y, H2, I2, r2, q2⟩ => ?_
  exact hf v u s2 x y H2 I2 r1 r2 q2

theorem pe_op {op : Operator} {r : R2} (ho : OpR X (binaryOp op) r) (ha : PE X a ta) (hb : PE X b tb) : PE X (.BinOp a op b pos) (tOp r ta tb) := by
  intro pins s σ H Q I h
  exact wpAny_BinOp (binT ha hb I h fun v u s2 x y H2 I2 rx ry q => ho pins s2 σ H2 x y v u Q I2 rx ry q)
theorem pe_un {op : UnaryOp} {r : V → Hp → VK → Prop} (ho : UnR X (unaryOp op) r) (ha : PE X a ta) : PE X (.UnaryOp op a pos) (tUn r ta) := by
  intro pins s σ H Q I h
  exact UnaryOp_ (thn (ha pins s σ H _ I h) fun v s1 ⟨x, H1, I1, r1, q1⟩ => ho pins s1 σ H1 x v Q I1 r1 q1)
/-! ### ints -/
theorem opI {f : Value → Value → Sem Value} {C : Int → Int → Prop} {g : Int → Int → Int}
    (rule : ∀ (i j : Int) (t u : Tok) (s : Shared) (Q : Value → Shared → Prop) (E : Value → Shared → Prop), C i j → Q (.int (g i j) s.toks) { s with toks := s.toks + 1 } → wpAny (model X.prog X.w) X.A (f (.int i t) (.int j u)) Q E s) :
    OpR X f (rI C fun i j => .int (g i j)) := by
  intro pins s σ H x y v u Q I rx ry h
  obtain ⟨i, j, rfl, rfl, hc, q⟩ := h
  obtain ⟨t, rfl⟩ := rx
  obtain ⟨t', rfl⟩ := ry
  exact rule i j t t' s _ _ hc ⟨.int (g i j), H, I.tok _, ⟨_, rfl⟩, q⟩
theorem opI0 {f : Value → Value → Sem Value} {g : Int → Int → Int}
    (rule : ∀ (i j : Int) (t u : Tok) (s : Shared) (Q : Value → Shared → Prop) (E : Value → Shared → Prop), Q (.int (g i j) s.toks) { s with toks := s.toks + 1 } → wpAny (model X.prog X.w) X.A (f (.int i t) (.int j u)) Q E s) :
    OpR X f (rI0 fun i j => .int (g i j)) := by
  intro pins s σ H x y v u Q I rx ry h
  obtain ⟨i, j, rfl, rfl, q⟩ := h
  obtain ⟨t, rfl⟩ := rx
  obtain ⟨t', rfl⟩ := ry
  exact rule i j t t' s _ _ ⟨.int (g i j), H, I.tok _, ⟨_, rfl⟩, q⟩
theorem opB0 {f : Value → Value → Sem Value} {g : Int → Int → Bool}
    (rule : ∀ (i j : Int) (t u : Tok) (s : Shared) (Q : Value → Shared → Prop) (E : Value → Shared → Prop), Q (.bool (g i j)) s → wpAny (model X.prog X.w) X.A (f (.int i t) (.int j u)) Q E s) :
    OpR X f (rI0 fun i j => .bl (g i j)) := by
  intro pins s σ H x y v u Q I rx ry h
  obtain ⟨i, j, rfl, rfl, q⟩ := h
  obtain ⟨t, rfl⟩ := rx
  obtain ⟨t', rfl⟩ := ry
  exact rule i j t t' s _ _ ⟨.bl (g i j), H, I, rfl, q⟩

def CDiv (i j : Int) : Prop := 0 < j ∧ j < 1073741824
def CPow (i j : Int) : Prop := 0 ≤ j ∧ j ≤ 1000000 ∧ i.natAbs < 2 ^ 64
def CMul (i j : Int) : Prop := (-(2 ^ 64) < i ∧ i < 2 ^ 64) ∨ (-(2 ^ 64) < j ∧ j < 2 ^ 64)
theorem CMul.ok {i j : Int} (h : CMul i j) : IntMulOk i j := by
  rcases h with ⟨h1, h2⟩ | ⟨h1, h2⟩
  · exact .of_left (intBits_le_64 h1 h2)
  · exact .of_right (intBits_le_64 h1 h2)
theorem op_add : OpR X (binaryOp .Add) (rI0 fun i j => .int (i + j)) := opI0 fun _ _ _ _ _ _ _ q => add_int q
theorem op_sub : OpR X (binaryOp .Sub) (rI0 fun i j => .int (i - j)) := opI0 fun _ _ _ _ _ _ _ q => sub_int q
theorem op_mul : OpR X (binaryOp .Mult) (rI CMul fun i j => .int (i * j)) := opI fun _ _ _ _ _ _ _ hc q => mul_int q hc.ok
/-- // by a positive divisor -/
theorem op_fdiv : OpR X (binaryOp .FloorDiv) (rI CDiv fun i j => .int (i / j)) := opI fun i j _ _ _ _ _ hc q => by
  have h1 : (0 : Int) < j := hc.1
  have h2 : j < 1073741824 := hc.2
  exact floordiv_int (by omega) (by rw [Int.fdiv_eq_ediv_of_nonneg i (by omega)]; exact q) (.inl (PyProof.noPylong_small (by omega)))
/-- % by a positive divisor of any size -/
theorem op_mod : OpR X (binaryOp .Mod) (rI (fun _ j => 0 < j) fun i j => .int (i % j)) := opI fun i j _ _ _ _ _ hc q => by
  have h1 : (0 : Int) < j := hc
  exact mod_int' (by omega) (by rw [Int.fmod_eq_emod_of_nonneg i (by omega)]; exact q)
theorem op_pow : OpR X (binaryOp .Pow) (rI CPow fun i j => .int (i ^ j.toNat)) := opI fun _ _ _ _ _ _ _ hc q => pow_int_small hc.1 hc.2.1 hc.2.2 q
theorem unI {f : Value → Sem Value} {g : Int → Int}
    (rule : ∀ (i : Int) (t : Tok) (s : Shared) (Q : Value → Shared → Prop) (E : Value → Shared → Prop), Q (.int (g i) s.toks) { s with toks := s.toks + 1 } → wpAny (model X.prog X.w) X.A (f (.int i t)) Q E s) :
    UnR X f (rU fun i => .int (g i)) := by
  intro pins s σ H x v Q I rx h
  obtain ⟨i, rfl, q⟩ := h
  obtain ⟨t, rfl⟩ := rx
  exact rule i t s _ _ ⟨.int (g i), H, I.tok _, ⟨_, rfl⟩, q⟩
theorem un_neg : UnR X (unaryOp .USub) (rU fun i => .int (-i)) := unI fun _ _ _ _ _ q => neg_int q
/-! ### bools among ints: n += (a < b) -/
end

/-! ### comparisons -/
/-- the scalars that == tells apart as data does -/
def scal : V → V → Bool
  | .non, .non => true | .non, .int _ => true | .int _, .non => true | .non, .bl _ => true | .bl _, .non => true | .non, .str _ => true | .str _, .non => true
  | .int _, .int _ => true | .bl _, .bl _ => true | .str _, .str _ => true | .byt _, .byt _ => true
  | .int _, .str _ => true | .str _, .int _ => true | .bl _, .str _ => true | .str _, .bl _ => true
  | _, _ => false
def rEq : R2 := fun x y H Q => scal x y = true ∧ Q (.bl (decide (x = y))) H
theorem dec_int {i j : Int} : decide (V.int i = V.int j) = (i == j) := by
  rw [Bool.eq_iff_iff]
  simp
theorem dec_bl {i j : Bool} : decide (V.bl i = V.bl j) = (i == j) := by
  rw [Bool.eq_iff_iff]
  simp
theorem dec_str {i j : Str} : decide (V.str i = V.str j) = (i == j) := by
  rw [Bool.eq_iff_iff]
  simp
theorem dec_byt {i j : Array UInt8} : decide (V.byt i = V.byt j) = (i.toList == j.toList) := by
  rw [Bool.eq_iff_iff]
  cases i
  cases j
  simp

section
variable {X : Cx} {a b c : Expr} {ta tb tc : TE} {pos : Pos}
theorem fin_bl {pins : List (Addr × Obj)} {σ : St} {H : Hp} {s : Shared} {Q : VK} {k k' : Bool} (I : Inv X pins σ H s) (q : Q (.bl k) H) (e : k = k') : EP X pins σ Q (.bool k') s := by
  subst e
  exact ⟨.bl k, H, I, rfl, q⟩
theorem op_eq : OpR X (compareOp .Eq) rEq := by
  intro pins s σ H x y v u Q I rx ry h
  obtain ⟨hs, q⟩ := h
  cases x with
  | non =>
    cases rx
    cases y with
    | non => cases ry; exact PySem.EqNone.eq_none_none (fin_bl I q (by simp))
    | bl j => cases ry; exact PySem.EqNone.eq_none_bool (fin_bl I q (by simp))
    | int j => obtain ⟨t', rfl⟩ := ry; exact PySem.EqNone.eq_none_int (fin_bl I q (by simp))
    | str j => obtain ⟨t', rfl⟩ := ry; exact PySem.EqNone.eq_none_str (fin_bl I q (by simp))
    | _ => exact absurd (show false = true from hs) Bool.false_ne_true
  | bl i =>
    cases rx
    cases y with
    | non => cases ry; exact PySem.EqNone.eq_bool_none (fin_bl I q (by simp))
    | bl j => cases ry; exact eq_bool (fin_bl I q dec_bl)
    | str j => obtain ⟨t', rfl⟩ := ry; exact PySem.EqMixed.eq_bool_str (fin_bl I q (by simp))
    | _ => exact absurd (show false = true from hs) Bool.false_ne_true
  | int i =>
    obtain ⟨t, rfl⟩ := rx
    cases y with
    | non => cases ry; exact PySem.EqNone.eq_int_none (fin_bl I q (by simp))
    | int j => obtain ⟨t', rfl⟩ := ry; exact eq_int (fin_bl I q dec_int)
    | str j => obtain ⟨t', rfl⟩ := ry; exact PySem.EqMixed.eq_int_str (fin_bl I q (by simp))
    | _ => exact absurd (show false = true from hs) Bool.false_ne_true
  | str i =>
    obtain ⟨t, rfl⟩ := rx
    cases y with
    | non => cases ry; exact PySem.EqNone.eq_str_none (fin_bl I q (by simp))
    | bl j => cases ry; exact PySem.EqMixed.eq_str_bool (fin_bl I q (by simp))
    | int j => obtain ⟨t', rfl⟩ := ry; exact PySem.EqMixed.eq_str_int (fin_bl I q (by simp))
    | str j => obtain ⟨t', rfl⟩ := ry; exact eq_str (fin_bl I q dec_str)
    | _ => exact absurd (show false = true from hs) Bool.false_ne_true
  | byt i =>
    obtain ⟨t, rfl⟩ := rx
    cases y with
    | byt j => obtain ⟨t', rfl⟩ := ry; exact PySem.W.eq_bytes (fin_bl I q dec_byt)
    | _ => exact absurd (show false = true from hs) Bool.false_ne_true
  | _ => cases y <;> exact absurd (show false = true from hs) Bool.false_ne_true
theorem op_lt : OpR X (compareOp .Lt) (rI0 fun i j => .bl (decide (i < j))) := opB0 fun _ _ _ _ _ _ _ q => lt_int q
theorem op_le : OpR X (compareOp .LtE) (rI0 fun i j => .bl (decide (i ≤ j))) := opB0 fun _ _ _ _ _ _ _ q => le_int q
theorem op_gt : OpR X (compareOp .Gt) (rI0 fun i j => .bl (decide (j < i))) := opB0 fun _ _ _ _ _ _ _ q => gt_int q
theorem op_lt_str : OpR X (compareOp .Lt) (fun x y H Q => ∃ i j, x = .str i ∧ y = .str j ∧ Q (.bl (decide (i.cps.toList < j.cps.toList))) H) := by
  intro pins s σ H x y v u Q I rx ry h
  obtain ⟨i, j, rfl, rfl, q⟩ := h
  obtain ⟨t, rfl⟩ := rx
  obtain ⟨t', rfl⟩ := ry
  exact lt_str (fin_bl I q rfl)
/-- the one string within the other -/
theorem op_in_str : OpR X (compareOp .In) (fun x y H Q => ∃ i j, x = .str i ∧ y = .str j ∧ Q (.bl (!(Builtin.Str.occurrences j i 0 j.length 1).isEmpty)) H) := by
  intro pins s σ H x y v u Q I rx ry h
  obtain ⟨i, j, rfl, rfl, q⟩ := h
  obtain ⟨t, rfl⟩ := rx
  obtain ⟨t', rfl⟩ := ry
  exact in_str (fin_bl I q rfl)

/-- is None, is not None: the right side a value none -/
theorem op_isN : OpR X (compareOp .Is) (fun x y H Q => y = .non ∧ Q (.bl (decide (x = .non))) H) := by
  intro pins s σ H x y v u Q I rx ry h
  obtain ⟨rfl, q⟩ := h
  cases ry
  refine is_none_gen (fin_bl I q ?_)
  cases x <;> first
    | (cases rx; rfl)
    | (obtain ⟨t, rfl⟩ := rx; rfl)
theorem op_notN : OpR X (compareOp .IsNot) (fun x y H Q => y = .non ∧ Q (.bl (!decide (x = .non))) H) := by
  intro pins s σ H x y v u Q I rx ry h
  obtain ⟨rfl, q⟩ := h
  cases ry
  refine isnot_none_gen (fin_bl I q ?_)
  cases x <;> first
    | (cases rx; rfl)
    | (obtain ⟨t, rfl⟩ := rx; rfl)

/-- two rules for one operation: by cases -/
theorem OpR.or {f : Value → Value → Sem Value} {r r' : R2} (h : OpR X f r) (h' : OpR X f r') : OpR X f (fun x y H Q => r x y H Q ∨ r' x y H Q) := by
  intro pins s σ H x y v u Q I rx ry q
  rcases q with q | q
  · exact h pins s σ H x y v u Q I rx ry q
  · exact h' pins s σ H x y v u Q I rx ry q

theorem nomark (b : Expr) {op : CmpOp} (h : op ≠ .In := by decide) (h2 : op ≠ .NotIn := by decide) : behindInMarks op b = false := by
  have e1 : (op == CmpOp.In) = false := by cases op <;> first | rfl | exact absurd rfl h
  have e2 : (op == CmpOp.NotIn) = false := by cases op <;> first | rfl | exact absurd rfl h2
  cases b <;> simp [behindInMarks, e1, e2]
/-- a comparison as a value; hm: nomark b, or (for in, not in) by with_unfolding_all rfl -/
theorem pe_cmpR {op : CmpOp} {r : R2} (ho : OpR X (compareOp op) r) (ha : PE X a ta) (hb : PE X b tb) (hm : behindInMarks op b = false) : PE X (.Compare a [op] [b] pos) (tOp r ta tb) := by
  intro pins s σ H Q I h
  exact wpAny_Compare1 (binT ha hb I h fun v u s2 x y H2 I2 rx ry q => ho pins s2 σ H2 x y v u Q I2 rx ry q) hm
/-- a reading of a value as a test -/
def tTest (t : TE) : TT := fun σ H Q => t σ H fun x H' => ∃ k, x = .bl k ∧ Q k H'
theorem pt_cmpR {op : CmpOp} {r : R2} (ho : OpR X (compareOp op) r) (ha : PE X a ta) (hb : PE X b tb) (hm : behindInMarks op b = false) : PT X (.Compare a [op] [b] pos) (tTest (tOp r ta tb)) := by
  intro pins s σ H Q I h
  refine wpAny_isTrue_Compare1 (thn (ha pins s σ H _ I h) fun v s1 ⟨x, H1, I1, r1, q1⟩ => thn (hb pins s1 σ H1 _ I1 q1) fun u s2 ⟨y, H2, I2, r2, q2⟩ =>
    thn (ho pins s2 σ H2 x y v u _ I2 r1 r2 q2) fun c s3 ⟨z, H3, I3, r3, k, e, q3⟩ => ?_) hm
  subst e
  cases r3
  exact wpAny_truthy_bool ⟨H3, I3, q3⟩
/-! ### truth -/
/-- a value's truth by the abstract heap -/
def TruV (K : PySem.W.Frag) (x : V) (H : Hp) (k : Bool) : Prop :=
  match x with
  | .non => k = false
  | .bl b => k = b
  | .int i => k = (i != 0)
  | .str y => y.length ≤ sizeLine ∧ k = ((y.length : Int) != 0)
  | .byt y => y.size ≤ sizeLine ∧ k = ((y.size : Int) != 0)
  | .ref p => (∃ xs, SqL K H p xs ∧ k = !xs.isEmpty) ∨ (∃ xs, SqT K H p xs ∧ k = !xs.isEmpty) ∨ ∃ kvs, H p = some (.dK kvs) ∧ k = !kvs.isEmpty
  | _ => False
theorem isEmpty_kv {κ : Type} {kvs : List (κ × V)} {vs : List (κ × Value)} (r : KV kvs vs) : (!vs.isEmpty) = !kvs.isEmpty := by
  cases r <;> rfl
theorem isEmpty_of {xs : List V} {its : List Value} (r : Vals xs its) : (!its.toArray.isEmpty) = !xs.isEmpty := by
  cases r <;> simp
theorem line63 : (sizeLine : Nat) < 2 ^ 63 := by rw [sizeLine_eq]; decide
theorem tru_ok : TruR X (fun x H Q => ∃ k, TruV X.K x H k ∧ Q k H) := by
  intro pins s σ H x v Q I rx h
  obtain ⟨k, e, q⟩ := h
  have hl := line63
  have hs : sizeLine = 16777216 := sizeLine_eq
  cases x with
  | non =>
    cases rx
    have e' : k = false := e
    subst e'
    exact truthy_none ⟨H, I, q⟩
  | bl b =>
    cases rx
    have e' : k = b := e
    subst e'
    exact wpAny_truthy_bool ⟨H, I, q⟩
  | int i =>
    obtain ⟨t, rfl⟩ := rx
    have e' : k = (i != 0) := e
    subst e'
    exact PySem.P.truthy_int ⟨H, I, q⟩
  | str y =>
    obtain ⟨t, rfl⟩ := rx
    obtain ⟨hy, e'⟩ : y.length ≤ sizeLine ∧ k = ((y.length : Int) != 0) := e
    subst e'
    exact PySem.P.truthy_str (by omega) ⟨H, I.tok _, q⟩
  | byt y =>
    obtain ⟨t, rfl⟩ := rx
    obtain ⟨hy, e'⟩ : y.size ≤ sizeLine ∧ k = ((y.size : Int) != 0) := e
    subst e'
    exact PySem.W.truthy_bytes (by omega) ⟨H, I.tok _, q⟩
  | ref p =>
    cases rx
    have e' : (∃ xs, SqL X.K H p xs ∧ k = !xs.isEmpty) ∨ (∃ xs, SqT X.K H p xs ∧ k = !xs.isEmpty) ∨ ∃ kvs, H p = some (.dK kvs) ∧ k = !kvs.isEmpty := e
    rcases e' with ⟨xs, hx, e'⟩ | ⟨xs, hx, e'⟩ | ⟨kvs, hx, e'⟩
    · subst e'
      obtain ⟨its, r, pl, hz⟩ := I.list hx
      have hlen := r.length
      exact wpAny_truthy_list pl.isList (by simp only [List.size_toArray]; omega) ⟨H, I.tok _, by rw [isEmpty_of r]; exact q⟩
    · subst e'
      obtain ⟨its, r, pl, hz⟩ := I.tuple hx
      have hlen := r.length
      exact truthy_tuple pl (by simp only [List.size_toArray]; omega) ⟨H, I.tok _, by rw [isEmpty_of r]; exact q⟩
    · subst e'
      obtain ⟨hz, hS, vs, r, m⟩ : kvs.length ≤ sizeLine ∧ (p == sysModules) = false ∧ ∃ vs, KV kvs vs ∧ s.heap.DictOf (mixKind X.prog X.w) p vs := I.hok p _ hx
      have hlen : kvs.length = vs.length := Paired.length r
      exact wpAny_truthy_dict hS m (by omega) ⟨H, I.tok _, by rw [isEmpty_kv r]; exact q⟩
  | _ => exact (show False from e).elim
/-- any expression whose test is its value's truth (a name, a call, a subscript, a field ..: he by fun _ => rfl) -/
theorem pt_truth (ha : PE X a ta) (he : ∀ whole, isTrue a X.env whole = (do let v ← whole; standAt a.pos; holding [v] (truthy v))) :
    PT X a (fun σ H Q => ta σ H fun x H' => ∃ k, TruV X.K x H' k ∧ Q k H') := by
  intro pins s σ H Q I h
  exact isTrue_plain (thn (ha pins s σ H _ I h) fun v s1 ⟨x, H1, I1, r1, q1⟩ => tru_ok pins s1 σ H1 x v Q I1 r1 q1) (he _)

/-! ### strs and bytes -/
theorem op_add_str : OpR X (binaryOp .Add) (fun x y H Q => ∃ i j, x = .str i ∧ y = .str j ∧ i.length + j.length ≤ sizeLine ∧ Q (.str (i ++ j)) H) := by
  intro pins s σ H x y v u Q I rx ry h
  obtain ⟨i, j, rfl, rfl, hz, q⟩ := h
  obtain ⟨t, rfl⟩ := rx
  obtain ⟨t', rfl⟩ := ry
  exact add_str (fun t' tk => ⟨.str (i ++ j), H, I.tok _, ⟨_, rfl⟩, q⟩) hz
/-! ### scalar builtins, by CallR -/
theorem vals1 {x : V} {us : List Value} (r : Vals [x] us) : ∃ u, us = [u] ∧ RelV x u := by
  cases r with
  | cons r1 r2 => cases r2; exact ⟨_, rfl, r1⟩
theorem vals2 {x y : V} {us : List Value} (r : Vals [x, y] us) : ∃ u w', us = [u, w'] ∧ RelV x u ∧ RelV y w' := by
  cases r with
  | cons r1 r2 =>
    cases r2 with
    | cons r3 r4 => cases r4; exact ⟨_, _, rfl, r1, r3⟩
theorem call_str_int : CallR X (.type "str") (fun xs H Q => ∃ i, xs = [.int i] ∧ i.natAbs.log2 < 1920 ∧ Q (.str (toString i)) H) := by
  intro pins s σ H xs us Q I r h
  obtain ⟨i, rfl, hz, q⟩ := h
  obtain ⟨u, rfl, t, rfl⟩ := vals1 r
  exact PySem.P.str_of_int hz ⟨.str _, H, I.tok _, ⟨_, rfl⟩, q⟩
/-- len of a str, a bytes, a list, a tuple -/
def LenV (K : PySem.W.Frag) (x : V) (H : Hp) (n : Nat) : Prop :=
  match x with
  | .str y => y.length ≤ sizeLine ∧ n = y.length
  | .byt y => y.size ≤ sizeLine ∧ n = y.size
  | .ref p => (∃ xs, SqL K H p xs ∧ n = xs.length) ∨ ∃ xs, SqT K H p xs ∧ n = xs.length
  | _ => False
theorem call_len : CallR X (.builtin "len") (fun xs H Q => ∃ x n, xs = [x] ∧ LenV X.K x H n ∧ Q (.int n) H) := by
  intro pins s σ H xs us Q I r h
  obtain ⟨x, n, rfl, e, q⟩ := h
  obtain ⟨u, rfl, rx⟩ := vals1 r
  have hl := line63
  have hs : sizeLine = 16777216 := sizeLine_eq
  cases x with
  | str y =>
    obtain ⟨t, rfl⟩ := rx
    obtain ⟨hy, e'⟩ : y.length ≤ sizeLine ∧ n = y.length := e
    subst e'
    exact len_str (by omega) ⟨.int _, H, I.tok _, ⟨_, rfl⟩, q⟩
  | byt y =>
    obtain ⟨t, rfl⟩ := rx
    obtain ⟨hy, e'⟩ : y.size ≤ sizeLine ∧ n = y.size := e
    subst e'
    exact PySem.W.len_bytes (by omega) ⟨.int _, H, I.tok _, ⟨_, rfl⟩, q⟩
  | ref p =>
    cases rx
    have e' : (∃ xs, SqL X.K H p xs ∧ n = xs.length) ∨ ∃ xs, SqT X.K H p xs ∧ n = xs.length := e
    rcases e' with ⟨xs, hx, e'⟩ | ⟨xs, hx, e'⟩
    · subst e'
      obtain ⟨its, r', pl, hz⟩ := I.list hx
      have hlen := r'.length
      exact Calls.call_len_list pl.isList (by simp only [List.size_toArray]; omega) ⟨.int xs.length, H, I.tok _, ⟨_, by simp only [List.size_toArray]; rw [hlen]⟩, q⟩
    · subst e'
      obtain ⟨its, r', pl, hz⟩ := I.tuple hx
      have hlen := r'.length
      exact len_tuple pl (by simp only [List.size_toArray]; omega) ⟨.int xs.length, H, I.tok _, ⟨_, by simp only [List.size_toArray]; rw [hlen]⟩, q⟩
  | _ => exact (show False from e).elim
end
end L2

namespace L2
open PySem PySem.Spec PyProof.Rows

/-! ### an instance, its attributes a map -/
structure ObjM (h : Heap) (x dx C : Addr) (mA : Str → Option Value) : Prop where
  obj : h.get? x = some (PySem.W.instObj C dx)
  ns : h.Ns1 dx mA
  ne : dx ≠ x

theorem lookIn_ns {h : Heap} {dx : Addr} {mA : Str → Option Value} (n : h.Ns1 dx mA) : ∃ od, h.get? dx = some od ∧ ∀ name, PySem.W.lookIn name od = some (mA name) := by
  obtain ⟨o, es, ep, ho, hd, hk, _, hm⟩ := n
  refine ⟨o, ho, fun name => ?_⟩
  have e := hm name
  unfold nsFind findBy at e
  rw [← Array.find?_toList] at e
  unfold PySem.W.lookIn
  rw [hd]
  dsimp only
  split
  · rename_i y q
    rw [q] at e
    exact congrArg some e
  · rename_i q
    rw [q] at e
    have a : es.toList.any (·.refKey) = false := by
      rw [List.any_eq_false]
      intro y hy
      obtain ⟨z, t, hkey⟩ := hk y (Array.mem_toList_iff.mp hy)
      simp [DictEntry.refKey, hkey]
    have a' : ¬ es.toList.any (·.refKey) = true := by rw [a]; exact Bool.false_ne_true
    rw [if_neg a']
    exact congrArg some e

theorem ObjM.look {h : Heap} {x dx C : Addr} {mA : Str → Option Value} (I : ObjM h x dx C mA) : ∃ od, PySem.W.InstAt h x (PySem.W.instObj C dx) C (some od) ∧ ∀ name, PySem.W.lookIn name od = some (mA name) :=
  let ⟨od, ho, hl⟩ := lookIn_ns I.ns
  ⟨od, ⟨I.obj, rfl, rfl, ho⟩, hl⟩

section
variable {prog : Program} {w : World} {A : Around} {E : Value → Shared → Prop} {s : Shared} {K : PySem.W.Frag} {x dx C f : Addr} {mA : Str → Option Value} {name : Str} {v : Value}

theorem get_map {expr : Bool} {Q : Value → Shared → Prop} (X : K.In s.heap) (I : ObjM s.heap x dx C mA) (hg : PySem.W.plainGet K C name = true) (hh : PySem.W.hasDictIn K C = true)
    (ha : PySem.W.findIn K (.ref C) name = some none) (hv : mA name = some v) (hv' : PySem.W.handedIn v = true) (h : Q v { s with toks := s.toks + 1 }) :
    wpAny (model prog w) A (getAttr (.ref x) name expr) Q E s := by
  obtain ⟨od, J, hl⟩ := I.look
  exact PySem.W.get_value X J (PySem.W.plainGet_of hg).1 (PySem.W.findObj_own hh ha rfl (by rw [hl, hv])) hv' h

theorem get_meth {pl : Sem Bool} {Q : Value × List Value → Shared → Prop} (X : K.In s.heap) (I : ObjM s.heap x dx C mA) (hg : PySem.W.plainGet K C name = true)
    (hf : PySem.W.findIn K (.ref C) name = some (some (.ref f))) (ht : PySem.W.isFn K (.ref f) = true) (hv : mA name = none) (h : Q (.ref f, [.ref x]) s) :
    wpAny (model prog w) A (getMethod (.ref x) name pl) Q E s := by
  obtain ⟨od, J, hl⟩ := I.look
  exact PySem.W.method_fn X J (PySem.W.plainGet_of hg).1 (PySem.W.plainGet_of hg).2 hf (beq_iff_eq.mp ht) (by show (PySem.W.lookIn name od).map (·.isSome) = some false; rw [hl, hv]; rfl) h

theorem set_map {ns : List Str} {Q : Unit → Shared → Prop} (X : K.In s.heap) (I : ObjM s.heap x dx C mA)
    (hs : PySem.W.findIn K (.ref C) "__setattr__" = some (some (.builtin "object.__setattr__"))) (hp : PySem.W.plainOver K C = true) (ht : PySem.W.takerIn K C name = some none) (hh : PySem.W.hasDictIn K C = true)
    (hw : PySem.Within mA ns) (hsz : ns.length ≤ sizeLine)
    (h : ∀ h', ObjM h' x dx C (fun y => if y = name then some v else mA y) → Heap.SameBut dx s.heap h' → Q () { s with heap := h', toks := s.toks + 2 }) :
    wpAny (model prog w) A (setAttr (.ref x) name v) Q E s := by
  obtain ⟨od, J, hl⟩ := I.look
  refine PySem.W.set_plain X J hs (PySem.W.osa_open (s := { s with toks := s.toks + 1 }) (r := none) X J hp ht fun b => ?_)
  obtain ⟨cd, hc, hd'⟩ := PySem.W.any_some hh
  have hx : s.heap.get? x = some ⟨.ref C, some dx, .plain, #[]⟩ := I.obj
  refine wpAny_bind (wpAny_pure (wpAny_bind (wpAny_bind (wpAny_loadPart hx (wpAny_bind (PySem.W.Looks.here (s := { s with toks := s.toks + 1 }) (PySem.W.looks_clsIn X hc) ?_))))))
  rw [hd']
  refine wpAny_pure (a := some dx) (wpAny_bind (wpAny_pure (wpAny_bind ?_)))
  refine wpAny_nsSet1 (s := { s with toks := s.toks + 1 }) I.ns fun h' hn2 hs2 => ?_
  obtain ⟨oD, esD, epD, hoD, hdD, hcD⟩ := hn2.count (PySem.Within.cons name v hw)
  refine wpAny_bind (wpAny_lookBehind hoD (by rw [hdD]; exact pastItsLine_dict (Nat.le_trans hcD (by rw [List.length_cons]; omega))) ?_)
  exact wpAny_pure (h _ ⟨(hs2.2 _ (Ne.symm I.ne)).trans I.obj, hn2, I.ne⟩ hs2)

/-- C(..): the dict at the heap's end, the instance behind it; then its __init__ -/
theorem make_map {R : Result → Shared → Prop} {vs : List Value} {kw : List (Str × Value)} (X : K.In s.heap) (hm : PySem.W.makesIn K C = true)
    (hi : PySem.W.findIn K (.ref C) "__init__" = some (some (.ref f))) (hf : PySem.W.typeIn K (.ref f) = some (.type "function"))
    (h : codeAny (model prog w) (A.under (.builtin "type.__call__" ⟨.ref C :: vs, kw⟩)) (.call (.ref f) ⟨.ref (s.heap.objs.size + 1) :: vs, kw⟩) (PySem.W.InitBack (s.heap.objs.size + 1) R)
      { s with heap := (s.heap.push PySem.W.emptyDict).push (PySem.W.instObj C s.heap.objs.size) }) :
    codeAny (model prog w) A (.call (.ref C) ⟨vs, kw⟩) R s := by
  obtain ⟨hh, g, d, t, os⟩ := s
  exact PySem.W.make_core (PySem.W.makes_of X hm) (PySem.W.looks_findIn X hi) (fun self => PySem.W.bind_fn X self hf) (.inl rfl) h
/-- C() where there is no __init__ but object's -/
theorem make_map0 {R : Result → Shared → Prop} (X : K.In s.heap) (hm : PySem.W.makesIn K C = true)
    (hi : PySem.W.findIn K (.ref C) "__init__" = some (some (.builtin "object.__init__")))
    (hb : ∀ self, PySem.W.Looks (model prog w) s.heap (bindSpecial (.builtin "object.__init__") self) (.builtin "object.__init__", [self]))
    (h : codeAny (model prog w) (A.under (.builtin "type.__call__" ⟨[.ref C], []⟩)) (.call (.builtin "object.__init__") ⟨[.ref (s.heap.objs.size + 1)], []⟩) (PySem.W.InitBack (s.heap.objs.size + 1) R)
      { s with heap := (s.heap.push PySem.W.emptyDict).push (PySem.W.instObj C s.heap.objs.size) }) :
    codeAny (model prog w) A (.call (.ref C) ⟨[], []⟩) R s := by
  obtain ⟨hh, g, d, t, os⟩ := s
  exact PySem.W.make_core (PySem.W.makes_of X hm) (PySem.W.looks_findIn X hi) hb (.inr ⟨rfl, rfl⟩) h
end

/-! ### the attributes as a list of pairs -/
def putF (f : Str) (v : V) : List (Str × V) → List (Str × V)
  | [] => [(f, v)]
  | (g, x) :: r => if g = f then (g, v) :: r else (g, x) :: putF f v r
theorem lookup_putF (f g : Str) (v : V) : ∀ fs : List (Str × V), (putF f v fs).lookup g = if g = f then some v else fs.lookup g
  | [] => by
    show List.lookup g [(f, v)] = _
    by_cases h : g = f
    · have hb : (g == f) = true := beq_iff_eq.mpr h
      simp only [List.lookup, hb, if_pos h]
    · have hb : (g == f) = false := beq_eq_false_iff_ne.mpr h
      simp only [List.lookup, hb, if_neg h]
  | (k, x) :: r => by
    have ih := lookup_putF f g v r
    rw [show putF f v ((k, x) :: r) = (if k = f then (k, v) :: r else (k, x) :: putF f v r) from rfl]
    by_cases hk : k = f
    · rw [if_pos hk]
      by_cases h : g = k
      · have hb : (g == k) = true := beq_iff_eq.mpr h
        simp only [List.lookup, hb, if_pos (h.trans hk)]
      · have hb : (g == k) = false := beq_eq_false_iff_ne.mpr h
        simp only [List.lookup, hb, if_neg (fun e : g = f => h (e.trans hk.symm))]
    · rw [if_neg hk]
      by_cases h : g = k
      · have hb : (g == k) = true := beq_iff_eq.mpr h
        simp only [List.lookup, hb, if_neg (fun e : g = f => hk (h.symm.trans e))]
      · have hb : (g == k) = false := beq_eq_false_iff_ne.mpr h
        simp only [List.lookup, hb]
        exact ih
theorem keys_putF (f : Str) (v : V) : ∀ fs : List (Str × V), f ∈ (putF f v fs).map (·.1) ∧ ∀ g, g ∈ fs.map (·.1) → g ∈ (putF f v fs).map (·.1)
  | [] => ⟨by simp [putF], fun g h => by simp at h⟩
  | (k, x) :: r => by
    obtain ⟨i1, i2⟩ := keys_putF f v r
    rw [show putF f v ((k, x) :: r) = (if k = f then (k, v) :: r else (k, x) :: putF f v r) from rfl]
    by_cases hk : k = f
    · rw [if_pos hk]
      subst hk
      exact ⟨by simp, fun g h => by simpa using h⟩
    · rw [if_neg hk]
      refine ⟨?_, fun g h => ?_⟩
      · rw [List.map_cons]
        exact List.mem_cons_of_mem _ i1
      · rw [List.map_cons] at h ⊢
        rcases List.mem_cons.mp h with e | e
        · exact List.mem_cons.mpr (.inl e)
        · exact List.mem_cons_of_mem _ (i2 g e)
theorem length_putF (f : Str) (v : V) : ∀ fs : List (Str × V), (putF f v fs).length ≤ fs.length + 1
  | [] => by simp [putF]
  | (k, x) :: r => by
    have ih := length_putF f v r
    rw [show putF f v ((k, x) :: r) = (if k = f then (k, v) :: r else (k, x) :: putF f v r) from rfl]
    by_cases hk : k = f
    · rw [if_pos hk, List.length_cons, List.length_cons]; omega
    · rw [if_neg hk, List.length_cons, List.length_cons]; omega

theorem RelO.some_of {v : V} {o : Option Value} (r : RelO (some v) o) : ∃ u, o = some u ∧ RelV v u := by
  cases o with
  | none => exact (show False from r).elim
  | some u => exact ⟨u, rfl, r⟩
theorem RelO.none_of {o : Option Value} (r : RelO none o) : o = none := by
  cases o with
  | none => rfl
  | some u => exact (show False from r).elim
theorem handed_of {v : V} {u : Value} (r : RelV v u) : PySem.W.handedIn u = true := by
  cases v with
  | non => cases (show u = Value.none from r); rfl
  | bl b => cases (show u = Value.bool b from r); rfl
  | int i => obtain ⟨t, e⟩ := (show ∃ t, u = Value.int i t from r); cases e; rfl
  | str x => obtain ⟨t, e⟩ := (show ∃ t, u = Value.str x t from r); cases e; rfl
  | byt b => obtain ⟨t, e⟩ := (show ∃ t, u = Value.bytes b t from r); cases e; rfl
  | flt b => obtain ⟨t, e⟩ := (show ∃ t, u = Value.float b t from r); cases e; rfl
  | ref a => cases (show u = Value.ref a from r); rfl
  | ty n => cases (show u = Value.type n from r); rfl

section
variable {P : Program} {w : World} {H H' : Hp} {h h' : Heap} {a C dx : Addr} {fs fs' : List (Str × V)}
theorem ins_get (hok : HOk P w H h) (e : H a = some (.ins C dx fs)) : ∃ mA, ObjM h a dx C mA ∧ (∀ f, RelO (fs.lookup f) (mA f)) ∧ PySem.Within mA (fs.map (·.1)) ∧ fs.length ≤ 1000 ∧ H dx = some (.own a) := by
  obtain ⟨d, z, ne, ob, mA, n, r, q⟩ := (show ObjOk P w H h a (.ins C dx fs) from hok a _ e)
  exact ⟨mA, ⟨ob, n, ne⟩, r, q, z, d⟩
end

/-! ### what of the text a class must have -/
structure Cls (K : PySem.W.Frag) (C : Addr) : Prop where
  pg : PySem.W.plainGet K C Str.empty = true
  hd : PySem.W.hasDictIn K C = true
  po : PySem.W.plainOver K C = true
  sa : PySem.W.findIn K (.ref C) "__setattr__" = some (some (.builtin "object.__setattr__"))
theorem Cls.get {K : PySem.W.Frag} {C : Addr} (c : Cls K C) (f : Str) : PySem.W.plainGet K C f = true := c.pg
/-- no class of it has the name -/
def NoAttr (K : PySem.W.Frag) (C : Addr) (f : Str) : Prop := PySem.W.findIn K (.ref C) f = some none
theorem NoAttr.taker {K : PySem.W.Frag} {C : Addr} {f : Str} (n : NoAttr K C f) : PySem.W.takerIn K C f = some none := by
  unfold PySem.W.takerIn
  rw [show PySem.W.findIn K (.ref C) f = some none from n]
  rfl
/-- a constant of the class -/
structure Con (K : PySem.W.Frag) (C : Addr) (f : Str) (v : V) (u : Value) : Prop where
  at_ : PySem.W.findIn K (.ref C) f = some (some u)
  rel : RelV v u
  get : PySem.W.specialIn K u "__get__" = some none
  cp : PySem.W.copiedNames.contains f = false
/-- a method: a plain def of the class or of one above it -/
structure Meth (K : PySem.W.Frag) (C : Addr) (m : Str) (f : Addr) : Prop where
  at_ : PySem.W.findIn K (.ref C) m = some (some (.ref f))
  fn : PySem.W.isFn K (.ref f) = true
  kp : PySem.W.keepIn K (.ref f) = true

section
variable {X : Cx} {pins : List (Addr × Obj)} {σ : St} {H : Hp} {s : Shared} {a C dx : Addr} {fs : List (Str × V)} {f : Str} {v : V} {A : Around} {E : Value → Shared → Prop}

theorem getattr_ok {b : Bool} {Q : Value → Shared → Prop} (I : Inv X pins σ H s) (e : H a = some (.ins C dx fs)) (c : Cls X.K C) (n : NoAttr X.K C f) (l : fs.lookup f = some v)
    (h : ∀ u s', Inv X pins σ H s' → RelV v u → Q u s') : wpAny (model X.prog X.w) A (getAttr (.ref a) f b) Q E s := by
  obtain ⟨mA, O, r, _, _, _⟩ := ins_get I.hok e
  obtain ⟨u, hu, ru⟩ := RelO.some_of (v := v) (o := mA f) (by rw [← l]; exact r f)
  exact get_map I.kIn O (c.get f) c.hd n hu (handed_of ru) (h u _ (I.tok _) ru)

theorem getmeth_ok {m : Str} {g : Addr} {pl : Sem Bool} {Q : Value × List Value → Shared → Prop} (I : Inv X pins σ H s) (e : H a = some (.ins C dx fs)) (c : Cls X.K C) (k : Meth X.K C m g) (l : fs.lookup m = none)
    (h : Q (.ref g, [.ref a]) s) : wpAny (model X.prog X.w) A (getMethod (.ref a) m pl) Q E s := by
  obtain ⟨mA, O, r, _, _, _⟩ := ins_get I.hok e
  have hn : mA m = none := RelO.none_of (by rw [← l]; exact r m)
  exact get_meth I.kIn O (c.get m) k.at_ k.fn hn h

theorem setattr_ok {y : V} {u : Value} {Q : Unit → Shared → Prop} (I : Inv X pins σ H s) (e : H a = some (.ins C dx fs)) (c : Cls X.K C) (n : NoAttr X.K C f) (hl : fs.length < 1000) (ry : RelV y u)
    (h : ∀ s', Inv X pins σ (upd H a (.ins C dx (putF f y fs))) s' → Q () s') : wpAny (model X.prog X.w) A (setAttr (.ref a) f u) Q E s := by
  obtain ⟨mA, O, r, wi, _, ho⟩ := ins_get I.hok e
  have hz : (fs.map (·.1)).length ≤ sizeLine := by rw [List.length_map, sizeLine_eq]; omega
  refine set_map I.kIn O c.sa c.po n.taker c.hd wi hz fun h' O' sb => h _ ?_
  have hd : ∃ o, h'.get? dx = some o := let ⟨o, _, _, e', _⟩ := O'.ns; ⟨o, e'⟩
  refine I.write (x := a) (e := dx) (by rw [e]; exact True.intro) (.inr ho) (fun b q hb z => (sb.2 b hb).trans z) hd ?_
  refine ⟨by rw [upd_ne O.ne]; exact ho, ?_, O.ne, O'.obj, _, O'.ns, fun g => ?_, fun g hg => ?_⟩
  · have := length_putF f y fs; omega
  · show RelO ((putF f y fs).lookup g) (if g = f then some u else mA g)
    rw [lookup_putF]
    by_cases q : g = f
    · rw [if_pos q, if_pos q]; exact ry
    · rw [if_neg q, if_neg q]; exact r g
  · by_cases q : g = f
    · rw [q]; exact (keys_putF f y fs).1
    · refine (keys_putF f y fs).2 g (wi g fun z => hg ?_)
      show (if g = f then some u else mA g) = none
      rw [if_neg q]; exact z

/-- a new instance, tracked, without attributes -/
theorem Inv.made (I : Inv X pins σ H s) : Inv X pins σ (upd (upd H s.heap.objs.size (.own (s.heap.objs.size + 1))) (s.heap.objs.size + 1) (.ins C s.heap.objs.size []))
    { s with heap := (s.heap.push PySem.W.emptyDict).push (PySem.W.instObj C s.heap.objs.size) } := by
  have e1 : (s.heap.push PySem.W.emptyDict).get? s.heap.objs.size = some PySem.W.emptyDict := Heap.get?_push_size s.heap rfl
  have e2 : ((s.heap.push PySem.W.emptyDict).push (PySem.W.instObj C s.heap.objs.size)).get? (s.heap.objs.size + 1) = some (PySem.W.instObj C s.heap.objs.size) := by
    have := Heap.get?_push_size (s.heap.push PySem.W.emptyDict) (o := PySem.W.instObj C s.heap.objs.size) rfl
    rwa [Heap.size_push] at this
  have e3 : (s.heap.push PySem.W.emptyDict).Ns s.heap.objs.size (fun _ => none) := ⟨PySem.W.emptyDict, #[], _, e1, rfl, (fun e he => absurd he (by simp)), fun _ => rfl⟩
  have I1 := I.laid (a := s.heap.objs.size) (o := .own (s.heap.objs.size + 1)) (h' := s.heap.push PySem.W.emptyDict) (t' := s.toks) (fun b u q => Heap.get?_push_of_some _ q) (Nat.le_refl _) ⟨_, e1⟩
  refine I1.laid (a := s.heap.objs.size + 1) (o := .ins C s.heap.objs.size []) (t' := s.toks) (fun b u q => Heap.get?_push_of_some _ q) (Nat.le_of_eq (Heap.size_push _ _)) ?_
  have ne : s.heap.objs.size ≠ s.heap.objs.size + 1 := Nat.ne_of_lt (Nat.lt_succ_self _)
  refine ⟨by rw [upd_ne ne, upd_same], Nat.zero_le _, ne, e2, fun _ => none, (Heap.Ns1.of_empty e3).at fun o q => Heap.get?_push_of_some _ q, fun _ => True.intro, fun y hy => absurd rfl hy⟩

/-- e.f where nothing but the object is asked: through attributeBase (super) and the last hold -/
theorem attr_of {prog : Program} {w : World} {env : Env} {e : Expr} {f : Str} {pos : Pos} {s : Shared} {Q : Value → Shared → Prop} (hb : attributeBase e f env (eval e env) = eval e env)
    (h : wpAny (model prog w) A (eval e env) (fun o s₁ => wpAny (model prog w) A (getAttr o f true) Q E s₁) E s) : wpAny (model prog w) A (eval (.Attribute e f pos) env) Q E s :=
  Attribute_any_ h (by rw [arm_eval_Attribute, hb])
end

/-! ### readings and rules -/
/-- e.f, an attribute of the instance -/
def tFld (K : PySem.W.Frag) (ta : TE) (f : Str) : TE := fun σ H Q => ta σ H fun x H1 => ∃ a C dx fs v, x = .ref a ∧ H1 a = some (.ins C dx fs) ∧ Cls K C ∧ NoAttr K C f ∧ fs.lookup f = some v ∧ Q v H1
/-- e.f = value -/
def sFld (K : PySem.W.Frag) (ta tv : TE) (f : Str) : TS := fun D σ H => tv σ H fun y H1 => ta σ H1 fun x H2 => ∃ a C dx fs, x = .ref a ∧ H2 a = some (.ins C dx fs) ∧ Cls K C ∧ NoAttr K C f ∧ fs.length < 1000 ∧
  D.nx σ (upd H2 a (.ins C dx (putF f y fs)))
section
variable {X : Cx} {o e value : Expr} {f : Str} {pos pos' tpos : Pos} {ta tv : TE}
theorem pe_fld (he : PE X e ta) (hb : attributeBase e f X.env (eval e X.env) = eval e X.env) : PE X (.Attribute e f pos) (tFld X.K ta f) := by
  intro pins s σ H Q I h
  refine attr_of hb (thn (he pins s σ H _ I h) fun u s1 ⟨x, H1, I1, rx, a, C, dx, fs, v, ex, ea, c, n, l, q⟩ => ?_)
  subst ex
  obtain rfl : u = Value.ref a := rx
  exact getattr_ok I1 ea c n l fun u' s2 I2 ru => ⟨v, H1, I2, ru, q⟩
theorem ps_fld (ha : PE X o ta) (hv : PE X value tv) (hs : swapsWith value (some (.Attribute o f pos')) pos.line X.env = pure false) : PS X (.Assign [.Attribute o f pos'] value pos) (sFld X.K ta tv f) := by
  intro pins s σ H D I h
  refine plainObj_wpAny_Assign_Attribute (thn (hv pins s σ H _ I h) fun u s1 ⟨y, H1, I1, ry, q⟩ => thn (ha pins s1 σ H1 _ I1 q) fun ov s2 ⟨x, H2, I2, rx, a, C, dx, fs, ex, ea, c, n, l, q2⟩ => ?_) hs
  subst ex
  obtain rfl : ov = Value.ref a := rx
  exact setattr_ok I2 ea c n l ry fun s3 I3 => ⟨σ, _, I3, q2⟩
end

/-! ### isinstance -/
section
variable {X : Cx} {pins : List (Addr × Obj)} {σ : St} {H : Hp} {s : Shared} {A : Around} {E : Value → Shared → Prop} {Q : Value → Shared → Prop} {c : Value} {b : Bool}
/-- the type of a value, as the fragment's deciders take it; for an instance its class -/
inductive TyOf (K : PySem.W.Frag) (H : Hp) : V → Value → Prop where
  | non : TyOf K H .non (.type "NoneType")
  | bl (x : Bool) : TyOf K H (.bl x) (.type "bool")
  | int (i : Int) : TyOf K H (.int i) (.type "int")
  | str (x : Str) : TyOf K H (.str x) (.type "str")
  | flt (x : UInt64) : TyOf K H (.flt x) (.type "float")
  | lst {a : Addr} {xs : List V} (e : H a = some (.lst xs)) : TyOf K H (.ref a) (.type "list")
  | frz {a : Addr} {o : Obj} {xs : List V} (e : H a = some (.frz o (.lst xs))) : TyOf K H (.ref a) (.type "list")
  | tup {a : Addr} {xs : List V} (e : H a = some (.tup xs)) : TyOf K H (.ref a) (.type "tuple")
  | dK {a : Addr} {kvs : List (Key × V)} (e : H a = some (.dK kvs)) : TyOf K H (.ref a) (.type "dict")
  | dT {a : Addr} {kvs : List (List Key × V)} (e : H a = some (.dT kvs)) : TyOf K H (.ref a) (.type "dict")
  | ins {a C dx : Addr} {fs : List (Str × V)} (e : H a = some (.ins C dx fs)) (cl : Cls K C) (ha : PySem.W.findIn K (.ref C) "__class__" = some (some (.builtin "object.__class__")))
      (hn : PySem.W.specialIn K (.builtin "object.__class__") "__get__" = some (some (.builtin "getset_descriptor.__get__"))) (htk : PySem.W.takesIn K (.builtin "object.__class__") = some true)
      (hm : PySem.W.mroIn K C (.type "object") = some true) : TyOf K H (.ref a) (.ref C)
/-- isinstance(x, c) for one class c, a built-in or an own one: kitOne's answer -/
theorem isinst_ok {x : V} {u t : Value} (I : Inv X pins σ H s) (rx : RelV x u) (ty : TyOf X.K H x t) (e : PySem.W.kitOne X.K t c = some b) (h : ∀ tk, Q (.bool b) { s with toks := tk }) :
    wpAny (model X.prog X.w) A (call (.builtin "isinstance") [u, c]) Q E s := by
  cases ty with
  | non => cases (show u = Value.none from rx); exact PySem.W.kia_one PySem.W.kitx_none I.kIn True.intro e (fun z => nomatch z) h
  | bl y => cases (show u = Value.bool y from rx); exact PySem.W.kia_one PySem.W.kitx_bool I.kIn True.intro e (fun z => nomatch z) h
  | int i => obtain ⟨t, q⟩ := (show ∃ t, u = Value.int i t from rx); cases q; exact PySem.W.kia_one PySem.W.kitx_int I.kIn True.intro e (fun z => nomatch z) h
  | str y => obtain ⟨t, q⟩ := (show ∃ t, u = Value.str y t from rx); cases q; exact PySem.W.kia_one PySem.W.kitx_str I.kIn True.intro e (fun z => nomatch z) h
  | flt y => obtain ⟨t, q⟩ := (show ∃ t, u = Value.float y t from rx); cases q; exact PySem.W.kia_one PySem.W.kitx_float I.kIn True.intro e (fun z => nomatch z) h
  | @lst a xs ea =>
    cases (show u = Value.ref a from rx)
    obtain ⟨_, _, n, _, h1⟩ := (show ObjOk X.prog X.w H s.heap a (.lst xs) from I.hok a _ ea)
    exact PySem.W.kia_one PySem.W.kitx_list I.kIn ⟨_, h1, rfl⟩ e (fun z => nomatch z) h
  | @frz a ob xs ea =>
    cases (show u = Value.ref a from rx)
    obtain ⟨_, _, _, n, _, h1⟩ := (show ObjOk X.prog X.w H s.heap a (.frz ob (.lst xs)) from I.hok a _ ea)
    exact PySem.W.kia_one PySem.W.kitx_list I.kIn ⟨_, h1, rfl⟩ e (fun z => nomatch z) h
  | @tup a xs ea =>
    cases (show u = Value.ref a from rx)
    obtain ⟨_, _, _, p⟩ := (show ObjOk X.prog X.w H s.heap a (.tup xs) from I.hok a _ ea)
    obtain ⟨o, h1, h2, _⟩ := p
    exact PySem.W.kia_one PySem.W.kitx_tuple I.kIn ⟨o, h1, h2⟩ e (fun z => nomatch z) h
  | @dK a kvs ea =>
    cases (show u = Value.ref a from rx)
    obtain ⟨_, _, vs, _, p⟩ := (show ObjOk X.prog X.w H s.heap a (.dK kvs) from I.hok a _ ea)
    obtain ⟨o, es, ep, h1, h2, _⟩ := p
    exact PySem.W.kia_one PySem.W.kitx_dict I.kIn ⟨o, h1, h2.1⟩ e (fun z => nomatch z) h
  | @dT a kvs ea => exact (show False from I.hok a _ ea).elim
  | @ins a C dx fs ea cl ha hn htk hm =>
    cases (show u = Value.ref a from rx)
    obtain ⟨mA, O, _⟩ := ins_get I.hok ea
    obtain ⟨od, J, _⟩ := O.look
    exact PySem.W.kia_one (PySem.W.kitx_own (cl.get _) cl.hd ha hn htk hm) I.kIn J e (fun z => nomatch z) h
end
end L2

namespace L2
open PySem PySem.Spec PyProof.Rows

/-! ### room -/
structure Room (k : Nat) (A : Around) : Prop where
  hd : A.handled = none
  dp : A.depth + 3 * k + 5 < recursionLimit
  un : A.units + 16 * k + 200 < cLine
theorem Room.mono {j k : Nat} {A : Around} (r : Room k A) (h : j ≤ k) : Room j A := ⟨r.hd, by have := r.dp; omega, by have := r.un; omega⟩
theorem Room.deeper {k : Nat} {A : Around} (r : Room (k + 1) A) (env : Env) : Room k (A.deeper env) :=
  ⟨r.hd, by have := r.dp; show A.depth + 1 + 3 * k + 5 < _; omega, by have := r.un; show A.units + 3 + 16 * k + 200 < _; omega⟩
theorem Room.in1 {k : Nat} {A : Around} (r : Room (k + 1) A) : Room k A.in1 :=
  ⟨r.hd, by have := r.dp; show A.depth + 3 * k + 5 < _; omega, by have := r.un; show A.units + 1 + 16 * k + 200 < _; omega⟩
theorem make_depth {A : Around} {C : Addr} {us : List Value} {kw : List (Str × Value)} : (A.under (.builtin "type.__call__" ⟨.ref C :: us, kw⟩)).depth = A.depth + 1 := by
  first | rfl | simp [Around.under, Code.weight, Code.isCreation, Code.isGuard, Code.isCaller, Code.frames, Code.isFrame, guardIds]
theorem make_units {A : Around} {C : Addr} {us : List Value} {kw : List (Str × Value)} : (A.under (.builtin "type.__call__" ⟨.ref C :: us, kw⟩)).units = A.units + 1 := by
  first | rfl | simp [Around.under, Code.cUnits, Code.frames, Code.isFrame]
theorem Room.make {k : Nat} {A : Around} (r : Room (k + 1) A) (C : Addr) (us : List Value) (kw : List (Str × Value)) : Room k (A.under (.builtin "type.__call__" ⟨.ref C :: us, kw⟩)) :=
  ⟨r.hd, by have := r.dp; rw [make_depth]; omega, by have := r.un; rw [make_units]; omega⟩
theorem Room.depth {k : Nat} {A : Around} (r : Room k A) : A.depth < recursionLimit := by have := r.dp; omega
theorem Room.units {k : Nat} {A : Around} (r : Room k A) : A.units + 64 < cLine := by have := r.un; omega
/-! ### argument lists and displays -/
def tNil : TA := fun _ H Q => Q [] H
def tCons (ta : TE) (tr : TA) : TA := fun σ H Q => ta σ H fun x H1 => tr σ H1 fun xs H2 => Q (x :: xs) H2
section
variable {X : Cx} {e : Expr} {es : List Expr} {te : TE} {t : TA} {pos : Pos}
theorem pa_nil : PA X [] tNil := fun _ _ _ _ H Q I h => Calls.spliced_nil ⟨[], H, I, .nil, h⟩
theorem pa_cons (ha : PE X e te) (hr : PA X es t) (hs : starEach (e :: es) X.env = (false, eval e X.env) :: starEach es X.env := by rfl) : PA X (e :: es) (tCons te t) := by
  intro pos pins s σ H Q I h
  rw [hs]
  show wpAny _ _ (spliced ((false, eval e X.env) :: backTo pos (starEach es X.env))) _ _ s
  refine Calls.spliced_cons (thn (ha pins s σ H _ I h) fun u s1 ⟨x, H1, I1, r1, q1⟩ => ?_)
  exact thn (hr pos pins s1 σ H1 _ I1 q1) fun us s2 ⟨xs, H2, I2, r2, q2⟩ => ⟨x :: xs, H2, I2, .cons r1 r2, q2⟩

/-- a tuple, a list of written items -/
def tTup (t : TA) : TE := fun σ H Q => t σ H fun xs H1 => xs.length ≤ sizeLine ∧ ∀ p, H1 p = none → Q (.ref p) (upd H1 p (.tup xs))
def tLst (t : TA) : TE := fun σ H Q => t σ H fun xs H1 => xs.length ≤ sizeLine ∧ ∀ p, H1 p = none → Q (.ref p) (upd H1 p (.lst xs))
theorem pe_tup {x1} (h : PA X es t) : PE X (.Tuple es x1 pos) (tTup t) := by
  intro pins s σ H Q I hq
  refine wpAny_Tuple_spliced (thn (h pos pins s σ H _ I hq) fun us s1 ⟨xs, H1, I1, r, z, q⟩ => ⟨by rw [← r.length]; exact z, ?_⟩)
  have hf : H1 s1.heap.objs.size = none := I1.hok.fresh (Nat.le_refl _)
  refine ⟨.ref s1.heap.objs.size, upd H1 s1.heap.objs.size (.tup xs), I1.laid (t' := s1.toks) (fun b u e => Heap.get?_push_of_some _ e) (Nat.le_refl _) ?_, rfl, q _ hf⟩
  exact ⟨z, us, r, ⟨_, Heap.get?_push_size _ rfl, rfl, _, rfl⟩⟩
theorem pe_lst (h : PA X es t) : PE X (.List es pos) (tLst t) := by
  intro pins s σ H Q I hq
  refine wpAny_List_spliced (thn (h pos pins s σ H _ I hq) fun us s1 ⟨xs, H1, I1, r, z, q⟩ => ⟨by rw [← r.length]; exact z, ?_⟩)
  have hf : H1 s1.heap.objs.size = none := I1.hok.fresh (Nat.le_refl _)
  refine ⟨.ref s1.heap.objs.size, upd H1 s1.heap.objs.size (.lst xs), I1.laid (t' := s1.toks) (fun b u e => Heap.get?_push_of_some _ e) (Nat.le_refl _) ?_, rfl, q _ hf⟩
  exact ⟨z, us, 0, r, Heap.get?_push_size _ rfl⟩
end

/-! ### what a def promises -/
/-- a def's promise: the bound arguments in the parameters' order, the heap, the wanted end, the wanted exception -/
abbrev Sp := List V → Hp → VK → XK → Prop
/-- how an exception lies behind a call (file 08 gives it): the callers' frames, abstract heap and state ahead of the call, the wish, the exception, the state -/
abbrev CXT := List Env → Hp → Shared → XK → Value → Shared → Prop

/-- the state at a call -/
structure Env0 (P : Program) (w : World) (K : PySem.W.Frag) (mg : Str → Option Value) (base : Heap) (A : Around) (outer : List Env) (s : Shared) (H : Hp) : Prop where
  frames : A.frames = some outer
  mod : Mod K mg base
  bs : ∀ b o, base.get? b = some o → s.heap.get? b = some o ∧ H b = none
  bsz : base.objs.size ≤ s.heap.objs.size
  funs : s.heap.FunFrames base outer
  frf : ∀ b ∈ frs outer, H b = none
  hok : HOk P w H s.heap
  bare : AllBare s.gens
/-- a call's end -/
def CE (outer : List Env) (P : Program) (w : World) (H : Hp) (s : Shared) (Q : VK) (u : Value) (s' : Shared) : Prop :=
  ∃ v H', s'.os = s.os ∧ AllBare s'.gens ∧ Un (frs outer) [] H H' s.heap s'.heap ∧ HOk P w H' s'.heap ∧ RelV v u ∧ Q v H'
def CR (CX : CXT) (outer : List Env) (P : Program) (w : World) (H : Hp) (s : Shared) (Q : VK) (E : XK) (r : Result) (s' : Shared) : Prop :=
  match r with
  | .ok (.ret u) => CE outer P w H s Q u s'
  | .ok _ => False
  | .error e => CX outer H s E e s'
structure FnOk (P : Program) (w : World) (K : PySem.W.Frag) (mg : Str → Option Value) (base : Heap) (CX : CXT) (k : Nat) (f : Addr) (fd : FuncData) (ps : List Str) (sp : Sp) : Prop where
  len : ∀ vs H Q E, sp vs H Q E → vs.length = ps.length
  run : ∀ (A : Around) (outer : List Env) (s : Shared) (H : Hp) (args : Args) (us : List Value) (vs : List V) (Q : VK) (E : XK), Room k A → Env0 P w K mg base A outer s H → BindsTo s fd args (ps.zip us) → Vals vs us → sp vs H Q E →
    codeAny (model P w) A (.call (.ref f) args) (CR CX outer P w H s Q E) s
theorem FnOk.mono {P : Program} {w : World} {K : PySem.W.Frag} {mg : Str → Option Value} {base : Heap} {CX : CXT} {j k : Nat} {f : Addr} {fd : FuncData} {ps : List Str} {sp : Sp} (F : FnOk P w K mg base CX j f fd ps sp) (h : j ≤ k) :
    FnOk P w K mg base CX k f fd ps sp := ⟨F.len, fun A outer s H args us vs Q E hr => F.run A outer s H args us vs Q E (hr.mono h)⟩
/-- a weaker promise -/
theorem FnOk.imp {P : Program} {w : World} {K : PySem.W.Frag} {mg : Str → Option Value} {base : Heap} {CX : CXT} {k : Nat} {f : Addr} {fd : FuncData} {ps : List Str} {sp sp' : Sp} (F : FnOk P w K mg base CX k f fd ps sp)
    (h : ∀ vs H Q E, sp' vs H Q E → sp vs H Q E) : FnOk P w K mg base CX k f fd ps sp' :=
  ⟨fun vs H Q E q => F.len vs H Q E (h _ _ _ _ q), fun A outer s H args us vs Q E hr he hb hv hs => F.run A outer s H args us vs Q E hr he hb hv (h _ _ _ _ hs)⟩

theorem Env0.make {P : Program} {w : World} {K : PySem.W.Frag} {mg : Str → Option Value} {base : Heap} {A : Around} {outer : List Env} {s : Shared} {H : Hp} (e : Env0 P w K mg base A outer s H) (C : Addr) (us : List Value) (kw : List (Str × Value)) :
    Env0 P w K mg base (A.under (.builtin "type.__call__" ⟨.ref C :: us, kw⟩)) outer s H := ⟨by first | exact e.frames | (simpa [Around.under, Code.envs, Code.isFrame, pushEnvs] using e.frames), e.mod, e.bs, e.bsz, e.funs, e.frf, e.hok, e.bare⟩
theorem Env0.in1 {P : Program} {w : World} {K : PySem.W.Frag} {mg : Str → Option Value} {base : Heap} {A : Around} {outer : List Env} {s : Shared} {H : Hp} (e : Env0 P w K mg base A outer s H) :
    Env0 P w K mg base A.in1 outer s H := ⟨e.frames, e.mod, e.bs, e.bsz, e.funs, e.frf, e.hok, e.bare⟩

section
variable {X : Cx} {pins : List (Addr × Obj)} {σ : St} {H : Hp} {s s' : Shared}
/-- from a body: what a callee wants -/
theorem Inv.env0 (I : Inv X pins σ H s) : Env0 X.prog X.w X.K X.mg X.base X.A X.stack s H :=
  ⟨I.ok.frames, I.ok.mod, I.bs, Nat.le_trans I.ok.bsz I.sz, I.stack, I.stkFree, I.hok, I.bare⟩
/-- behind a call -/
theorem Inv.after {Q : VK} {u : Value} (I : Inv X pins σ H s) (h : CE X.stack X.prog X.w H s Q u s') : EP X pins σ Q u s' := by
  obtain ⟨v, H', os, bare, un, hok, r, q⟩ := h
  obtain ⟨hh, g, d, t, os'⟩ := s'
  obtain rfl : os' = s.os := os
  exact ⟨v, H', I.call (h' := hh) (g' := g) (d' := d) (t' := t) (ch := []) un hok bare (fun b z => absurd z (by simp)), r, q⟩
end

/-! ### calls -/
/-- f(..): the written arguments, then the defaults dvs; E: what is wanted of an exception -/
def tCall (sp : Sp) (dvs : List V) (E : XK) (t : TA) : TE := fun σ H Q => t σ H fun vs H1 => sp (vs ++ dvs) H1 Q E
/-- o.m(..) of an instance of the class at C -/
def tMeth (C : Addr) (m : Str) (sp : Sp) (dvs : List V) (E : XK) (ta : TE) (t : TA) : TE := fun σ H Q => ta σ H fun x H1 => ∃ a dx fs, x = .ref a ∧ H1 a = some (.ins C dx fs) ∧ fs.lookup m = none ∧
  t σ H1 fun vs H2 => sp (x :: (vs ++ dvs)) H2 Q E
/-- how the parameters are bound: us the positional arguments, kw the keywords' values by name, ds the defaults that fill up -/
def Binds (K : PySem.W.Frag) (fd : FuncData) (ps : List Str) (ds : List Value) : Prop :=
  ∀ (s : Shared) (us : List Value), K.In s.heap → (us ++ ds).length = ps.length → BindsTo s fd ⟨us, []⟩ (ps.zip (us ++ ds))
/-- every parameter is given -/
theorem Binds.all {K : PySem.W.Frag} {fd : FuncData} {ps : List Str} (h : ∀ us : List Value, us.length = ps.length → bindArgs fd ⟨us, []⟩ = pure (ps.zip us)) : Binds K fd ps [] := fun s us _ hl => by
  rw [List.append_nil] at hl ⊢
  exact .of_eq (h us hl)

/-- an exception of a callee reaches what this body wants of exceptions -/
def Passes (CX : CXT) (X : Cx) (E : XK) : Prop := ∀ (pins : List (Addr × Obj)) (σ : St) (H : Hp) (s : Shared) (e : Value) (s' : Shared), Inv X pins σ H s → CX X.stack H s E e s' → X.xe e s'

section
variable {X : Cx} {CX : CXT} {k : Nat} {f C : Addr} {fd : FuncData} {ps : List Str} {sp : Sp} {dvs : List V} {ds : List Value} {E : XK} {x m : Str} {p pos apos : Pos} {e o : Expr} {es : List Expr} {ta : TE} {t : TA}

/-- the callee runs -/
theorem run_fn {pins : List (Addr × Obj)} {σ : St} {H : Hp} {s : Shared} {Q : VK} {us : List Value} {vs : List V} (F : FnOk X.prog X.w X.K X.mg X.base CX k f fd ps sp) (hr : Room k X.A) (hb : Binds X.K fd ps ds) (hd : Vals dvs ds) (hx : Passes CX X E)
    (I : Inv X pins σ H s) (r : Vals vs us) (h : sp (vs ++ dvs) H Q E) : wpAny (model X.prog X.w) X.A (call (.ref f) us) (EP X pins σ Q) X.xe s := by
  have r2 : Vals (vs ++ dvs) (us ++ ds) := r.append hd
  have hl : (us ++ ds).length = ps.length := by rw [← r2.length]; exact F.len _ _ _ _ h
  refine wpAny_call (codeAny_mono (F.run X.A X.stack s H ⟨us, []⟩ (us ++ ds) (vs ++ dvs) Q E hr I.env0 (hb s us I.kIn hl) r2 h) fun r s' hq => ?_)
  cases r with
  | error e => exact hx pins σ H s e s' I hq
  | ok fl =>
    cases fl with
    | ret u => exact I.after hq
    | next => exact False.elim hq
    | brk => exact False.elim hq
    | cont => exact False.elim hq

theorem pe_call (F : FnOk X.prog X.w X.K X.mg X.base CX k f fd ps sp) (hr : Room k X.A) (hg : Gl X x) (hm : X.mg x = some (.ref f)) (hk : PySem.W.keepIn X.K (.ref f) = true) (hb : Binds X.K fd ps ds) (hd : Vals dvs ds) (hx : Passes CX X E)
    (ha : PA X (e :: es) t) (hdb : (x == ("__debug__" : Str)) = false := by decide) (he : starEach (e :: es) X.env = (false, eval e X.env) :: starEach es X.env := by rfl) (hpl : (backTo pos (starEach es X.env)).any (·.1) = false := by rfl) :
    PE X (.Call (.Name x p) (e :: es) [] pos) (tCall sp dvs E t) := by
  intro pins s σ H Q I h
  refine wpAny_Call_Name_kw (ld_glob I hg hm ?_ hdb)
  refine PySem.W.callWith_K (h₀ := X.base) I.ok.mod.kin hk (thn (ha pos pins s σ H _ I h) fun us s1 ⟨vs, H1, I1, r, q⟩ => ⟨I1.kIn, ?_⟩) he hpl
  exact run_fn F hr hb hd hx I1 r q
/-- o.m(e, ..) -/
theorem pe_meth {pl : Sem Bool} (he : PE X o ta) (c : Cls X.K C) (hm : Meth X.K C m f) (F : FnOk X.prog X.w X.K X.mg X.base CX k f fd ps sp) (hr : Room k X.A) (hb : Binds X.K fd ps ds) (hd : Vals dvs ds) (hx : Passes CX X E) (ha : PA X (e :: es) t)
    (hst : starEach (e :: es) X.env = (false, eval e X.env) :: starEach es X.env := by rfl) (hpl : (backTo pos (starEach es X.env)).any (·.1) = false := by rfl)
    (ht : eval (.Call (.Attribute o m apos) (e :: es) [] pos) X.env = (do
      let ov ← eval o X.env
      standAt apos.atName
      let (f, first) ← holding [ov] (getMethod ov m pl)
      callWith pos f first (backTo pos (starEach (e :: es) X.env)) (backToKw pos (keywordEach [] X.env))) := by rfl) :
    PE X (.Call (.Attribute o m apos) (e :: es) [] pos) (tMeth C m sp dvs E ta t) := by
  intro pins s σ H Q I h
  refine PySem.W.methodCall_KW (pl := pl) (thn (he pins s σ H _ I h) fun u s1 ⟨x, H1, I1, rx, a, dx, fs, ex, ea, l, q⟩ => ?_) ht
  subst ex
  obtain rfl : u = Value.ref a := rx
  refine getmeth_ok I1 ea c hm l ?_
  refine PySem.W.callWith_K (first := [.ref a]) (h₀ := X.base) I.ok.mod.kin hm.kp (thn (ha pos pins s1 σ H1 _ I1 q) fun us s2 ⟨vs, H2, I2, r, q2⟩ => ⟨I2.kIn, ?_⟩) hst hpl
  exact run_fn (us := .ref a :: us) (vs := .ref a :: vs) F hr hb hd hx I2 (.cons rfl r) q2
/-- o.m() -/
theorem pe_meth0 {pl : Sem Bool} (he : PE X o ta) (c : Cls X.K C) (hm : Meth X.K C m f) (F : FnOk X.prog X.w X.K X.mg X.base CX k f fd ps sp) (hr : Room k X.A) (hb : Binds X.K fd ps ds) (hd : Vals dvs ds) (hx : Passes CX X E)
    (ht : eval (.Call (.Attribute o m apos) [] [] pos) X.env = (do
      let ov ← eval o X.env
      standAt apos.atName
      let (f, first) ← holding [ov] (getMethod ov m pl)
      callWith pos f first (backTo pos (starEach [] X.env)) (backToKw pos (keywordEach [] X.env))) := by rfl) :
    PE X (.Call (.Attribute o m apos) [] [] pos) (tMeth C m sp dvs E ta tNil) := by
  intro pins s σ H Q I h
  refine PySem.W.methodCall_KW (pl := pl) (thn (he pins s σ H _ I h) fun u s1 ⟨x, H1, I1, rx, a, dx, fs, ex, ea, l, q⟩ => ?_) ht
  subst ex
  obtain rfl : u = Value.ref a := rx
  refine getmeth_ok I1 ea c hm l ?_
  exact PySem.W.callWith_K0 (first := [.ref a]) I1.kIn hm.kp (run_fn (us := [.ref a]) (vs := [.ref a]) F hr hb hd hx I1 (.cons rfl .nil) q)

/-- what a class must have to be made -/
structure Mk (K : PySem.W.Frag) (C f : Addr) : Prop where
  makes : PySem.W.makesIn K C = true
  init : PySem.W.findIn K (.ref C) "__init__" = some (some (.ref f))
  fn : PySem.W.isFn K (.ref f) = true
  kp : PySem.W.keepIn K (.ref C) = true

end

/-! ### keywords -/
section
variable {X : Cx} {CX : CXT} {k : Nat} {f C : Addr} {fd : FuncData} {ps ks : List Str} {sp : Sp} {E : XK} {x m : Str} {p pos apos kpos : Pos} {e o : Expr} {es : List Expr} {kws : List Keyword} {te ta : TE} {t tk : TA} {nm : Option Str}
/-- how a call with keywords binds: g puts the positional values us and the keywords' values ws (names ks) in the parameters' order, defaults among them -/
structure KBinds (K : PySem.W.Frag) (fd : FuncData) (ps ks : List Str) (g : List Value → List Value → List Value) (gV : List V → List V → List V) : Prop where
  to : ∀ (s : Shared) (us ws : List Value), K.In s.heap → (g us ws).length = ps.length → BindsTo s fd ⟨us, ks.zip ws⟩ (ps.zip (g us ws))
  rel : ∀ {vs : List V} {us : List Value} {zs : List V} {ws : List Value}, Vals vs us → Vals zs ws → Vals (gV vs zs) (g us ws)
variable {g : List Value → List Value → List Value} {gV : List V → List V → List V}
end

/-! ### a def's body keeps its promise -/
/-- names: the parameters first -/
structure FnScope (N P : List Str) (sc : Scope) : Prop where
  kind : sc.kind = .function
  co : sc.isCoroutine = false
  gen : sc.isGenerator = false
  nd : N.Nodup
  pre : N.take P.length = P
  par : ∀ x ∈ P, sc.names.lookup x = some .local ∨ sc.names.lookup x = some .cell
  nofree : ∀ y ∈ sc.names, y.2 ≠ .free

theorem bindL_out {kindOf : Str → Option NameKind} {x : Str} : ∀ {binds : List (Str × Value)} {m : Str → Option Value}, (∀ v, (x, v) ∉ binds) → bindL kindOf binds m x = m x
  | [], _, _ => rfl
  | (n, v) :: r, m, h => by
    unfold bindL
    rw [bindL_out fun w hw => h w (List.mem_cons_of_mem _ hw)]
    split
    · have : x ≠ n := by rintro rfl; exact h v List.mem_cons_self
      simp [this]
    · rfl
theorem bindC_out {kindOf : Str → Option NameKind} {x : Str} : ∀ {binds : List (Str × Value)} {m : Str → Option Value}, (∀ v, (x, v) ∉ binds) → bindC kindOf binds m x = m x
  | [], _, _ => rfl
  | (n, v) :: r, m, h => by
    unfold bindC
    rw [bindC_out fun w hw => h w (List.mem_cons_of_mem _ hw)]
    split
    · rfl
    · have : x ≠ n := by rintro rfl; exact h v List.mem_cons_self
      simp [this]
theorem bindL_get {kindOf : Str → Option NameKind} {x : Str} {v : Value} : ∀ {P : List Str} {vs : List Value} {i : Nat} {m : Str → Option Value}, P.Nodup → P[i]? = some x → vs[i]? = some v → kindOf x = some .local →
    bindL kindOf (P.zip vs) m x = some v
  | [], _, _, _, _, h, _, _ => by simp at h
  | _ :: _, [], _, _, _, _, h, _ => by simp at h
  | p :: P, w :: vs, 0, m, nd, h1, h2, hk => by
    simp at h1 h2; subst h1; subst h2
    show bindL kindOf ((p, w) :: P.zip vs) m p = _
    unfold bindL
    rw [bindL_out fun v hv => (List.nodup_cons.mp nd).1 (List.of_mem_zip hv).1, if_pos hk]
    simp
  | p :: P, w :: vs, i + 1, m, nd, h1, h2, hk => by
    show bindL kindOf ((p, w) :: P.zip vs) m x = _
    unfold bindL
    exact bindL_get (i := i) (List.nodup_cons.mp nd).2 (by simpa using h1) (by simpa using h2) hk
theorem bindC_get {kindOf : Str → Option NameKind} {x : Str} {v : Value} : ∀ {P : List Str} {vs : List Value} {i : Nat} {m : Str → Option Value}, P.Nodup → P[i]? = some x → vs[i]? = some v → kindOf x ≠ some .local →
    bindC kindOf (P.zip vs) m x = some v
  | [], _, _, _, _, h, _, _ => by simp at h
  | _ :: _, [], _, _, _, _, h, _ => by simp at h
  | p :: P, w :: vs, 0, m, nd, h1, h2, hk => by
    simp at h1 h2; subst h1; subst h2
    show bindC kindOf ((p, w) :: P.zip vs) m p = _
    unfold bindC
    rw [bindC_out fun v hv => (List.nodup_cons.mp nd).1 (List.of_mem_zip hv).1, if_neg hk]
    simp
  | p :: P, w :: vs, i + 1, m, nd, h1, h2, hk => by
    show bindC kindOf ((p, w) :: P.zip vs) m x = _
    unfold bindC
    exact bindC_get (i := i) (List.nodup_cons.mp nd).2 (by simpa using h1) (by simpa using h2) hk

/-- the names' values at the entry -/
def start (N : List Str) (vs : List V) : St := vs.map some ++ List.replicate (N.length - vs.length) none

/-- the context of a def's body, at its entry; an exception leaves the frame, then lies as CX says -/
def cxOf (CX : CXT) (P : Program) (w : World) (K : PySem.W.Frag) (mg : Str → Option Value) (base : Heap) (N : List Str) (qual : Str) (scope : Scope) (f : Addr) (cd : Value) (A : Around) (outer : List Env) (s : Shared) (H : Hp) (E : XK) : Cx where
  prog := P
  w := w
  K := K
  mg := mg
  base := base
  A := A.deeper (envOfC qual scope s.heap.objs.size f cd)
  N := N
  s₀ := s
  H₀ := H
  env := envOfC qual scope s.heap.objs.size f cd
  outer := outer
  stack := envOfC qual scope s.heap.objs.size f cd :: outer
  ex := []
  calm := true
  fn := fun _ => true
  pn := []
  xe := fun e s' => wpAny (model P w) (A.deeper (envOfC qual scope s.heap.objs.size f cd)) (leaving (envOfC qual scope s.heap.objs.size f cd) e) (fun _ s'' => CX outer H s E e s'') (fun e' s'' => CX outer H s E e' s'') s'

theorem cell_has {sc : Scope} {n : Nat} {x : Str} (h : sc.names.lookup x = some .cell) : ∃ c, (cellsFrom n sc.names []).lookup x = some c := by
  have q := PySem.W.cellsFrom_some sc.names n [] (.inl h)
  exact Option.isSome_iff_exists.mp q

theorem inv_start {CX : CXT} {P : Program} {w : World} {K : PySem.W.Frag} {mg : Str → Option Value} {base : Heap} {N ps : List Str} {qual : Str} {scope : Scope} {f : Addr} {cd : Value} {A : Around} {outer : List Env} {s s1 : Shared} {H : Hp} {E : XK} {us : List Value} {vs : List V}
    (S : FnScope N ps scope) (hd : A.handled = none) (e0 : Env0 P w K mg base A outer s H) (hl : vs.length = ps.length) (r : Vals vs us)
    (x : InCallC s s.heap.objs.size (bindL (envOfC qual scope s.heap.objs.size f cd).kindOf (ps.zip us) fun _ => none) (cellsFrom (s.heap.objs.size + 1) scope.names []) (bindC (envOfC qual scope s.heap.objs.size f cd).kindOf (ps.zip us) fun _ => none) s1) :
    Inv (cxOf CX P w K mg base N qual scope f cd A outer s H E) [] (start N vs) H s1 := by
  have hpl : ps.length ≤ N.length := by have := congrArg List.length S.pre; rw [List.length_take] at this; omega
  obtain ⟨h1, tk, rfl, hk⟩ := x.done
  have noA : ∀ b : Addr, b ∉ (cxOf CX P w K mg base N qual scope f cd A outer s H E).ex := fun b z => absurd (show b ∈ ([] : List Addr) from z) (by simp)
  refine ⟨⟨e0.mod, S.kind, rfl, rfl, Nat.le_refl _, fun y z c h1 h2 => ?_, fun y hy => ?_, fun y c _ h => ?_, fun _ => hd, Around.frames_deeper e0.frames, .inr ⟨rfl, rfl⟩, fun b z => absurd z (noA b), e0.bs, e0.bsz, fun b _ _ => noA b, fun b z => absurd z (noA b), e0.funs, e0.frf⟩,
    rfl, e0.bare, Un.kept hk, ⟨_, x.toInCall.ns, fun i y v h1 h2 h3 => ?_⟩, fun y c h => ⟨_, x.cell y c h⟩, e0.hok.fresh (Nat.le_refl _), fun y c h => ?_, fun p hp => absurd (show p ∈ ([] : List (Addr × Obj)) from hp) (by simp), e0.hok.kept hk, ?_⟩
  · exact name_of_addr x.apart (PySem.mem_of_lookup h1) (PySem.mem_of_lookup h2)
  · have hy : scope.names.lookup y = some .cell ∨ scope.names.lookup y = some .free := hy
    rcases hy with hy | hy
    · exact cell_has hy
    · exact absurd rfl (S.nofree _ (PySem.mem_of_lookup hy))
  · exact Nat.le_of_lt (x.above y c (PySem.mem_of_lookup h))
  · have hi : i < vs.length := by
      unfold start at h2
      by_cases hi : i < vs.length
      · exact hi
      · rw [List.getElem?_append_right (by simpa using hi)] at h2
        rw [List.getElem?_replicate] at h2
        split at h2 <;> cases h2
    have ha : vs[i]? = some v := by
      unfold start at h2
      rw [List.getElem?_append_left (by simpa using hi), List.getElem?_map] at h2
      cases e : vs[i]? with
      | none => rw [e] at h2; cases h2
      | some a => rw [e] at h2; cases h2; rfl
    obtain ⟨u, hu, rv⟩ := r.get ha
    have hp : ps[i]? = some y := by
      rw [← S.pre, List.getElem?_take_of_lt (by omega)]; exact h1
    have ndP : ps.Nodup := by rw [← S.pre]; exact S.nd.sublist (List.take_sublist _ _)
    refine ⟨u, rv, ?_⟩
    rcases S.par y (List.mem_of_getElem? hp) with k | k
    · exact .inl ⟨k, bindL_get ndP hp hu k⟩
    · obtain ⟨c, e⟩ := cell_has (n := s.heap.objs.size + 1) k
      refine .inr ⟨.inl k, c, e, ?_⟩
      have q := x.cell y c e
      rw [bindC_get ndP hp hu (by show scope.names.lookup y ≠ _; rw [k]; decide)] at q
      exact q
  · exact e0.hok.fresh (Nat.le_of_lt (x.above y c (PySem.mem_of_lookup h)))
  · unfold start
    show _ = N.length
    rw [List.length_append, List.length_map, List.length_replicate]
    omega

/-- THE RULE: a def (or a method) of the text, by its body. The body's reading t is chosen for each entry; it is run at the parameters' values -/
theorem fn_of {CX : CXT} {P : Program} {w : World} {K : PySem.W.Frag} {mg : Str → Option Value} {base : Heap} {k : Nat} {f : Addr} {name qual : Str} {params : Arguments} {body : List Stmt} {scope : Scope} {dV kV doc pm cdv ct oc : Value} {an od : Option Addr}
    {osl : Array (Option Value)} {N ps : List Str} {sp : Sp} (lk : K.lookup f = some ⟨oc, od, .func (PySem.W.fnOf name qual params body scope dV kV doc pm an cdv ct), osl⟩) (hcd : PySem.W.codeIn K cdv qual = true) (S : FnScope N ps scope)
    (len : ∀ vs H Q E, sp vs H Q E → vs.length = ps.length)
    (hbody : ∀ (A : Around) (outer : List Env) (s : Shared) (H : Hp) (vs : List V) (Q : VK) (E : XK), Room k (A.deeper (envOfC qual scope s.heap.objs.size f cdv)) → sp vs H Q E →
      ∃ t, PSs (cxOf CX P w K mg base N qual scope f cdv A outer s H E) body t ∧ t { nx := fun _ H' => Q .non H', rt := Q } (start N vs) H) :
    FnOk P w K mg base CX (k + 1) f (PySem.W.fnOf name qual params body scope dV kV doc pm an cdv ct) ps sp := by
  refine ⟨len, fun A outer s H args us vs Q E hr e0 hb r hsp => ?_⟩
  have hl := len _ _ _ _ hsp
  have KX : K.In s.heap := e0.mod.kin.keeps fun b o e => (e0.bs b o e).1
  have lim : s.heap.NoLimit := e0.mod.nolimit.keeps fun b o e => (e0.bs b o e).1
  have hkind : ∀ y ∈ ps.zip us, scope.names.lookup y.1 = some .local ∨ (scope.names.lookup y.1 = some .cell ∧ ((cellsFrom (s.heap.objs.size + 1) scope.names []).lookup y.1).isSome = true) := fun ⟨n, v⟩ hy => by
    rcases S.par n (List.of_mem_zip hy).1 with q | q
    · exact .inl q
    · exact .inr ⟨q, PySem.W.cellsFrom_some _ _ _ (.inl q)⟩
  refine codeAny_call_function hr.depth (KX _ _ lk) rfl S.co S.gen rfl (PySem.W.codeRec_of KX hcd) (hb _ _ _ _ ?_)
  refine wpAny_newFunctionEnv_cells S.kind hkind fun env he s1 x => ?_
  subst he
  refine ⟨lim.keeps x.toInCall.keep, codeAny_func ?_⟩
  obtain ⟨t, ht, hq⟩ := hbody A outer s H vs Q E (hr.deeper _) hsp
  have I : Inv (cxOf CX P w K mg base N qual scope f cdv A outer s H E) [] (start N vs) H s1 := inv_start S hr.hd e0 hl r x
  refine wpAny_mono (ht [] s1 (start N vs) H _ I hq) (fun fl s' hs => ?_) fun e s' hs => hs
  have fin : ∀ {σ' : St} {H' : Hp} {v : V} {u : Value}, Inv (cxOf CX P w K mg base N qual scope f cdv A outer s H E) [] σ' H' s' → RelV v u → Q v H' → CE outer P w H s Q u s' :=
    fun {σ' H' v u} J rv q => ⟨v, H', J.os, J.bare, J.base, J.hok, rv, q⟩
  cases fl with
  | ret u =>
    obtain ⟨v, σ', H', J, rv, q⟩ := hs
    exact fin J rv q
  | next =>
    obtain ⟨σ', H', J, q⟩ := hs
    exact fin (v := V.non) (u := Value.none) J rfl q
  | brk =>
    obtain ⟨_, _, _, q⟩ := hs
    exact False.elim q
  | cont =>
    obtain ⟨_, _, _, q⟩ := hs
    exact False.elim q
end L2

namespace L2
open PySem PySem.Spec PyProof.Rows
section
variable {X : Cx} {x : Str} {p pos : Pos} {e : Expr} {es : List Expr} {t : TA} {id T : String} {r : List V → Hp → VK → Prop}

def tCB (r : List V → Hp → VK → Prop) (t : TA) : TE := fun σ H Q => t σ H fun vs H1 => r vs H1 Q
/-- f(e, ..), f a built-in function -/
theorem pe_callB (hc : CallR X (.builtin id) r) (hg : Gl X x) (hm : X.mg x = none) (hv : bootBuiltins x = some (.builtin id)) (ha : PA X (e :: es) t) (hn : x ≠ "__name__" := by decide) (hdb : (x == ("__debug__" : Str)) = false := by decide)
    (he : starEach (e :: es) X.env = (false, eval e X.env) :: starEach es X.env := by rfl) (hpl : (backTo pos (starEach es X.env)).any (·.1) = false := by rfl) : PE X (.Call (.Name x p) (e :: es) [] pos) (tCB r t) := by
  intro pins s σ H Q I h
  refine wpAny_Call_Name_kw (ld_blt I hg hm hv ?_ hn hdb)
  exact PyProof.Rows.callWith_builtin1 (thn (ha pos pins s σ H _ I h) fun us s1 ⟨vs, H1, I1, r1, q1⟩ => hc pins s1 σ H1 vs us Q I1 r1 q1) he hpl
/-- T(e, ..), T a built-in type -/
theorem pe_callTy (hc : CallR X (.type T) r) (hg : Gl X x) (hm : X.mg x = none) (hv : bootBuiltins x = some (.type T)) (ha : PA X (e :: es) t) (hn : x ≠ "__name__" := by decide) (hdb : (x == ("__debug__" : Str)) = false := by decide)
    (he : starEach (e :: es) X.env = (false, eval e X.env) :: starEach es X.env := by rfl) (hpl : (backTo pos (starEach es X.env)).any (·.1) = false := by rfl) : PE X (.Call (.Name x p) (e :: es) [] pos) (tCB r t) := by
  intro pins s σ H Q I h
  refine wpAny_Call_Name_kw (ld_blt I hg hm hv ?_ hn hdb)
  exact PyProof.Rows.callWith_type1 (thn (ha pos pins s σ H _ I h) fun us s1 ⟨vs, H1, I1, r1, q1⟩ => hc pins s1 σ H1 vs us Q I1 r1 q1) he hpl
end
end L2

namespace HT
open PySem PyProof.Rows

section
open PySem.SeqAt
open PySem.AutoSeq1 (wpAny_loadPart')
open PySem.MeetsSeq PySem.MeetsSeq2 PySem.MeetsSeq3

end

section
variable {prog : Program} {w : World} {A : Around} {E : Value → Shared → Prop} {s : Shared}

/-! ### t[a:b], not the whole -/
/-- a slice's bound as a place among n (d where it is left out) -/
def sIx (n d : Nat) : Option Int → Nat
  | none => d
  | some v => if v < 0 then (v + (n : Int)).toNat else min v.toNat n
theorem sIx_none (n d : Nat) : sIx n d none = d := rfl
theorem sIx_nat (n d k : Nat) : sIx n d (some (k : Int)) = min k n := by
  show (if (k : Int) < 0 then ((k : Int) + (n : Int)).toNat else min (k : Int).toNat n) = min k n
  rw [if_neg (by omega), Int.toNat_natCast]
theorem sIx_le (n d : Nat) (hd : d ≤ n) (o : Option Int) : sIx n d o ≤ n := by
  cases o with
  | none => exact hd
  | some v =>
    show (if v < 0 then (v + (n : Int)).toNat else min v.toNat n) ≤ n
    by_cases hv : v < 0
    · rw [if_pos hv]; omega
    · rw [if_neg hv]; exact Nat.min_le_right _ _
end
end HT

namespace L2
open PySem PySem.Spec PyProof.Rows

/-! ### the parts of a slice -/
abbrev TO := St → Hp → (Option Int → Hp → Prop) → Prop
/-- a slice's part (left out, or an int) -/
def PO (X : Cx) (e : Option Expr) (t : TO) : Prop :=
  ∀ (pins : List (Addr × Obj)) (s : Shared) (σ : St) (H : Hp) (Q : Option Int → Hp → Prop), Inv X pins σ H s → t σ H Q →
    wpAny (model X.prog X.w) X.A (evalPart e X.env) (fun u s' => ∃ o H', Inv X pins σ H' s' ∧ IsPart u o ∧ Q o H') X.xe s
def tNoPart : TO := fun _ H Q => Q none H
def tPart (t : TE) : TO := fun σ H Q => t σ H fun x H1 => ∃ i, x = .int i ∧ Q (some i) H1

section
variable {X : Cx} {e : Expr} {te : TE} {lo hi : Option Expr} {tl th : TO} {pos p2 : Pos}

theorem po_none : PO X none tNoPart := by
  intro pins s σ H Q I h
  rw [evalPart_none]
  exact wpAny_pure ⟨none, H, I, .none, h⟩
theorem po_some (h : PE X e te) : PO X (some e) (tPart te) := by
  intro pins s σ H Q I hw
  rw [evalPart_some]
  refine thn (h pins s σ H _ I hw) fun u s1 ⟨x, H1, I1, r1, q1⟩ => ?_
  obtain ⟨i, rfl, q⟩ := q1
  obtain ⟨t, rfl⟩ := r1
  exact ⟨some i, H1, I1, .int i t, q⟩

/-- what a slice of a value is, by values: the slice object stands at sl -/
def SlR (X : Cx) (r : V → Option Int → Option Int → Hp → VK → Prop) : Prop :=
  ∀ (pins : List (Addr × Obj)) (s : Shared) (σ : St) (H : Hp) (x : V) (v vl vu : Value) (lo hi : Option Int) (sl : Addr) (Q : VK), Inv X pins σ H s → RelV x v → s.heap.IsSliceOf sl vl vu .none → IsPart vl lo → IsPart vu hi → r x lo hi H Q →
    ∃ T id, typeLookup (.type T) "__getitem__" = pure (some (.builtin id)) ∧ s.TypeIs v T ∧ wpAny (model X.prog X.w) X.A (getItem v (.ref sl)) (EP X pins σ Q) X.xe s
theorem SlR.or {r r' : V → Option Int → Option Int → Hp → VK → Prop} (h : SlR X r) (h' : SlR X r') : SlR X (fun x lo hi H Q => r x lo hi H Q ∨ r' x lo hi H Q) := by
  intro pins s σ H x v vl vu lo hi sl Q I rx hs pl pu q
  rcases q with q | q
  · exact h pins s σ H x v vl vu lo hi sl Q I rx hs pl pu q
  · exact h' pins s σ H x v vl vu lo hi sl Q I rx hs pl pu q
def tSl (r : V → Option Int → Option Int → Hp → VK → Prop) (te : TE) (tl th : TO) : TE := fun σ H Q => te σ H fun x H1 => tl σ H1 fun l H2 => th σ H2 fun u H3 => r x l u H3 Q
/-- a[lo:hi], any a -/
theorem pe_slice {r : V → Option Int → Option Int → Hp → VK → Prop} (hr : SlR X r) (he : PE X e te) (hl : PO X lo tl) (hu : PO X hi th) : PE X (.Subscript e (.Slice lo hi none p2) pos) (tSl r te tl th) := by
  intro pins s σ H Q I h
  refine Subscript_ (thn (he pins s σ H _ I h) fun v s1 ⟨x, H1, I1, r1, q1⟩ => ?_)
  refine wpAny_Slice (thn (hl pins s1 σ H1 _ I1 q1) fun vl s2 ⟨l, H2, I2, pl, q2⟩ => thn (hu pins s2 σ H2 _ I2 q2) fun vu s3 ⟨u, H3, I3, pu, q3⟩ => ?_)
  rw [evalPart_none]
  refine wpAny_pure ?_
  have I4 : Inv X pins σ H3 { s3 with heap := s3.heap.push { cls := .type "slice", data := .fields #[vl, vu, .none] } } := I3.kept (t' := s3.toks) fun b ob q => Heap.get?_push_of_some _ q
  obtain ⟨T, id, hT, ht, hg⟩ := hr pins { s3 with heap := s3.heap.push { cls := .type "slice", data := .fields #[vl, vu, .none] } } σ H3 x v vl vu l u s3.heap.objs.size Q I4 r1 (Heap.IsSliceOf.new ..) pl pu q3
  show wpAny (model X.prog X.w) X.A (subscriptTail e (.Slice lo hi none p2) v (.ref s3.heap.objs.size)) (EP X pins σ Q) X.xe { s3 with heap := s3.heap.push { cls := .type "slice", data := .fields #[vl, vu, .none] } }
  exact tail_any (ops := [.ref s3.heap.objs.size, v]) ht hT hg (by with_unfolding_all rfl)

/-- the items of xs[lo:hi] -/
def cutV (xs : List V) (lo hi : Option Int) : List V := (xs.drop (HT.sIx xs.length 0 lo)).take (HT.sIx xs.length xs.length hi - HT.sIx xs.length 0 lo)
theorem cutV_length (xs : List V) (lo hi : Option Int) : (cutV xs lo hi).length ≤ xs.length := by
  unfold cutV
  rw [List.length_take, List.length_drop]
  omega
/-! ### t < u, t + u -/
end
end L2

namespace L2
open PySem PySem.Spec PyProof.Rows

/-! ### places -/
/-- the place that an index of any sign means -/
def ixN (n : Nat) (i : Int) : Option Nat := if 0 ≤ i then (if i < n then some i.toNat else none) else if -(n : Int) ≤ i then some (i + n).toNat else none
def atI {α : Type} (xs : List α) (i : Int) : Option α := (ixN xs.length i).bind fun j => xs[j]?
theorem ixN_seq {n : Nat} {i : Int} {j : Nat} (h : ixN n i = some j) : seqIndex? i n = some j ∧ j < n ∧ -(n : Int) ≤ i ∧ i < n := by
  unfold ixN at h
  by_cases h0 : 0 ≤ i
  · rw [if_pos h0] at h
    by_cases h1 : i < n
    · rw [if_pos h1] at h
      have e : i.toNat = j := Option.some.inj h
      exact ⟨by rw [seqIndex_of h0 h1, e], by omega, by omega, h1⟩
    · rw [if_neg h1] at h; cases h
  · rw [if_neg h0] at h
    by_cases h1 : -(n : Int) ≤ i
    · rw [if_pos h1] at h
      have e : (i + n).toNat = j := Option.some.inj h
      exact ⟨by rw [seqIndex_neg (by omega) h1, e], by omega, h1, by omega⟩
    · rw [if_neg h1] at h; cases h
theorem atI_get {α : Type} {xs : List α} {i : Int} {v : α} (h : atI xs i = some v) : ∃ j, seqIndex? i xs.length = some j ∧ xs[j]? = some v ∧ j < xs.length ∧ -(xs.length : Int) ≤ i ∧ i < xs.length := by
  unfold atI at h
  cases e : ixN xs.length i with
  | none => rw [e] at h; cases h
  | some j =>
    rw [e] at h
    obtain ⟨h1, h2, h3, h4⟩ := ixN_seq e
    exact ⟨j, h1, h, h2, h3, h4⟩
theorem atI_nat {α : Type} {xs : List α} {j : Nat} {v : α} (h : xs[j]? = some v) : atI xs (j : Int) = some v := by
  have hj : j < xs.length := (List.getElem?_eq_some_iff.mp h).1
  have e : ixN xs.length (j : Int) = some j := by
    unfold ixN
    rw [if_pos (by omega), if_pos (by omega)]; simp
  unfold atI; rw [e]; exact h
/-! ### what may be subscripted -/
/-- what stands as an index of a plain subscript -/
def PlainIx (b : Expr) : Prop := ∀ o i, subscripted b false o i = operate [o, i] (getItem o i)
/-- a subscript by values -/
def IxR (X : Cx) (r : R2) : Prop :=
  ∀ (value slice : Expr) (pins : List (Addr × Obj)) (s : Shared) (σ : St) (H : Hp) (x y : V) (v u : Value) (Q : VK), Inv X pins σ H s → RelV x v → RelV y u → r x y H Q →
    subscripted slice false v u = operate [v, u] (getItem v u) → wpAny (model X.prog X.w) X.A (subscriptTail value slice v u) (EP X pins σ Q) X.xe s
/-- a call of a builtin's method by values: the receiver, the arguments -/
def MtR (X : Cx) (id : String) (r : V → List V → Hp → VK → Prop) : Prop :=
  ∀ (pins : List (Addr × Obj)) (s : Shared) (σ : St) (H : Hp) (x : V) (xs : List V) (v : Value) (us : List Value) (Q : VK), Inv X pins σ H s → RelV x v → Vals xs us → r x xs H Q →
    wpAny (model X.prog X.w) X.A (call (.builtin id) (v :: us)) (EP X pins σ Q) X.xe s
section
variable {X : Cx} {a b : Expr} {ta tb : TE} {pos : Pos}
theorem IxR.or {r r' : R2} (h : IxR X r) (h' : IxR X r') : IxR X (fun x y H Q => r x y H Q ∨ r' x y H Q) := by
  intro value slice pins s σ H x y v u Q I rx ry q hs
  rcases q with q | q
  · exact h value slice pins s σ H x y v u Q I rx ry q hs
  · exact h' value slice pins s σ H x y v u Q I rx ry q hs
theorem MtR.or {id : String} {r r' : V → List V → Hp → VK → Prop} (h : MtR X id r) (h' : MtR X id r') : MtR X id (fun x xs H Q => r x xs H Q ∨ r' x xs H Q) := by
  intro pins s σ H x xs v us Q I rx rs q
  rcases q with q | q
  · exact h pins s σ H x xs v us Q I rx rs q
  · exact h' pins s σ H x xs v us Q I rx rs q
/-- a[b] -/
theorem pe_ix {r : R2} (hr : IxR X r) (ha : PE X a ta) (hb : PE X b tb) (hs : PlainIx b) : PE X (.Subscript a b pos) (tOp r ta tb) := by
  intro pins s σ H Q I h
  exact Subscript_ (binT ha hb I h fun v u s2 x y H2 I2 rx ry q => hr a b pins s2 σ H2 x y v u Q I2 rx ry q (hs _ _))

def rIxL (K : PySem.W.Frag) : R2 := fun x y H Q => ∃ p xs i v, x = .ref p ∧ y = .int i ∧ SqL K H p xs ∧ atI xs i = some v ∧ Q v H
def rIxT (K : PySem.W.Frag) : R2 := fun x y H Q => ∃ p xs i v, x = .ref p ∧ y = .int i ∧ SqT K H p xs ∧ atI xs i = some v ∧ Q v H
def rIxS : R2 := fun x y H Q => ∃ z i c, x = .str z ∧ y = .int i ∧ z.length ≤ sizeLine ∧ atI z.cps.toList i = some c ∧ Q (.str ⟨#[c]⟩) H
theorem ix_list : IxR X (rIxL X.K) := by
  intro value slice pins s σ H x y v u Q I rx ry h hs
  obtain ⟨p, xs, i, z, rfl, rfl, hq, he, q⟩ := h
  cases rx
  obtain ⟨t, rfl⟩ := ry
  obtain ⟨its, r, pl, hz⟩ := I.list hq
  obtain ⟨j, h1, h2, h3, h4, h5⟩ := atI_get he
  obtain ⟨w, ew, rw'⟩ := r.get h2
  have hl := r.length
  have hn := line63
  have fin : EP X pins σ Q w s := ⟨z, H, I, rw', q⟩
  by_cases h0 : 0 ≤ i
  · have hj : i.toNat = j := by
      rw [seqIndex_of h0 h5] at h1
      exact Option.some.inj h1
    exact item_listR pl.isList h0 (by omega) (by rw [hj]; simpa using ew) fin hs
  · have hj : (i + (its.toArray.size : Int)).toNat = j := by
      rw [seqIndex_neg (by omega) h4] at h1
      rw [List.size_toArray, ← hl]
      exact Option.some.inj h1
    exact subscriptTail_builtinR (x := w) pl.isList.typeIs slot_list_getitem.lookup
      (wpAny_getItem_list_neg (Q := fun r s' => r = w ∧ EP X pins σ Q r s') pl.isList (by omega) (by rw [List.size_toArray] <;> omega) (by omega) (by rw [hj]; simpa using ew) ⟨rfl, fin⟩) hs
theorem ix_tup : IxR X (rIxT X.K) := by
  intro value slice pins s σ H x y v u Q I rx ry h hs
  obtain ⟨p, xs, i, z, rfl, rfl, hq, he, q⟩ := h
  cases rx
  obtain ⟨t, rfl⟩ := ry
  obtain ⟨its, r, pl, hz⟩ := I.tuple hq
  obtain ⟨j, h1, h2, h3, h4, h5⟩ := atI_get he
  obtain ⟨w, ew, rw'⟩ := r.get h2
  have hl := r.length
  have hn := line63
  have fin : EP X pins σ Q w s := ⟨z, H, I, rw', q⟩
  exact subscriptTail_builtinR (x := w) pl.typeIs slot_tuple_getitem.lookup
    (getItem_tuple (j := j) (Q := fun r s' => r = w ∧ EP X pins σ Q r s') pl (by omega) (by omega) (by rw [List.size_toArray, ← hl]; exact h1) (by simpa using ew) ⟨rfl, fin⟩) hs
theorem ix_str : IxR X rIxS := by
  intro value slice pins s σ H x y v u Q I rx ry h hs
  obtain ⟨z, i, c, rfl, rfl, hz, he, q⟩ := h
  obtain ⟨t, rfl⟩ := rx
  obtain ⟨t', rfl⟩ := ry
  obtain ⟨j, h1, h2, h3, h4, h5⟩ := atI_get he
  have hl : z.cps.toList.length = z.length := by simp [Str.length]
  rw [hl] at h1 h4 h5
  have hn := line63
  exact tail_any (typeIs_str s z t) slot_str_getitem.lookup (getItem_str (c := c) (by
    have e1 : decide (i < -(2 ^ 63 : Int)) = false := decide_eq_false (by omega)
    have e2 : decide (i ≥ 2 ^ 63) = false := decide_eq_false (by omega)
    rw [e1, e2, Bool.or_false]) (by rw [h1]; simpa using h2) ⟨.str ⟨#[c]⟩, H, I.tok _, ⟨_, rfl⟩, q⟩) hs
/-! ### xs[i] = v, any sign -/
/-- the list's object behind a store -/
theorem mapSeq_set (its : List Value) (n j : Nat) (u : Value) : Obj.mapSeq (·.setIfInBounds j u) { cls := .type "list", data := .seq its.toArray n } = { cls := .type "list", data := .seq (its.set j u).toArray n } := by
  simp [Obj.mapSeq]
theorem Inv.lst {pins : List (Addr × Obj)} {σ : St} {H : Hp} {s : Shared} {p : Addr} {xs : List V} (I : Inv X pins σ H s) (h : H p = some (.lst xs)) :
    ∃ (its : List Value) (n : Nat), Vals xs its ∧ s.heap.get? p = some { cls := .type "list", data := .seq its.toArray n } ∧ xs.length ≤ sizeLine := by
  obtain ⟨z, its, n, r, e⟩ := I.hok p _ h
  exact ⟨its, n, r, e, z⟩
/-- the list at p is written by an update of its object -/
theorem Inv.lstUpd {pins : List (Addr × Obj)} {σ : St} {H : Hp} {s : Shared} {p : Addr} {xs ys : List V} {its its' : List Value} {n n' : Nat} {f : Obj → Obj} (I : Inv X pins σ H s) (h : H p = some (.lst xs))
    (ho : s.heap.get? p = some { cls := .type "list", data := .seq its.toArray n }) (hf : f { cls := .type "list", data := .seq its.toArray n } = { cls := .type "list", data := .seq its'.toArray n' }) (r : Vals ys its') (hz : ys.length ≤ sizeLine) (t : Nat) :
    Inv X pins σ (upd H p (.lst ys)) { s with heap := s.heap.update p f, toks := t } := by
  have e : (s.heap.update p f).get? p = some { cls := .type "list", data := .seq its'.toArray n' } := by
    rw [Heap.get?_update_self f ho (by rw [hf] <;> rfl), hf]
  refine I.write (x := p) (e := p) (by rw [h]; trivial) (.inl rfl) (fun b u hb q => (Heap.get?_update_other _ _ (Ne.symm hb)).trans q) ⟨_, e⟩ ?_
  exact ⟨hz, its', n', r, e⟩
def rSetL : V → V → V → Hp → (Hp → Prop) → Prop := fun o i v H Q => ∃ p xs k j, o = .ref p ∧ i = .int k ∧ H p = some (.lst xs) ∧ ixN xs.length k = some j ∧ Q (upd H p (.lst (xs.set j v)))
theorem set_list : PSet X rSetL := by
  intro pins s σ H o i v ov iv u Q I ro ri rv h
  obtain ⟨p, xs, k, j, rfl, rfl, hp, hj, q⟩ := h
  cases ro
  obtain ⟨t, rfl⟩ := ri
  obtain ⟨its, n, r, ho, hz⟩ := I.lst hp
  obtain ⟨h1, h2, h3, h4⟩ := ixN_seq hj
  have hl := r.length
  have hn := line63
  have I' : Inv X pins σ (upd H p (.lst (xs.set j v))) { s with heap := s.heap.update p (Obj.mapSeq (·.setIfInBounds j u)) } :=
    I.lstUpd hp ho (mapSeq_set its n j u) (r.set rv j) (by rw [List.length_set]; exact hz) s.toks
  by_cases h0 : 0 ≤ k
  · have hk : k.toNat = j := by
      rw [seqIndex_of h0 h4] at h1
      exact Option.some.inj h1
    exact PySem.W.ki_setAt ho h0 (by omega) (by rw [List.size_toArray, ← hl]; exact h4) (by rw [hk]; exact ⟨_, I', q⟩)
  · have hk : (k + (its.toArray.size : Int)).toNat = j := by
      rw [seqIndex_neg (by omega) h3] at h1
      rw [List.size_toArray, ← hl]
      exact Option.some.inj h1
    exact PySem.W.ki_setBack ho (by omega) (by rw [List.size_toArray, ← hl]; exact h3) (by omega) (by rw [hk]; exact ⟨_, I', q⟩)

/-! ### slices -/
theorem slice_bounds (lo hi : Option Int) (n : Nat) : (sliceBounds lo hi none n).1 = ((HT.sIx n 0 lo : Nat) : Int) ∧ (sliceBounds lo hi none n).2.1 = ((HT.sIx n n hi : Nat) : Int) ∧ (sliceBounds lo hi none n).2.2 = 1 := by
  refine ⟨?_, ?_, rfl⟩
  · cases lo with
    | none => simp [sliceBounds, HT.sIx]
    | some i =>
      simp only [sliceBounds, HT.sIx, Option.getD_none, show (1 : Int) > 0 by decide, if_true]
      by_cases h : i < 0
      · simp only [h, if_true] <;> omega
      · simp only [h, if_false] <;> omega
  · cases hi with
    | none => simp [sliceBounds, HT.sIx]
    | some i =>
      simp only [sliceBounds, HT.sIx, Option.getD_none, show (1 : Int) > 0 by decide, if_true]
      by_cases h : i < 0
      · simp only [h, if_true] <;> omega
      · simp only [h, if_false] <;> omega
theorem slicePick_cut (its : List Value) (lo hi : Option Int) : slicePick its.toArray lo hi none = ((its.drop (HT.sIx its.length 0 lo)).take (HT.sIx its.length its.length hi - HT.sIx its.length 0 lo)).toArray := by
  obtain ⟨h1, h2, h3⟩ := slice_bounds lo hi its.toArray.size
  unfold slicePick
  rw [h1, h2, h3]
  simp only [sliceRange_one, pick_run, List.size_toArray] <;> rfl
/-- xs[lo:hi] of a list: a new list -/
def rSlL (K : PySem.W.Frag) : V → Option Int → Option Int → Hp → VK → Prop := fun x lo hi H Q => ∃ a xs, x = .ref a ∧ SqL K H a xs ∧ ∀ p, H p = none → Q (.ref p) (upd H p (.lst (cutV xs lo hi)))
theorem sl_list : SlR X (rSlL X.K) := by
  intro pins s σ H x v vl vu lo hi sl Q I rx hs pl pu h
  obtain ⟨a, xs, rfl, hx, q⟩ := h
  cases rx
  obtain ⟨its, r, ht, hz⟩ := I.list hx
  have hlen := r.length
  refine ⟨"list", _, slot_list_getitem.lookup, ht.isList.typeIs, ?_⟩
  refine wpAny_getItem_list_slice ht.isList hs pl pu .none (by simp) ?_ (by rw [List.size_toArray] <;> omega)
  rw [slicePick_cut, ← hlen]
  refine ⟨.ref s.heap.objs.size, _, I.laid (t' := s.toks) (o := .lst (cutV xs lo hi)) (fun b ob q => Heap.get?_push_of_some _ q) (Nat.le_refl _) ?_, rfl, q _ (I.hok.fresh (Nat.le_refl _))⟩
  exact ⟨Nat.le_trans (cutV_length xs lo hi) hz, _, 0, (r.drop (HT.sIx xs.length 0 lo)).take (HT.sIx xs.length xs.length hi - HT.sIx xs.length 0 lo), Heap.get?_push_size _ rfl⟩

/-! ### in, not in: flat items -/
theorem op_notIn_str : OpR X (compareOp .NotIn) (fun x y H Q => ∃ i j, x = .str i ∧ y = .str j ∧ Q (.bl (!(!(Builtin.Str.occurrences j i 0 j.length 1).isEmpty))) H) := by
  intro pins s σ H x y v u Q I rx ry h
  obtain ⟨i, j, rfl, rfl, q⟩ := h
  obtain ⟨t, rfl⟩ := rx
  obtain ⟨t', rfl⟩ := ry
  exact notIn_str ⟨.bl _, H, I, rfl, q⟩

/-! ### len, list(x), tuple(x) of any list or tuple that is read -/
theorem CallR.or {f : Value} {r r' : List V → Hp → VK → Prop} (h : CallR X f r) (h' : CallR X f r') : CallR X f (fun xs H Q => r xs H Q ∨ r' xs H Q) := by
  intro pins s σ H xs us Q I rs q
  rcases q with q | q
  · exact h pins s σ H xs us Q I rs q
  · exact h' pins s σ H xs us Q I rs q
theorem call_list_of : CallR X (.type "list") (fun xs H Q => ∃ p ys, xs = [.ref p] ∧ (SqL X.K H p ys ∨ SqT X.K H p ys) ∧ ∀ l, H l = none → Q (.ref l) (upd H l (.lst ys))) := by
  intro pins s σ H xs us Q I r h
  obtain ⟨p, ys, rfl, hq, q⟩ := h
  obtain ⟨u, rfl, rx⟩ := vals1 r
  cases rx
  have fin : ∀ (its : List Value), Vals ys its → ys.length ≤ sizeLine → ∀ (h' : Heap) (c' : Nat), (∀ b o', s.heap.get? b = some o' → h'.get? b = some o') →
      h'.get? s.heap.objs.size = some { cls := .type "list", dict := none, data := .seq its.toArray c', slots := #[] } → EP X pins σ Q (.ref s.heap.objs.size) { s with heap := h' } := fun its r' hz h' c' kp e =>
    ⟨.ref s.heap.objs.size, _, I.laid (t' := s.toks) kp (Nat.le_refl _) (show ObjOk X.prog X.w _ h' _ (.lst ys) from ⟨hz, its, c', r', e⟩), rfl, q _ (I.hok.fresh (Nat.le_refl _))⟩
  rcases hq with hq | hq
  · obtain ⟨its, r', pl, hz⟩ := I.list hq
    have hlen := r'.length
    obtain ⟨o, ho, hc, n, hd⟩ := pl.isList
    exact call_list_seq p (.inl rfl) ho hc hd (fun h' c' kp e => fin its r' hz h' c' kp e) (by simp only [List.size_toArray] <;> omega)
  · obtain ⟨its, r', pl, hz⟩ := I.tuple hq
    have hlen := r'.length
    obtain ⟨o, ho, hc, n, hd⟩ := pl
    exact call_list_seq p (.inr rfl) ho hc hd (fun h' c' kp e => fin its r' hz h' c' kp e) (by simp only [List.size_toArray] <;> omega)
/-! ### the call of a builtin's method: o.m(..) -/
/-- the value is of that builtin type -/
def tyV (K : PySem.W.Frag) (T : String) (x : V) (H : Hp) : Prop := match x with
  | .str _ => T = "str"
  | .int _ => T = "int"
  | .ref p => (T = "list" ∧ ∃ xs, SqL K H p xs) ∨ (T = "tuple" ∧ ∃ o, K.lookup p = some o ∧ o.cls = .type "tuple" ∧ o.dict = none) ∨
      (T = "dict" ∧ ((∃ kvs, H p = some (.dK kvs)) ∨ ∃ kvs, H p = some (.dT kvs))) ∨ (T = "set" ∧ ∃ S n, H p = some (.set S n))
  | _ => False
theorem tyV_is {pins : List (Addr × Obj)} {σ : St} {H : Hp} {s : Shared} {T : String} {x : V} {v : Value} (I : Inv X pins σ H s) (r : RelV x v) (ty : tyV X.K T x H) :
    s.TypeIs v T ∧ ∀ a, v = .ref a → ∃ ob, s.heap.get? a = some ob ∧ ob.dict = none := by
  cases x with
  | str z =>
    obtain ⟨t, rfl⟩ := r
    cases (show T = "str" from ty)
    exact ⟨typeIs_str s z t, fun _ e => nomatch e⟩
  | int i =>
    obtain ⟨t, rfl⟩ := r
    cases (show T = "int" from ty)
    exact ⟨typeIs_int s i t, fun _ e => nomatch e⟩
  | ref p =>
    cases r
    rcases ty with ⟨rfl, xs, hq⟩ | ⟨rfl, o, hk, hc, hd⟩ | ⟨rfl, hk⟩ | ⟨rfl, S, n, hk⟩
    · obtain ⟨its, _, pl, _⟩ := I.list hq
      refine ⟨pl.isList.typeIs, fun a e => ?_⟩
      cases e
      obtain ⟨o, n, e, c, hd, _⟩ := pl
      exact ⟨o, e, hd⟩
    · refine ⟨⟨o, I.kIn p o hk, hc⟩, fun a e => ?_⟩
      cases e
      exact ⟨o, I.kIn _ o hk, hd⟩
    · have z : ∃ o, s.heap.get? p = some o ∧ o.ExactDict := by
        rcases hk with ⟨kvs, hk⟩ | ⟨kvs, hk⟩
        · obtain ⟨_, _, _, _, o, _, _, e, ex, _⟩ := I.hok p _ hk
          exact ⟨o, e, ex⟩
        · exact (show False from I.hok p _ hk).elim
      obtain ⟨o, e, ex⟩ := z
      refine ⟨⟨o, e, ex.1⟩, fun a e2 => ?_⟩
      cases e2
      exact ⟨o, e, ex.2.1⟩
    · obtain ⟨o, _, _, _, e, ex, _⟩ := I.hok p _ hk
      refine ⟨⟨o, e, ex.1⟩, fun a e2 => ?_⟩
      cases e2
      exact ⟨o, e, ex.2.1⟩
  | _ => exact False.elim ty
def tBM0 (K : PySem.W.Frag) (T : String) (r : V → List V → Hp → VK → Prop) (to : TE) : TE := fun σ H Q => to σ H fun x H1 => tyV K T x H1 ∧ r x [] H1 Q
def tBM (K : PySem.W.Frag) (T : String) (r : V → List V → Hp → VK → Prop) (to : TE) (t : TA) : TE := fun σ H Q => to σ H fun x H1 => tyV K T x H1 ∧ t σ H1 fun xs H2 => r x xs H2 Q
variable {o e : Expr} {es : List Expr} {to : TE} {t : TA} {name : Str} {apos cpos : Pos} {T id : String} {r : V → List V → Hp → VK → Prop}
theorem pe_bm0 (pa : PlainAttrs T) (slot : Slot T name id) (hty : typeOf (.builtin id) = pure (.type "method_descriptor")) (hm : MtR X id r) (ho : PE X o to)
    (hbase : attributeBase o name X.env (eval o X.env) = eval o X.env := by rfl) (hline : (apos.endLine == cpos.line) = true := by rfl) : PE X (.Call (.Attribute o name apos) [] [] cpos) (tBM0 X.K T r to) := by
  intro pins s σ H Q I h
  refine wpAny_Call_method0_late hbase hline (thn (ho pins s σ H _ I h) fun v s1 ⟨x, H1, I1, r1, ty, q1⟩ => ?_)
  obtain ⟨h1, h2⟩ := tyV_is I1 r1 ty
  exact ⟨T, id, pa, slot, hty, h1, h2, Calls.callWith_builtin rfl (PySem.evalArgs_none (hm pins s1 σ H1 x [] v [] Q I1 r1 .nil q1))⟩
theorem pe_bm (pa : PlainAttrs T) (slot : Slot T name id) (hty : typeOf (.builtin id) = pure (.type "method_descriptor")) (hm : MtR X id r) (ho : PE X o to) (ha : PA X (e :: es) t)
    (hbase : attributeBase o name X.env (eval o X.env) = eval o X.env := by rfl)
    (hfew : ((backTo cpos (starEach (e :: es) X.env)).all (fun x => !x.1) && (backToKw cpos (keywordEach [] X.env)).all (fun x => x.1.isSome)
      && decide ((e :: es).length + ([] : List Keyword).length + (if ([] : List Keyword).isEmpty then 0 else 1) < 30)) = true := by rfl)
    (hline : (apos.endLine == cpos.line) = true := by rfl) (hs : starEach (e :: es) X.env = (false, eval e X.env) :: starEach es X.env := by rfl) (hplain : (backTo cpos (starEach es X.env)).any (·.1) = false := by rfl) :
    PE X (.Call (.Attribute o name apos) (e :: es) [] cpos) (tBM X.K T r to t) := by
  intro pins s σ H Q I h
  refine wpAny_Call_method_late hbase hfew hline rfl (thn (ho pins s σ H _ I h) fun v s1 ⟨x, H1, I1, r1, ty, q1⟩ => ?_)
  obtain ⟨h1, h2⟩ := tyV_is I1 r1 ty
  refine ⟨T, id, pa, slot, hty, h1, h2, ?_⟩
  have hA := ha cpos pins s1 σ H1 _ I1 q1
  rw [hs] at hA ⊢
  refine Calls.callWith_builtin (by show (false || (backTo cpos (starEach es X.env)).any (·.1)) = false; rw [hplain] <;> rfl) (Calls.evalArgs_plain ?_)
  exact thn hA fun us s2 ⟨vs, H2, I2, r2, q2⟩ => hm pins s2 σ H2 x vs v us Q I2 r1 r2 q2
/- xs.append(e), list.index on a module's tuple .. are MtR facts of 06m -/
end
end L2

namespace L2
open PySem PySem.Spec PyProof.Rows

def MtM (X : Cx) (id : String) (r : V → List V → Hp → VK → Prop) : Prop :=
  ∀ (pins : List (Addr × Obj)) (s : Shared) (σ : St) (H : Hp) (x : V) (xs : List V) (v : Value) (us : List Value) (Q : VK), Inv X pins σ H s → RelV x v → Vals xs us → r x xs H Q →
    wpAny (model X.prog X.w) X.A (call (.builtin id) (v :: us)) (EP X pins σ Q) X.xe s

/-! ### lists of values -/
theorem Vals.one : ∀ {x : V} {us : List Value}, Vals [x] us → ∃ u, us = [u] ∧ RelV x u
  | _, _, .cons r .nil => ⟨_, rfl, r⟩
theorem Vals.two : ∀ {x y : V} {us : List Value}, Vals [x, y] us → ∃ u v, us = [u, v] ∧ RelV x u ∧ RelV y v
  | _, _, _, .cons r (.cons q .nil) => ⟨_, _, rfl, r, q⟩
theorem Vals.zero : ∀ {us : List Value}, Vals [] us → us = []
  | _, .nil => rfl
theorem Vals.rep {xs : List V} {us : List Value} (h : Vals xs us) : ∀ k : Nat, Vals (List.replicate k xs).flatten (List.replicate k us).flatten
  | 0 => .nil
  | k + 1 => by
    rw [List.replicate_succ, List.replicate_succ, List.flatten_cons, List.flatten_cons]
    exact Vals.append h (Vals.rep h k)
theorem foldl_rep (its : List Value) : ∀ (k : Nat) (acc : List Value),
    List.foldl (fun x1 x2 => x1 ++ x2) acc.toArray (List.replicate k its.toArray) = (acc ++ (List.replicate k its).flatten).toArray
  | 0, acc => by simp
  | k + 1, acc => by
    have e : acc.toArray ++ its.toArray = (acc ++ its).toArray := by simp
    have e2 : (acc ++ its) ++ (List.replicate k its).flatten = acc ++ (List.replicate (k + 1) its).flatten := by
      rw [List.replicate_succ, List.flatten_cons, List.append_assoc]
    rw [← e2, ← foldl_rep its k (acc ++ its), ← e, List.replicate_succ, List.foldl_cons]

section
variable {X : Cx} {pins : List (Addr × Obj)} {σ : St} {H : Hp} {s : Shared} {l b : Addr} {xs ys zs : List V}

/-! ### the two steps: a tracked list is rewritten, a new list is laid -/
theorem Inv.lset {its its' : List Value} {n : Nat} {f : Array Value → Array Value} {t' : Nat} (I : Inv X pins σ H s) (hH : H l = some (.lst xs))
    (e : s.heap.get? l = some { cls := .type "list", data := .seq its.toArray n }) (hf : f its.toArray = its'.toArray) (hv : Vals ys its') (hz : ys.length ≤ sizeLine) :
    Inv X pins σ (upd H l (.lst ys)) { s with heap := s.heap.update l (Obj.mapSeq f), toks := t' } := by
  have q := PySem.IsL.update e f
  rw [hf] at q
  refine I.write (x := l) (e := l) (by rw [hH]; exact trivial) (.inl rfl) (fun b' u hb hu => (Heap.get?_update_other s.heap (Obj.mapSeq f) (Ne.symm hb)).trans hu) ⟨_, q⟩ ?_
  exact ⟨hz, its', _, hv, q⟩
theorem Inv.lnew {its : List Value} {t' : Nat} (I : Inv X pins σ H s) (hv : Vals ys its) (hz : ys.length ≤ sizeLine) :
    Inv X pins σ (upd H s.heap.objs.size (.lst ys)) { s with heap := s.heap.push { cls := .type "list", data := .seq its.toArray }, toks := t' } :=
  I.laid (fun _ _ q => Heap.get?_push_of_some _ q) (Nat.le_refl _) ⟨hz, its, 0, hv, Heap.get?_push_size _ rfl⟩
theorem Inv.fresh (I : Inv X pins σ H s) : H s.heap.objs.size = none := I.hok.fresh (Nat.le_refl _)
theorem Inv.lstM (I : Inv X pins σ H s) (hH : H l = some (.lst xs)) : xs.length ≤ sizeLine ∧ ∃ (its : List Value) (n : Nat), Vals xs its ∧ xs.length = its.length ∧ s.heap.get? l = some { cls := .type "list", data := .seq its.toArray n } := by
  obtain ⟨z, its, n, r, e⟩ := I.hok l _ hH
  exact ⟨z, its, n, r, r.length, e⟩

theorem notLongL {n : Nat} (h : n ≤ sizeLine) : Builtin.List.listTooLong n = false := by
  unfold Builtin.List.listTooLong
  exact decide_eq_false (by omega)
end

section
variable {X : Cx}

/-! ### methods -/
def rAppend : V → List V → Hp → VK → Prop := fun x vs H Q => ∃ l xs y, x = .ref l ∧ vs = [y] ∧ H l = some (.lst xs) ∧ xs.length < sizeLine ∧ Q .non (upd H l (.lst (xs ++ [y])))
theorem mt_append : MtM X "list.append" rAppend := by
  intro pins s σ H x vs v us Q I rx rv h
  obtain ⟨l, xs, y, rfl, rfl, hH, hz, q⟩ := h
  cases rx
  obtain ⟨u, rfl, ru⟩ := rv.one
  obtain ⟨z, its, n, r, hl, e⟩ := I.lstM hH
  refine call_meets F.slot_list_append ⟨_, e, rfl⟩ F.entry_list_append (F.args_list_append_2 _ _) (PySem.list_append l its.toArray n u (by rw [List.size_toArray]; omega)) ⟨e, ?_⟩
  refine ⟨.non, _, I.lset (its' := its ++ [u]) hH e (by simp) (r.append (.cons ru .nil)) ?_, rfl, q⟩
  rw [List.length_append, List.length_singleton]
  omega

/-! ### list + list, list += list, list * int -/
def rCat : R2 := fun x y H Q => ∃ l b xs zs, x = .ref l ∧ y = .ref b ∧ H l = some (.lst xs) ∧ H b = some (.lst zs) ∧ xs.length + zs.length ≤ sizeLine ∧ ∀ p, H p = none → Q (.ref p) (upd H p (.lst (xs ++ zs)))
theorem op_cat : OpR X (binaryOp .Add) rCat := by
  intro pins s σ H x y v u Q I rx ry h
  obtain ⟨l, b, xs, zs, rfl, rfl, hH, hB, hz, q⟩ := h
  cases rx
  cases ry
  obtain ⟨z, its, n, r, hl, e⟩ := I.lstM hH
  obtain ⟨z2, its2, n2, r2, hl2, e2⟩ := I.lstM hB
  refine PySem.P.add_list e e2 ?_ (by rw [List.size_toArray, List.size_toArray]; omega)
  have ea : its.toArray ++ its2.toArray = (its ++ its2).toArray := by simp
  rw [ea]
  exact ⟨.ref _, _, I.lnew (t' := s.toks) (r.append r2) (by rw [List.length_append]; omega), rfl, q _ I.fresh⟩
/-- a list times an int (a negative one is nothing) -/
def rRep : R2 := fun x y H Q => ∃ l k xs, x = .ref l ∧ y = .int k ∧ H l = some (.lst xs) ∧ -(2 ^ 63) ≤ k ∧ k < 2 ^ 63 ∧ xs.length * k.toNat ≤ sizeLine ∧
  ∀ p, H p = none → Q (.ref p) (upd H p (.lst (List.replicate k.toNat xs).flatten))
theorem len_rep {α : Type} (xs : List α) (k : Nat) : (List.replicate k xs).flatten.length = k * xs.length := by
  induction k with
  | zero => simp
  | succ k ih => rw [List.replicate_succ, List.flatten_cons, List.length_append, ih, Nat.succ_mul, Nat.add_comm]
theorem op_rep : OpR X (binaryOp .Mult) rRep := by
  intro pins s σ H x y v u Q I rx ry h
  obtain ⟨l, k, xs, rfl, rfl, hH, h1, h2, hz, q⟩ := h
  cases rx
  obtain ⟨t, rfl⟩ := ry
  obtain ⟨z, its, n, r, hl, e⟩ := I.lstM hH
  have hlen : its.toArray.size * k.toNat ≤ sizeLine := by rw [List.size_toArray, ← hl]; exact hz
  have hcap : ¬ its.toArray.size * k.toNat > (2 ^ 63 - 1) / 8 := by
    have : (sizeLine : Nat) ≤ (2 ^ 63 - 1) / 8 := by decide
    omega
  have hfit : ¬ (!Builtin.List.listFitsIndex k) = true := by
    rw [fitsIndex_both h1 h2]
    exact Bool.false_ne_true
  have hlong : ¬ Builtin.List.listTooLong (its.toArray.size * k.toNat) = true := by
    rw [notLongL hlen]
    exact Bool.false_ne_true
  have hnew : List.foldl (fun x1 x2 => x1 ++ x2) #[] (List.replicate (if its.toArray.isEmpty = true then 0 else k.toNat) its.toArray) = (List.replicate k.toNat its).flatten.toArray := by
    have f0 : ∀ m : Nat, List.foldl (fun x1 x2 => x1 ++ x2) #[] (List.replicate m its.toArray) = (List.replicate m its).flatten.toArray := fun m => by
      have := foldl_rep its m []
      rw [List.nil_append] at this
      exact this
    rw [f0]
    cases its with
    | nil => simp
    | cons a r' => rw [if_neg (by simp)]
  refine wpAny_binaryOp_repeat_ref (T := "list") (U := "int") (by decide) ⟨_, e, rfl⟩ (fun s' => typeIs_int s' k t) noFill_list_mul F.fills_int_mul F.slot_int_rmul repeat_list F.slot_int_index.lookup
    (call_meets F.slot_int_rmul (typeIs_int s k t) F.entry_int_rmul (F.args_int_rmul_2 _ _) (int___rmul___int_list k t l its.toArray n)
      ⟨e, rfl, ⟨_, e, rfl⟩, call_meets F.slot_list_mul ⟨_, e, rfl⟩ F.entry_list_mul (F.args_list_mul_2 _ _) (AutoListH.list___mul___list_int_3 l its.toArray n k t hfit hcap hlong) ⟨e, ?_⟩⟩)
  rw [hnew]
  exact ⟨.ref _, _, I.lnew (t' := s.toks) (r.rep k.toNat) (by rw [len_rep, Nat.mul_comm]; exact hz), rfl, q _ I.fresh⟩

/-! ### del xs[i] -/
end

/-! ### xs[a:b] = ys -/
section
variable {prog : Program} {w : World} {A : Around} {E : Value → Shared → Prop} {s : Shared}
set_option maxRecDepth 100000 in
end

section
variable {X : Cx}
end
end L2

namespace Att
open PySem PySem.W PySem.Calls PyProof.Rows

/-! ### the script -/
theorem ints_of_wellAll {P : Params} {h : Heap} : ∀ (ns : List Int) (vs : List Value), WellAll P h vs (ns.map WData.int) → IntsAre vs ns := by
  intro ns
  induction ns with
  | nil =>
    intro vs w
    rw [List.map_nil] at w
    cases w
    exact .nil
  | cons n ns ih =>
    intro vs w
    rw [List.map_cons] at w
    cases w with
    | cons a b =>
      cases a
      exact .cons _ _ (ih _ b)

theorem script_of {l : OpenLaw} {n : Nat} (hn : l.most = some n) {P : Params} {h : Heap} {args : List WData} {vals : List Value}
    (hpre : l.row.toRowW.claim.pre args = true) (hwl : WellAll P h vals args) :
    ∃ a vs ns, vals = [Value.ref a] ∧ args = [WData.list (ns.map WData.int)] ∧ h.get? a = some { cls := .type "list", data := .seq vs.toArray } ∧ IntsAre vs ns ∧ ns.length ≤ n := by
  have hsh : WShape.hasAll [] args [.list .int] = true := (pre_splitW hpre).1
  have hc : l.pre.holds [] { args := args } = true := (pre_splitW hpre).2
  obtain ⟨d, r, rfl, h1, h2⟩ := hasAllW_cons hsh
  obtain rfl := hasAllW_nil h2
  obtain ⟨xs, rfl, h3⟩ := hasW_list h1
  obtain ⟨ns, rfl⟩ := items_int h3
  have hlen : ns.length ≤ n := by
    unfold OpenLaw.pre at hc
    have h4 : (WTm.not (.lt (.lit (.int (n : Int))) (.len (.arg 0)))).holds [] { args := [.list (ns.map .int)] } = true := by
      have h4 := (holds_andW hc).1
      rw [hn] at h4
      exact h4
    have h5 := condW_of h4 (w_not (w_lt w_lit (w_len_list (w_arg rfl))))
    rw [List.length_map] at h5
    refine Nat.le_of_not_lt fun q => ?_
    have q' : (n : Int) < ((ns.length : Nat) : Int) := by omega
    first
      | (rw [decide_eq_true q'] at h5; exact absurd h5 (by decide))
      | (simp at h5; omega)
  cases hwl with
  | cons w1 w2 =>
    cases w2
    cases w1 with
    | list ho hall => exact ⟨_, _, ns, rfl, rfl, ho, ints_of_wellAll ns _ hall, hlen⟩

theorem post_true (l : OpenLaw) (args : List WData) : l.row.toRowW.claim.post args (.bool true) args = true :=
  postW_of (r := l.row.toRowW) (X := (true == true))
    (show WShape.has [] (.bool true) .bool = true by first | rfl | decide | simp [WShape.has, WShape.arms, WShape.armsAll])
    (show (WTm.eq .res (.lit (.bool true))).value [] { args := args, res := some (.bool true), after := args } = some (.bool (true == true)) from w_eq_bool (w_res rfl) w_lit) rfl

/-! ### the attachment: holds_open's last premise (the goal 'hc' behind k_head) from a wpAny of the law's body -/
/-- the same from a codeAny of the CALL (for a layer whose function contracts speak of calls) -/
theorem attach_call {l : OpenLaw} {n : Nat} {q : Program} {loose : List Str} {XP : (Str → Option Value) → Heap → Prop} {YP : World → Heap → Prop} {d : DefRec}
    (hn : l.most = some n) (hdf : d.params.defaults = [])
    (call : ∀ (w : World) (s₀ s₁ : Shared) (mg mb : Str → Option Value) (fa : Addr) (o : Obj) (pm cd doc : Value) (a : Addr) (vs : List Value) (ns : List Int),
      Ground q loose [] XP w s₀ mg mb s₁.heap → YP w s₁.heap →
      s₁.heap.get? fa = some o → o.data = .func (docDef d.name d.params d.body d.scope pm cd doc) → s₁.heap.CodeRec cd d.name → mg d.name = some (.ref fa) →
      s₁.heap.get? a = some { cls := .type "list", data := .seq vs.toArray } → IntsAre vs ns → ns.length ≤ n → s₁.gens = #[] →
      codeAny (model l.prog w) callerA (.call (.ref fa) ⟨[.ref a], []⟩) (fun r s' => r = .ok (.ret (.bool true)) ∧ OldK s₁.heap s'.heap ∧ s'.os = s₁.os ∧ AllBare s'.gens) s₁) :
    WalkO q loose XP YP l.row.toRowW d [] (fun f vs => PySem.call f vs) := by
  intro w s₀ s₁ mg mb G Y fa o pm cd doc dV kV ho hd hcd hD hmg hg args vals as hpre hlay hrd hwl hlo
  obtain rfl : dV = .none := Dflts.none hD hdf
  obtain rfl : kV = .none := Dflts.noKw hD
  obtain ⟨a, vs, ns, rfl, rfl, hobj, hints, hlen⟩ := script_of hn hpre hwl
  refine enter_call (codeAny_mono (call w s₀ s₁ mg mb fa o pm cd doc a vs ns G Y ho (fd_plain hd) hcd hmg hobj hints hlen hg) fun r s' hq => ?_)
  obtain ⟨rfl, h2, h3, h4⟩ := hq
  exact ⟨.inl ⟨.bool true, .bool true, [], rfl, fun _ => rfl, .bool true, post_true l _, fun _ => ⟨List.Pairwise.nil, fun _ hm => (nomatch hm)⟩⟩, h2, h3, h4⟩

/-! ### rules over ANY heap (no ledger) from facts about the written part K: the library's own take a ledger (News) for what they write -/
section
variable {prog : Program} {w : World} {A : Around} {E : Value → Shared → Prop} {s : Shared} {K : Frag}

/-! the whole heap as the ledger: makes every rule that writes through a ledger a rule over any heap -/
def ledger (h : Heap) (L d : Addr) : List (Addr × Obj) := (List.range h.objs.size).filterMap fun a => if a = L ∨ a = d then none else (h.get? a).map fun o => (a, o)
end
end Att

namespace L2
open PySem PySem.Spec PyProof.Rows

theorem vals_ints : ∀ {vs : List Value} {ns : List Int}, IntsAre vs ns → Vals (ns.map V.int) vs
  | _, _, .nil => .nil
  | _, _, .cons n t h => .cons ⟨t, rfl⟩ (vals_ints h)

/-- nothing is tracked but the script, known to the object (or it is an object of the module) -/
def Only (H : Hp) : Prop := ∀ b, H b = none ∨ ∃ o xs, H b = some (.frz o (.lst xs))

/-- THE HEAD: the law's promise, at the heap behind the top. F, the promise of the law's def, may use that base is part of the heap (so K.In base, base.Ns mainGlobals mg stand in Mod) -/
theorem law_call {P : Program} {w : World} {K : PySem.W.Frag} {mg mb : Str → Option Value} {CX : CXT} {k : Nat} {fa a : Addr} {fd : FuncData} {x : Str} {sp : Sp} {s₁ : Shared} {vs : List Value} {ns : List Int}
    (KX : K.In s₁.heap) (hns : s₁.heap.Ns mainGlobals mg) (hb : s₁.heap.Ns builtinsNs mb) (hbb : ∀ x : Str, x ≠ "__name__" → mb x = bootBuiltins x) (hlim : s₁.heap.NoLimit) (hg : s₁.gens = #[])
    (ha : s₁.heap.get? a = some { cls := .type "list", data := .seq vs.toArray }) (hi : IntsAre vs ns) (hl : ns.length ≤ sizeLine) (hr : Room k callerA)
    (F : ∀ base : Heap, K.In base → base.Ns mainGlobals mg → FnOk P w K mg base CX k fa fd [x] sp) (hbind : ∀ (s : Shared) (u : Value), BindsTo s fd ⟨[u], []⟩ [(x, u)])
    (hsp : ∀ H : Hp, Only H → SqL K H a (ns.map V.int) → sp [.ref a] H (fun v _ => v = .bl true) fun _ _ _ => False)
    (hCX : ∀ H e s', CX [] H s₁ (fun _ _ _ => False) e s' → False) :
    codeAny (model P w) callerA (.call (.ref fa) ⟨[.ref a], []⟩) (fun r s' => r = .ok (.ret (.bool true)) ∧ OldK s₁.heap s'.heap ∧ s'.os = s₁.os ∧ AllBare s'.gens) s₁ := by
  have rv := vals_ints hi
  have lenV := hi.length
  -- from an abstract heap in which nothing but the script may be tracked
  have core : ∀ H : Hp, Only H → SqL K H a (ns.map V.int) → HOk P w H s₁.heap → (∀ b, H b ≠ none → b = a) → (H a ≠ none → K.lookup a = none) →
      codeAny (model P w) callerA (.call (.ref fa) ⟨[.ref a], []⟩) (fun r s' => r = .ok (.ret (.bool true)) ∧ OldK s₁.heap s'.heap ∧ s'.os = s₁.os ∧ AllBare s'.gens) s₁ := by
    intro H hO hS hok hA hK
    have base_of : ∀ {b : Addr} {o : Obj}, s₁.heap.get? b = some o → H b = none → (hidT s₁.heap H).get? b = some o := fun e n => hidT_get e n
    have noA : ∀ {b : Addr} {o : Obj} {es : Array DictEntry} {ep : Nat}, s₁.heap.get? b = some o → o.data = .dict es ep → H b = none := fun {b o es ep} e d => by
      cases q : H b with
      | none => rfl
      | some u =>
        have e' : b = a := hA b (by rw [q]; simp)
        subst e'
        rw [ha] at e; cases e
        have d' : Data.seq vs.toArray _ = Data.dict es ep := d
        cases d'
    have nsK : ∀ {b : Addr} {m : Str → Option Value}, s₁.heap.Ns b m → (hidT s₁.heap H).Ns b m := fun {b m} ⟨o, es, ep, e, d, r⟩ => ⟨o, es, ep, base_of e (noA e d), d, r⟩
    have hKb : K.In (hidT s₁.heap H) := fun b o e => base_of (KX b o e) (by
      cases q : H b with
      | none => rfl
      | some u =>
        have e' : b = a := hA b (by rw [q]; simp)
        subst e'
        rw [hK (by rw [q]; simp)] at e; cases e)
    have hM : Mod K mg (hidT s₁.heap H) := ⟨hKb, nsK hns, ⟨mb, nsK hb, hbb⟩, let ⟨mc, h1, h2⟩ := hlim; ⟨mc, nsK h1, h2⟩⟩
    have e0 : Env0 P w K mg (hidT s₁.heap H) callerA [] s₁ H := ⟨rfl, hM, fun b o e => of_hidT e, Nat.le_of_eq (hidT_size _ _), trivial, fun b hb => absurd (show b ∈ ([] : List Addr) from hb) (by simp), hok, .of_eq hg⟩
    refine codeAny_mono ((F _ hKb (nsK hns)).run callerA [] s₁ H ⟨[.ref a], []⟩ [.ref a] [.ref a] _ _ hr e0 (hbind s₁ (.ref a)) (.cons rfl .nil) (hsp H hO hS)) fun r s' h => ?_
    cases r with
    | error e => exact (hCX H e s' h).elim
    | ok fl =>
      cases fl with
      | next => exact False.elim h
      | brk => exact False.elim h
      | cont => exact False.elim h
      | ret u =>
        obtain ⟨v, H', os, bare, un, hok', r', q⟩ := h
        have q' : v = .bl true := q
        subst q'
        obtain rfl : u = Value.bool true := r'
        refine ⟨rfl, OldK.of_keep fun b o e => ?_, os, bare⟩
        cases q : H b with
        | none => exact un.keep b o e q (by intro z; exact absurd (show b ∈ ([] : List Addr) from z) (by simp)) (by simp)
        | some u =>
          rcases hO b with z | ⟨ob, xs, z⟩
          · rw [q] at z; cases z
          · have z2 := un.frzs b ob _ z
            obtain ⟨e1, _⟩ := hok b _ z
            obtain ⟨e2, _⟩ := hok' b _ z2
            rw [e] at e1; cases e1
            exact e2
  cases hk : K.lookup a with
  | some o =>
    -- the script is one of the module's own objects
    have e := KX a o hk
    rw [ha] at e
    cases e
    refine core (fun _ => none) (fun _ => .inl rfl) (.inr ⟨_, vs.toArray, _, hk, rfl, rfl, rfl, by rw [List.size_toArray, lenV]; exact hl, by simpa using rv⟩) (fun b u z => by have z' : (none : Option HO) = some u := z; cases z') (fun b z => absurd rfl z) fun z => absurd rfl z
  | none =>
    refine core (fun b => if b = a then some (.frz { cls := .type "list", data := .seq vs.toArray } (.lst (ns.map V.int))) else none) (fun b => ?_) (.inl (.inr ⟨{ cls := .type "list", data := .seq vs.toArray }, if_pos rfl⟩)) (fun b u z => ?_) (fun b z => ?_) fun _ => hk
    · by_cases hb : b = a
      · exact .inr ⟨_, _, if_pos hb⟩
      · exact .inl (if_neg hb)
    · by_cases hb : b = a
      · have z' := (if_pos hb).symm.trans z
        cases z'
        subst hb
        exact ⟨ha, by rw [List.length_map]; exact hl, vs, _, rv, ha⟩
      · have z' := (if_neg hb).symm.trans z
        cases z'
    · by_cases hb : b = a
      · exact hb
      · exact absurd (if_neg hb) z
end L2

namespace L2
open PySem PySem.Spec PyProof.Rows

/-- the goal that k_head leaves (case hc), from the law's promise. F gives the function object fd (K's own) once, then the promise over every base -/
theorem walk_of {l : PySem.W.OpenLaw} {n k : Nat} {q : Program} {loose : List Str} {XP : (Str → Option Value) → Heap → Prop} {YP : World → Heap → Prop} {d : DefRec} {K : Params → PySem.W.Frag} {CX : World → CXT} {sp : World → Sp} {x : Str}
    (hn : l.most = some n) (hn2 : n ≤ sizeLine) (hdf : d.params.defaults = []) (hr : Room k callerA)
    (hY : ∀ (w : World) (h : Heap), YP w h → (K w.params).In h)
    (F : ∀ (w : World) (mg : Str → Option Value) (fa : Addr) (h : Heap), (K w.params).In h → h.Ns mainGlobals mg → mg d.name = some (.ref fa) →
      ∃ fd : FuncData, (∀ (s : Shared) (u : Value), BindsTo s fd ⟨[u], []⟩ [(x, u)]) ∧
        ∀ base : Heap, (K w.params).In base → base.Ns mainGlobals mg → FnOk l.prog w (K w.params) mg base (CX w) k fa fd [x] (sp w))
    (hsp : ∀ (w : World) (H : Hp) (a : Addr) (ns : List Int), ns.length ≤ n → Only H → SqL (K w.params) H a (ns.map V.int) → sp w [.ref a] H (fun v _ => v = .bl true) fun _ _ _ => False)
    (hCX : ∀ (w : World) (H : Hp) (s : Shared) (e : Value) (s' : Shared), CX w [] H s (fun _ _ _ => False) e s' → False) :
    PySem.W.WalkO q loose XP YP l.row.toRowW d [] (fun f vs => PySem.call f vs) := by
  refine Att.attach_call hn hdf fun w s₀ s₁ mg mb fa o pm cd doc a vs ns G Y ho hd hcd hmg hobj hints hlen hg => ?_
  have KX := hY w _ Y
  obtain ⟨fd, hb, hF⟩ := F w mg fa _ KX G.T.g hmg
  exact law_call KX G.T.g G.T.b G.T.builtins G.T.nolimit hg hobj hints (Nat.le_trans hlen hn2) hr hF hb (fun H hO hS => hsp w H a ns hlen hO hS) fun H e s' => hCX w H s₁ e s'
end L2


/-! SHORT WORDS over the layer: a def of the text, its body, what a loop and a test want. -/
namespace L2
open PySem PySem.Spec PyProof.Rows

/-! ### the text by places -/
/-- the j-th statement of a class's body -/
def inClass (s : Stmt) (j : Nat) : Stmt := match s with
  | .ClassDef _ _ _ body _ _ _ _ _ _ _ => body.getD j (.Pass ⟨0, 0, 0, 0⟩)
  | _ => .Pass ⟨0, 0, 0, 0⟩
def defArgs (s : Stmt) : Arguments := match s with
  | .FunctionDef _ a _ _ _ _ _ _ _ _ => a
  | _ => { posonlyargs := [], args := [], vararg := none, kwonlyargs := [], kw_defaults := [], kwarg := none, defaults := [] }
def defBody (s : Stmt) : List Stmt := match s with
  | .FunctionDef _ _ b _ _ _ _ _ _ _ => b
  | _ => []
def defScope (s : Stmt) : Scope := match s with
  | .FunctionDef _ _ _ _ _ _ sc _ _ _ => sc
  | _ => { kind := .function, names := [], isGenerator := false, isCoroutine := false }

/-! ### no exception leaves a def -/
abbrev CX0 : CXT := fun _ _ _ _ _ _ => False
abbrev E0 : XK := fun _ _ _ => False
theorem pass0 {X : Cx} : Passes CX0 X E0 := fun _ _ _ _ _ _ _ h => h.elim

/-! ### a def (or method) of the text as it stands behind the top -/
structure Fun (K : PySem.W.Frag) (x qual : Str) (st : Stmt) (f : Addr) (fd : FuncData) : Prop where
  ex : ∃ (oc : Value) (od : Option Addr) (kV doc pm : Value) (an : Option Addr) (cdv ct : Value) (osl : Array (Option Value)),
    fd = PySem.W.fnOf x qual (defArgs st) (defBody st) (defScope st) .none kV doc pm an cdv ct ∧ K.lookup f = some ⟨oc, od, .func fd, osl⟩ ∧ PySem.W.codeIn K cdv qual = true
  kp : PySem.W.keepIn K (.ref f) = true
section
variable {P : Program} {w : World} {K : PySem.W.Frag} {mg : Str → Option Value} {base : Heap}
/-- THE RULE for a def: its body as a term of rules, and the reading of that term -/
theorem Fun.ok {x qual : Str} {st : Stmt} {f : Addr} {fd : FuncData} {N ps : List Str} {k : Nat} {sp : Sp} (F : Fun K x qual st f fd) (S : FnScope N ps (defScope st)) (len : ∀ vs H Q E, sp vs H Q E → vs.length = ps.length)
    (hbody : ∀ (cdv : Value) (A : Around) (outer : List Env) (s : Shared) (H : Hp) (vs : List V) (Q : VK) (E : XK), Room k (A.deeper (envOfC qual (defScope st) s.heap.objs.size f cdv)) → sp vs H Q E →
      ∃ t, PSs (cxOf CX0 P w K mg base N qual (defScope st) f cdv A outer s H E).nox (defBody st) t ∧ t { nx := fun _ H' => Q .non H', rt := Q } (start N vs) H) : FnOk P w K mg base CX0 (k + 1) f fd ps sp := by
  obtain ⟨oc, od, kV, doc, pm, an, cdv, ct, osl, rfl, lk, hcd⟩ := F.ex
  refine fn_of lk hcd S len fun A outer s H vs Q E hr hsp => ?_
  obtain ⟨t, h, q⟩ := hbody cdv A outer s H vs Q E hr hsp
  exact ⟨t, h.nox, q⟩
/-- how its arguments bind (no defaults): h is «fun _ _ _ _ _ _ us hl => match us, hl with | [_, _], _ => rfl», one _ a parameter -/
theorem Fun.binds {x qual : Str} {st : Stmt} {f : Addr} {fd : FuncData} {ps : List Str} (F : Fun K x qual st f fd)
    (h : ∀ (kV doc pm : Value) (an : Option Addr) (cdv ct : Value) (us : List Value), us.length = ps.length → bindArgs (PySem.W.fnOf x qual (defArgs st) (defBody st) (defScope st) .none kV doc pm an cdv ct) ⟨us, []⟩ = pure (ps.zip us)) : Binds K fd ps [] := by
  obtain ⟨oc, od, kV, doc, pm, an, cdv, ct, osl, rfl, lk, hcd⟩ := F.ex
  exact .all (h kV doc pm an cdv ct)
theorem fun_mk {x qual : Str} {st : Stmt} {f : Addr} {oc : Value} {od an : Option Addr} {osl : Array (Option Value)} {kV doc pm cdv ct : Value} (l : K.lookup f = some ⟨oc, od, .func (PySem.W.fnOf x qual (defArgs st) (defBody st) (defScope st) .none kV doc pm an cdv ct), osl⟩)
    (c : PySem.W.codeIn K cdv qual = true) (k : PySem.W.keepIn K (.ref f) = true) : Fun K x qual st f (PySem.W.fnOf x qual (defArgs st) (defBody st) (defScope st) .none kV doc pm an cdv ct) := ⟨⟨oc, od, kV, doc, pm, an, cdv, ct, osl, rfl, l, c⟩, k⟩
end
/-! ### expressions in short: the name that stands in the i-th slot -/
section
variable {X : Cx}
theorem pv (i : Nat) {x : Str} {pos : Pos} (hN : X.N[i]? = some x := by rfl) (hv : Vis X.env.scope x := by first | exact Or.inl rfl | exact Or.inr (Or.inl rfl) | exact Or.inr (Or.inr rfl)) (hd : (x == ("__debug__" : Str)) = false := by decide)
    (hcd : (x == ("__classdict__" : Str)) = false := by decide) : PE X (.Name x pos) (tVar i) := pe_var hN hv hd hcd
end

/-! ### tests -/
theorem iteF {A B : Prop} (h : B) : if false = true then A else B := by
  rw [if_neg Bool.false_ne_true]
  exact h
theorem iteT {A B : Prop} (h : A) : if true = true then A else B := by
  rw [if_pos rfl]
  exact h
theorem iteNS {c A B : Prop} [Decidable c] (hc : c) (h : B) : if (!decide c) = true then A else B := by
  rw [decide_eq_true hc]
  exact iteF h

/-! ### heaps -/
/-- all that was tracked is as it was -/
def Same (H H' : Hp) : Prop := ∀ b o, H b = some o → H' b = some o
theorem Same.refl (H : Hp) : Same H H := fun _ _ h => h
theorem Same.trans {H H1 H2 : Hp} (a : Same H H1) (b : Same H1 H2) : Same H H2 := fun c o h => b c o (a c o h)
theorem Same.free {H H' : Hp} (e : Same H H') {l : Addr} (h : H' l = Option.none) : H l = Option.none := by
  cases q : H l with
  | none => rfl
  | some o =>
    rw [e l o q] at h
    cases h
theorem Same.seq {K : PySem.W.Frag} {H H' : Hp} {a : Addr} {xs : List V} (e : Same H H') (h : SqL K H a xs) : SqL K H' a xs := by
  rcases h with (h | ⟨o, h⟩) | h
  · exact .inl (.inl (e _ _ h))
  · exact .inl (.inr ⟨o, e _ _ h⟩)
  · exact .inr h

end L2

section
namespace L2
open PySem PySem.Spec PyProof.Rows
/-! ### more rules: texts, ranges down, comprehensions -/
section
variable {X : Cx}
theorem strs_of : ∀ {ys : List Str} {its : List Value}, Vals (ys.map V.str) its → StrsAre its ys
  | [], _, .nil => .nil
  | _ :: _, _, .cons ⟨_, e⟩ r => by subst e; exact .cons _ _ (strs_of r)
/-- sep.join(a list of texts) -/
theorem mt_join : MtR X "str.join" (fun x xs H Q => ∃ y a ys, x = .str y ∧ xs = [.ref a] ∧ SqL X.K H a (ys.map V.str) ∧ (ys.map (·.length)).sum + ys.length * y.length ≤ 16777216 ∧ Q (.str (Txt.join y ys)) H) := by
  intro pins s σ H x xs v us Q I rx rv h
  obtain ⟨y, a, ys, rfl, rfl, hq, hz, q⟩ := h
  obtain ⟨t, rfl⟩ := rx
  obtain ⟨u, rfl, ru⟩ := rv.one
  cases ru
  obtain ⟨its, r, pl, _⟩ := I.list hq
  exact join_list pl.isList (by simpa using strs_of r) hz fun t' k => ⟨.str _, H, I.tok _, ⟨_, rfl⟩, q⟩
theorem op_mul_str : OpR X (binaryOp .Mult) (fun x y H Q => ∃ z i, x = .str z ∧ y = .int i ∧ i < 2 ^ 40 ∧ -(2 ^ 40) < i ∧ z.length * i.toNat ≤ sizeLine ∧ Q (.str (Txt.mul z i)) H) := by
  intro pins s σ H x y v u Q I rx ry h
  obtain ⟨z, i, rfl, rfl, h1, h2, h3, q⟩ := h
  obtain ⟨t, rfl⟩ := rx
  obtain ⟨t', rfl⟩ := ry
  refine SB.mul ⟨?_, fun h4 _ => ?_, fun h4 _ => ?_⟩ fun t' k => ⟨.str _, H, I.tok _, ⟨_, rfl⟩, q⟩
  · simp only [Bool.or_eq_false_iff, decide_eq_false_iff_not]; omega
  · intro c
    have hn : (0 : Int) < i := by omega
    have h63 := line63
    have e : (z.length : Int) * i ≤ 2 ^ 63 - 1 := by
      have : ((z.length * i.toNat : Nat) : Int) = (z.length : Int) * i := by rw [Int.natCast_mul]; congr 1; omega
      omega
    have := (Int.le_ediv_iff_mul_le hn).mpr e
    omega
  · unfold Builtin.Str.tooLong; simpa using h3
theorem sl_str : SlR X (fun x lo hi H Q => ∃ z, x = .str z ∧ z.length ≤ sizeLine ∧ Q (.str (Txt.slice z lo hi)) H) := by
  intro pins s σ H x v vl vu lo hi sl Q I rx hs pl pu h
  obtain ⟨z, rfl, hz, q⟩ := h
  obtain ⟨t, rfl⟩ := rx
  refine ⟨"str", _, F.slot_str_getitem.lookup, typeIs_str s z t, ?_⟩
  have fin : ∀ (t' : Tok) (k : Nat), EP X pins σ Q (.str (Txt.slice z lo hi) t') { s with toks := k } := fun t' k => ⟨.str _, H, I.tok _, ⟨_, rfl⟩, q⟩
  obtain ⟨o, ho, hc, hd⟩ := hs
  cases pl with
  | none =>
    cases pu with
    | none => exact wpAny_getItem_str_slice (l := none) (u := none) (st := none) ⟨o, ho, hc, hd⟩ rfl (post_val_or_str ⟨Nat.le_trans (Txt.slice_le z _ _) hz, fin⟩)
    | int j uj => exact wpAny_getItem_str_slice (l := none) (u := some (j, uj)) (st := none) ⟨o, ho, hc, hd⟩ rfl (post_val_or_str ⟨Nat.le_trans (Txt.slice_le z _ _) hz, fin⟩)
  | int i ui =>
    cases pu with
    | none => exact wpAny_getItem_str_slice (l := some (i, ui)) (u := none) (st := none) ⟨o, ho, hc, hd⟩ rfl (post_val_or_str ⟨Nat.le_trans (Txt.slice_le z _ _) hz, fin⟩)
    | int j uj => exact wpAny_getItem_str_slice (l := some (i, ui)) (u := some (j, uj)) (st := none) ⟨o, ho, hc, hd⟩ rfl (post_val_or_str ⟨Nat.le_trans (Txt.slice_le z _ _) hz, fin⟩)
/-- isinstance(x, T), T a built-in type -/
theorem call_isinst : CallR X (.builtin "isinstance") (fun xs H Q => ∃ x T t b, xs = [x, .ty T] ∧ TyOf X.K H x t ∧ PySem.W.kitOne X.K t (.type T) = some b ∧ Q (.bl b) H) := by
  intro pins s σ H xs us Q I r h
  obtain ⟨x, T, t, b, rfl, ty, e, q⟩ := h
  obtain ⟨u, w', rfl, r1, r2⟩ := vals2 r
  cases (show w' = Value.type T from r2)
  exact isinst_ok I r1 ty e fun tk => ⟨.bl b, H, I.tok _, rfl, q⟩
/-- isinstance(x, C), C a class of the text -/
theorem call_isinstC : CallR X (.builtin "isinstance") (fun xs H Q => ∃ x C t b, xs = [x, .ref C] ∧ TyOf X.K H x t ∧ PySem.W.kitOne X.K t (.ref C) = some b ∧ Q (.bl b) H) := by
  intro pins s σ H xs us Q I r h
  obtain ⟨x, C, t, b, rfl, ty, e, q⟩ := h
  obtain ⟨u, w', rfl, r1, r2⟩ := vals2 r
  cases (show w' = Value.ref C from r2)
  exact isinst_ok I r1 ty e fun tk => ⟨.bl b, H, I.tok _, rfl, q⟩
end
/-! ### a range with a step -/
section
variable {X : Cx} {tg : Expr}
end
end L2

end

section
namespace L2
open PySem PySem.Spec PyProof.Rows
/-! ### range(a, b, -1) -/
section
variable {X : Cx} {tg : Expr}
end
/-! ### a text's signs -/
def Its (x : Str) : It := ⟨fun i _ => i < x.cps.size, fun i H v H' => H' = H ∧ ∃ c, x.cps[i]? = some c ∧ v = .str ⟨#[c]⟩, fun i _ => x.cps.size ≤ i⟩
section
variable {X : Cx} {tg : Expr}
theorem turn_str {P : Program} {w : World} {K : PySem.W.Frag} {tg : Expr} (x : Str) (it : Addr) (n : String) (t : Tok) (W : ∀ A' : Around, A'.handled = none → Walks P w A' it [it] [it] x.cps.size (SignAt x) (fun i h => h.IsStrIter it n x t i))
    (hn : ["enumerate", "zip", "dict_itemiterator", "dict_reverseitemiterator", "odict_iterator", "itertools.zip_longest", "itertools.pairwise"].contains n = false)
    (hdone : ∀ (A : Around) (i : Nat) (s : Shared) (Q : Option Value → Shared → Prop) (E : Value → Shared → Prop), A.handled = none → s.heap.IsStrIter it n x t i → x.cps.size ≤ i → (∀ h', (∀ b o, b ≠ it → s.heap.get? b = some o → h'.get? b = some o) → Q none { s with heap := h' }) → wpAny (model P w) A (pyNext (.ref it)) Q E s)
    (hself : ∀ (A : Around) (i : Nat) (s : Shared) (Q : Value → Shared → Prop) (E : Value → Shared → Prop), s.heap.IsStrIter it n x t i → Q (.ref it) s → wpAny (model P w) A (pyIter (.ref it)) Q E s) :
    Turn P w K tg (Its x) [it] it (fun i h => h.IsStrIter it n x t i) where
  mem := by simp
  obj := fun i h st b hb => by
    have e : b = it := by simpa using hb
    subst e
    obtain ⟨o, ho, hc, hd⟩ := st
    exact ⟨o, ho, fun v z => by rw [hd] at z; cases z⟩
  keep := fun i h h' st k => by
    obtain ⟨o, ho, r⟩ := st
    exact ⟨o, k it (by simp) o ho, r⟩
  item := by
    intro X hP hw hK hc i pins s σ H E I hf st hg
    subst hP hw hK
    obtain ⟨f0, f1, f2, f3, f4, f5⟩ := hf it (by simp)
    refine (W X.A (I.ok.hd hc)).item i s _ _ hg st fun v h' tk hv st' kk => ?_
    obtain ⟨c, u, hc', rfl⟩ := hv
    have I1 : Inv X pins σ H { s with heap := h', toks := tk } := I.turned (fun b o hb e => kk b o (by simpa using hb) e) f0 f1 f3 f4 f5
    obtain ⟨o, ho, hcl, hd⟩ := id st'
    exact ⟨_, rfl, go_of (s := { s with heap := h', toks := tk }) (n := n) ho hcl hd hn ⟨.str ⟨#[c]⟩, H, I1, ⟨u, rfl⟩, ⟨rfl, c, hc', rfl⟩, st', fun b hb => (hf b hb).1⟩⟩
  done := by
    intro X hP hw hK hc i pins s σ H E I hf st hg
    subst hP hw hK
    obtain ⟨f0, f1, f2, f3, f4, f5⟩ := hf it (by simp)
    exact hdone X.A i s _ _ (I.ok.hd hc) st hg fun h' eb => ⟨rfl, I.turned (t' := s.toks) (fun b o hb e => eb b o hb e) f0 f1 f3 f4 f5⟩
  self := fun A i s Q E st h => hself A i s Q E st h
def iStr (tl : TE) : TI := fun σ H R => tl σ H fun x H1 => ∃ y, x = .str y ∧ R (Its y) H1
theorem pi_str {l : Expr} {tl : TE} (hl : PE X l tl) : PI X tg l (iStr tl) := by
  intro pins s σ H R I h
  refine thn (hl pins s σ H _ I h) fun v s1 ⟨x, H1, I1, r1, q1⟩ => ?_
  obtain ⟨y, e, q⟩ := q1
  subst e
  obtain ⟨t, rfl⟩ := r1
  have fin : ∀ (o : Obj) (tn : Nat → Heap → Prop), Turn X.prog X.w X.K tg (Its y) [s1.heap.objs.size] s1.heap.objs.size tn → tn 0 (s1.heap.push o) → PIE X pins σ tg R (.ref s1.heap.objs.size) { s1 with heap := s1.heap.push o } := fun o tn T h0 => by
    refine ⟨s1.heap.objs.size, [s1.heap.objs.size], tn, Its y, H1, rfl, I1.kept (t' := s1.toks) fun b o e => Heap.get?_push_of_some _ e, T, h0, fun b hb => ?_, q⟩
    have e := List.mem_singleton.mp hb
    subst e
    exact I1.fpOk (Nat.le_refl _) (I1.hok.fresh (Nat.le_refl _))
  cases ha : y.cps.all (· < 128)
  · refine wpAny_pyIter_wide ha (fin _ _ (turn_str y _ "str_iterator" t (fun A' hA => Walks.strWide hA _ y t) (by decide) (fun A i s Q E hh st hi hQ => ?_) fun A i s Q E st hq => wpAny_pyIter_striter_wide st hq) ⟨_, Heap.get?_push_size _ rfl, rfl, rfl⟩)
    exact wpAny_pyNext_wide_end hh st (by simpa using hi) fun h' he' => hQ h' fun b o hb e => he' b o hb e
  · refine wpAny_pyIter_ascii ha (fin _ _ (turn_str y _ "str_ascii_iterator" t (fun A' hA => Walks.strAscii hA _ y t) (by decide) (fun A i s Q E hh st hi hQ => ?_) fun A i s Q E st hq => wpAny_pyIter_striter_ascii st hq) ⟨_, Heap.get?_push_size _ rfl, rfl, rfl⟩)
    exact wpAny_pyNext_ascii_end hh st (by simpa using hi) fun h' he' => hQ h' fun b o hb e => he' b o hb e
end
/-! ### list comprehensions -/
/-- what is asked of a comprehension's scope: cs the names that it takes from around -/
def compScopeOk (sc : Scope) (cs : List Str) : Bool :=
  sc.kind == .function && sc.names.all (fun y => y.2 != .cell) && sc.names.all (fun y => y.2 != .local || sc.names.lookup y.1 == some .local) &&
    sc.names.all (fun y => y.2 != .free || cs.contains y.1) && cs.all (fun x => sc.names.lookup x == some .free)
/-- the captured names: place in the frame around, name -/
def CapsOk (X : Cx) : List (Nat × Str) → Prop
  | [] => True
  | (j, x) :: r => X.N[j]? = some x ∧ (X.env.kindOf x = some .cell ∨ X.env.kindOf x = some .free) ∧ CapsOk X r
theorem CapsOk.at {X : Cx} : ∀ {cs : List (Nat × Str)}, CapsOk X cs → ∀ p ∈ cs, X.N[p.1]? = some p.2 ∧ (X.env.kindOf p.2 = some .cell ∨ X.env.kindOf p.2 = some .free)
  | [], _, _, h => nomatch h
  | (j, x) :: r, ⟨h1, h2, h3⟩, p, h => by
    rcases List.mem_cons.mp h with e | e
    · subst e; exact ⟨h1, h2⟩
    · exact CapsOk.at h3 p e
def cxComp (X : Cx) (scope : Scope) (cl : List (Str × Addr)) (C : Addr) (N : List Str) (s2 : Shared) (H2 : Hp) (fp : List Addr) : Cx where
  prog := X.prog
  w := X.w
  K := X.K
  mg := X.mg
  base := X.base
  A := X.A
  N := N
  s₀ := s2
  H₀ := H2
  env := compEnvC scope cl C X.env
  outer := X.stack
  stack := X.stack
  ex := fp
  calm := X.calm
  fn := fun _ => false
  pn := []
  xe := fun _ _ => False
theorem closure_of {env : Env} : ∀ (names : List (Str × NameKind)), (∀ y ∈ names, y.2 = .free → ∃ c, env.cells.lookup y.1 = some c) →
    ∀ acc : List (Str × Addr), (∀ x c, acc.lookup x = some c → env.cells.lookup x = some c) → ∃ cl,
    (forIn names acc fun (x : Str × NameKind) r => do
      if x.2 == .free then pure (ForInStep.yield ((x.1, ← cellOf env x.1) :: r)) else pure (ForInStep.yield r) : Sem (List (Str × Addr))) = pure cl ∧
    (∀ x c, cl.lookup x = some c → env.cells.lookup x = some c) ∧ (∀ y ∈ names, y.2 = .free → ∃ c, cl.lookup y.1 = some c) ∧ ∀ x c, acc.lookup x = some c → ∃ c', cl.lookup x = some c'
  | [], _, acc, ha => ⟨acc, rfl, ha, (fun _ h => nomatch h), fun _ c h => ⟨c, h⟩⟩
  | (n, k) :: r, hn, acc, ha => by
    by_cases hk : k = .free
    · subst hk
      obtain ⟨c, hc⟩ := hn _ List.mem_cons_self rfl
      have ha' : ∀ x c', ((n, c) :: acc).lookup x = some c' → env.cells.lookup x = some c' := fun x c' e => by
        rw [List.lookup_cons] at e
        by_cases hx : x = n
        · subst hx
          rw [beq_self_eq_true] at e
          cases e
          exact hc
        · rw [beq_false_of_ne hx] at e
          exact ha x c' e
      obtain ⟨cl, e, h1, h2, h3⟩ := closure_of r (fun y hy => hn y (List.mem_cons_of_mem _ hy)) ((n, c) :: acc) ha'
      refine ⟨cl, ?_, h1, fun y hy hf => ?_, fun x c' hx => ?_⟩
      · rw [List.forIn_cons]
        simp only [cellOf, hc, beq_self_eq_true, if_true]
        exact e
      · rcases List.mem_cons.mp hy with e' | e'
        · subst e'
          exact h3 n c (by rw [List.lookup_cons, beq_self_eq_true])
        · exact h2 y e' hf
      · by_cases hxn : x = n
        · subst hxn
          exact h3 x c (by rw [List.lookup_cons, beq_self_eq_true])
        · exact h3 x c' (by rw [List.lookup_cons, beq_false_of_ne hxn]; exact hx)
    · obtain ⟨cl, e, h1, h2, h3⟩ := closure_of r (fun y hy => hn y (List.mem_cons_of_mem _ hy)) acc ha
      refine ⟨cl, ?_, h1, fun y hy hf => ?_, h3⟩
      · rw [List.forIn_cons]
        have hb : (k == NameKind.free) = false := by simpa using hk
        simp only [hb, Bool.false_eq_true, if_false]
        exact e
      · rcases List.mem_cons.mp hy with e' | e'
        · subst e'
          exact absurd hf hk
        · exact h2 y e' hf
end L2

end

section
namespace L2
open PySem PySem.Spec PyProof.Rows
/-- the turns of a comprehension over J from the block's frame σ0 on, its list at D -/
def CompGo (J : It) (g : TG) (tc : TT) (te : TE) (Q : VK) (σ0 : St) (H1 : Hp) (D : Addr) : Prop :=
  ∃ W : Nat → Nat → St → Hp → Prop, (∃ m, W 0 m σ0 (upd H1 D (.lst []))) ∧ ∀ i m σ1 H2, W i m σ1 H2 →
    (J.stop i H2 ∧ Q (.ref D) H2) ∨
    (J.go i H2 ∧ ∀ x H3, J.yld i H2 x H3 → g x σ1 H3 fun σ2 H4 => tc σ2 H4 fun b H5 =>
      if b = true then te σ2 H5 fun y H6 => ∃ xs m', H6 D = some (.lst xs) ∧ xs.length < sizeLine ∧ m' < m ∧ W (i + 1) m' σ2 (upd H6 D (.lst (xs ++ [y])))
      else ∃ m', m' < m ∧ W (i + 1) m' σ2 H5)
def tComp (wi : TI) (g : TG) (tc : TT) (te : TE) (σ0 : St → St) : TE := fun σ H Q => wi σ H fun J H1 => ∀ D, H1 D = none → CompGo J g tc te Q (σ0 σ) H1 D
def tYes : TT := fun _ H Q => Q true H
/-- the tests of a comprehension -/
def PTs (X : Cx) (ifs : List Expr) (t : TT) : Prop :=
  ∀ (pins : List (Addr × Obj)) (s : Shared) (σ : St) (H : Hp) (Q : Bool → Hp → Prop), Inv X pins σ H s → t σ H Q →
    wpAny (model X.prog X.w) X.A (forIn ifs true fun c r => if r = true then do let ok ← isTrue c X.env (eval c X.env); pure (ForInStep.yield ok) else pure (ForInStep.yield r)) (TP X pins σ Q) X.xe s
theorem pts_nil {X : Cx} : PTs X [] tYes := fun _ _ _ H _ I h => wpAny_tests_nil ⟨H, I, h⟩
theorem pts_one {X : Cx} {c : Expr} {t : TT} (h : PT X c t) : PTs X [c] t := fun pins s σ H Q I q => wpAny_tests_one (h pins s σ H Q I q)
section
variable {prog : Program} {w : World} {A : Around} {E : Value → Shared → Prop} {R : Result → Shared → Prop} {s : Shared}
theorem compLoop_gen {elt target iter : Expr} {ifs : List Expr} {scope : Scope} {pos : Pos} {it acc : Value} {env : Env} (I : Nat → Shared → Prop)
    (turn : ∀ n s, I n s → wpAny (model prog w) A (pyNext it) (fun r s₁ => match r with
      | none => R (.ok .next) s₁
      | some v => wpAny (model prog w) A (letOwnedTupleGo target it v) (fun _ s₁' => wpAny (model prog w) A (assign target env v) (fun _ s₂ =>
          wpAny (model prog w) A (forIn ifs true fun c r => if r = true then do let ok ← isTrue c env (eval c env); pure (ForInStep.yield ok) else pure (ForInStep.yield r)) (fun ok s₃ =>
            if ok = true then wpAny (model prog w) A (eval elt env) (fun x s₄ =>
              wpAny (model prog w) A (call (.builtin "list.append") [acc, x]) (fun _ s₅ => ∃ m, m < n ∧ I m s₅) (notedBy (model prog w) A env fun e s' => R (.error e) s') s₄) (notedBy (model prog w) A env fun e s' => R (.error e) s') s₃
            else ∃ m, m < n ∧ I m s₃) (notedBy (model prog w) A env fun e s' => R (.error e) s') s₂) (notedBy (model prog w) A env fun e s' => R (.error e) s') s₁') (notedBy (model prog w) A env fun e s' => R (.error e) s') s₁) (notedBy (model prog w) A env fun e s' => R (.error e) s') s)
    (n : Nat) (h : I n s) :
    codeAny (model prog w) A (.compLoop (.ListComp elt [⟨target, iter, ifs, 0⟩] scope pos) 0 it acc env) R s := by
  refine codeAny_loop rfl I (fun n s hI => ?_) n h
  show wpAny _ A ((compTurn (.ListComp elt [⟨target, iter, ifs, 0⟩] scope pos) 0 it acc env).onRaise (fun x => do noteFrame x env; theTreesLotGoes x)) _ _ s
  refine wpAny_noted ?_
  rw [compTurn_list]
  refine wpAny_bind (wpAny_standAt (wpAny_bind (wpAny_mono (turn n s hI) (fun r s₁ h₁ => ?_) fun _ _ h' => h')))
  cases r with
  | none => exact wpAny_pure h₁
  | some v =>
    refine wpAny_bind (wpAny_mono h₁ (fun _ s₁' h₁' => ?_) fun _ _ h' => h')
    refine wpAny_bind (wpAny_mono h₁' (fun _ s₂ h₂ => wpAny_bind (wpAny_mono h₂ (fun ok s₃ h₃ => ?_) fun _ _ h' => h')) fun _ _ h' => h')
    cases ok with
    | false => exact wpAny_pure ⟨rfl, h₃⟩
    | true =>
      exact wpAny_bind (wpAny_bind (wpAny_mono h₃ (fun x s₄ h₄ => wpAny_bind (wpAny_mono h₄ (fun _ s₅ h₅ => wpAny_pure (wpAny_pure ⟨rfl, h₅⟩)) fun _ _ h' => h')) fun _ _ h' => h'))
end
section
variable {X : Cx} {elt target iter : Expr} {ifs : List Expr} {scope : Scope} {pos p : Pos} {caps : List (Nat × Str)} {tgs : List Str} {wi : TI} {g : TG} {tc : TT} {te : TE}
/-- the block's frame at its start -/
def compSt (tgs : List Str) (caps : List (Nat × Str)) : St → St := fun σ => List.replicate tgs.length none ++ caps.map fun p => (σ[p.1]?).join
theorem relabel_free {env : Env} : ∀ {names : List (Str × NameKind)} {x : Str}, names.lookup x = some .free →
    ((names.map fun (n, k) => if (k == NameKind.free && env.scope.kind == .function && env.kindOf n == some .cell) then (n, NameKind.cell) else (n, k)).lookup x = some .cell ∨
     (names.map fun (n, k) => if (k == NameKind.free && env.scope.kind == .function && env.kindOf n == some .cell) then (n, NameKind.cell) else (n, k)).lookup x = some .free)
  | [], _, h => by cases h
  | (n, k) :: r, x, h => by
    rw [List.lookup_cons] at h
    rw [List.map_cons]
    by_cases hx : x = n
    · subst hx
      rw [beq_self_eq_true] at h
      cases h
      dsimp only
      split
      · exact .inl (by rw [List.lookup_cons, beq_self_eq_true])
      · exact .inr (by rw [List.lookup_cons, beq_self_eq_true])
    · rw [beq_false_of_ne hx] at h
      have ih := relabel_free (env := env) h
      dsimp only
      split <;> (rw [List.lookup_cons, beq_false_of_ne hx]; exact ih)
theorem relabel_back {env : Env} : ∀ {names : List (Str × NameKind)} {x : Str}, ((names.map fun (n, k) => if (k == NameKind.free && env.scope.kind == .function && env.kindOf n == some .cell) then (n, NameKind.cell) else (n, k)).lookup x = some .cell ∨
     (names.map fun (n, k) => if (k == NameKind.free && env.scope.kind == .function && env.kindOf n == some .cell) then (n, NameKind.cell) else (n, k)).lookup x = some .free) → (∀ y ∈ names, y.2 ≠ .cell) → names.lookup x = some .free
  | [], _, h, _ => by rcases h with h | h <;> cases h
  | (n, k) :: r, x, h, hn => by
    rw [List.lookup_cons]
    by_cases hx : x = n
    · subst hx
      rw [beq_self_eq_true]
      have hk := hn _ List.mem_cons_self
      rw [List.map_cons] at h
      dsimp only at h
      split at h
      · rename_i c
        simp only [Bool.and_eq_true, beq_iff_eq] at c
        exact congrArg some c.1.1
      · rw [List.lookup_cons, beq_self_eq_true] at h
        rcases h with h | h
        · cases h; exact absurd rfl hk
        · exact h
    · rw [beq_false_of_ne hx]
      refine relabel_back (env := env) ?_ fun y hy => hn y (List.mem_cons_of_mem _ hy)
      rw [List.map_cons] at h
      dsimp only at h
      split at h <;> (rw [List.lookup_cons, beq_false_of_ne hx] at h; exact h)
theorem mem_lookup_free : ∀ {names : List (Str × NameKind)} {x : Str} {k : NameKind}, names.lookup x = some k → (x, k) ∈ names
  | [], _, _, h => by cases h
  | (n, k') :: r, x, k, h => by
    rw [List.lookup_cons] at h
    by_cases hx : x = n
    · subst hx
      rw [beq_self_eq_true] at h
      cases h
      exact List.mem_cons_self
    · rw [beq_false_of_ne hx] at h
      exact List.mem_cons_of_mem _ (mem_lookup_free h)
set_option maxHeartbeats 1000000
theorem comp_core {use : Option (Value → Sem Unit)} {Qf : Value → Shared → Prop} {pins : List (Addr × Obj)} {σ : St} {H : Hp} {s : Shared} {Q : VK}
    (hc : X.calm = true) (hsc : compScopeOk scope (caps.map (·.2)) = true) (hcap : CapsOk X caps) (hi : PI X target iter wi)
    (hg : ∀ cl C s2 H2 fp, PG (cxComp X scope cl C (tgs ++ caps.map (·.2)) s2 H2 fp) target g)
    (ht : ∀ cl C s2 H2 fp, PTs (cxComp X scope cl C (tgs ++ caps.map (·.2)) s2 H2 fp) ifs tc)
    (he : ∀ cl C s2 H2 fp, PE (cxComp X scope cl C (tgs ++ caps.map (·.2)) s2 H2 fp) elt te)
    (I : Inv X pins σ H s) (h : tComp wi g tc te (compSt tgs caps) σ H Q)
    (fin : ∀ D C H' s', Inv X pins σ H' s' → Q (.ref D) H' → H' C = none → C ≠ X.env.locals → X.s₀.heap.objs.size ≤ C → (∀ x c, X.env.cells.lookup x = some c → c ≠ C) → (∀ p ∈ X.pn ++ pins, p.1 ≠ C) → (∃ m, s'.heap.Ns C m) →
      compPost (model X.prog X.w) X.A X.xe use Qf (.ref D) C (.ok .next) s')
    (hs : ∀ x, foldedSetIterable iter X.env x = pure x := by intro _; rfl) :
    wpAny (model X.prog X.w) X.A (comprehension (.ListComp elt [⟨target, iter, ifs, 0⟩] scope pos) scope X.env p (newList []) false (eval iter X.env) use) Qf X.xe s := by
  simp only [compScopeOk, Bool.and_eq_true, List.all_eq_true, beq_iff_eq, bne_iff_ne, Bool.or_eq_true, List.contains_iff_mem] at hsc
  obtain ⟨⟨⟨⟨k1, k2⟩, k3⟩, k4⟩, k5⟩ := hsc
  have hnames : ∀ y ∈ scope.names, y.2 = .local → scope.names.lookup y.1 = some .local := fun y hy hl => (k3 y hy).resolve_left fun z => z hl
  have capAt := hcap.at
  have hfr : ∀ y ∈ scope.names, y.2 = .free → ∃ c, X.env.cells.lookup y.1 = some c := fun y hy hf => by
    have hm := (k4 y hy).resolve_left fun z => z hf
    obtain ⟨q, hq, e⟩ := List.mem_map.mp hm
    have := (capAt q hq).2
    rw [e] at this
    exact I.ok.has _ this
  obtain ⟨cl, hcl, hin, hall, _⟩ := closure_of scope.names hfr [] (fun x c e => by cases e)
  have hclos : closureFor scope X.env = pure cl := by
    refine (show closureFor scope X.env = (_ >>= pure) from rfl).trans ((congrArg (· >>= pure) hcl).trans ?_)
    rfl
  refine wpAny_comprehension_free (use := use) rfl hs hclos k1 hnames (thn (hi pins s σ H _ I h) fun v s1 h1 => thn h1 fun itv s2 h2 => ?_)
  obtain ⟨it, fp, tn, J, H2, e, I2, T, st2, f2, hW⟩ := h2
  subst e
  have fD : H2 s2.heap.objs.size = none := I2.fresh
  obtain ⟨W, ⟨m0, w0⟩, turn⟩ := hW _ fD
  refine wpAny_newObj_type (wpAny_newFunctionEnv k2 (by intro y hy; simp at hy) (fun h₁ hns₁ hsb₁ => ?_) k1)
  dsimp only at hns₁ hsb₁ ⊢
  generalize hH3 : s2.heap.push { cls := .type "list", dict := none, data := .seq ([] : List Value).toArray } = H3 at hns₁ hsb₁ ⊢
  have hC : H3.objs.size = s2.heap.objs.size + 1 := by rw [← hH3, Heap.size_push]
  have hDC : s2.heap.objs.size ≠ H3.objs.size := by rw [hC]; exact Nat.ne_of_lt (Nat.lt_succ_self _)
  have hCle : s2.heap.objs.size ≤ H3.objs.size := by rw [hC]; exact Nat.le_succ _
  have below : ∀ b, b < s2.heap.objs.size → b ≠ H3.objs.size := fun b hb => by rw [hC]; exact Nat.ne_of_lt (Nat.lt_succ_of_lt hb)
  have old : ∀ b o, s2.heap.get? b = some o → h₁.get? b = some o := fun b o e => hsb₁.extBut b o (below b (Heap.lt_size e)) (Heap.get?_push_of_some _ (hH3 ▸ Heap.get?_push_of_some _ e))
  have hacc : h₁.get? s2.heap.objs.size = some { cls := .type "list", dict := none, data := .seq ([] : List Value).toArray } := hsb₁.extBut _ _ hDC (Heap.get?_push_of_some _ (hH3 ▸ Heap.get?_push_size _ rfl))
  have fC : H2 H3.objs.size = none := I2.hok.fresh hCle
  have fpl : ∀ b ∈ fp, b < s2.heap.objs.size := fun b hb => by
    obtain ⟨o, ho, _⟩ := T.obj _ _ st2 b hb
    exact Heap.lt_size ho
  -- the block's context
  let X' := cxComp X scope cl H3.objs.size (tgs ++ caps.map (·.2)) s2 H2 fp
  have ok' : X'.Ok := by
    refine ⟨I2.ok.mod, k1, I2.ok.glob, I2.ok.blt, hCle, fun x y c hx hy => I2.ok.inj x y c (hin _ _ hx) (hin _ _ hy), fun x hx => ?_, (fun x c hf => nomatch hf), I2.ok.hd, I2.ok.frames, .inl rfl, fun b hb => ⟨below b (fpl b hb), fun x c hx => (f2 b hb).2.2.2.2.1 x c (hin _ _ hx)⟩, I2.bs,
      Nat.le_trans I2.ok.bsz I2.sz, fun b o e hb => ?_, fun b hb z => ?_, I2.stack, I2.stkFree⟩
    · exact hall (x, .free) (mem_lookup_free (relabel_back hx k2)) rfl
    · rcases (f2 b hb).2.2.2.1 with z | z
      · exact I2.ok.noex b o e z
      · exact absurd (Nat.lt_of_lt_of_le (Heap.lt_size e) I2.ok.bsz) (Nat.not_lt.mpr z)
    · rcases List.mem_cons.mp (I2.stkSub b z) with q | q
      · exact (f2 b hb).2.1 q
      · exact (f2 b hb).2.2.1 q
  have un4 : Un (frs X.stack) fp H2 (upd H2 s2.heap.objs.size (.lst [])) s2.heap h₁ := Un.laid old (Nat.le_refl _) fD
  have hok4 : HOk X.prog X.w (upd H2 s2.heap.objs.size (.lst [])) h₁ := I2.hok.laid old (Nat.le_refl _) ⟨Nat.zero_le _, [], 0, .nil, hacc⟩
  have I4 : ∀ tk, Inv X' [] (compSt tgs caps σ) (upd H2 s2.heap.objs.size (.lst [])) { s2 with heap := h₁, toks := tk } := fun tk => by
    refine ⟨ok', rfl, I2.bare, un4, ⟨_, hns₁, fun i x v e1 e2 e3 => ?_⟩, fun x c hx => ?_, ?_, fun x c hx => ?_, fun q hq => ?_, hok4, ?_⟩
    · -- a captured name
      obtain ⟨m2, _, hl2⟩ := I2.loc
      have hlt : tgs.length ≤ i := by
        rcases Nat.lt_or_ge i tgs.length with z | z
        · have : (compSt tgs caps σ)[i]? = some none := by
            unfold compSt
            rw [List.getElem?_append_left (by simpa using z), List.getElem?_replicate, if_pos z]
          rw [this] at e2
          cases e2
        · exact z
      have e1' : (tgs ++ caps.map (·.2))[i]? = some x := e1
      rw [List.getElem?_append_right hlt, List.getElem?_map] at e1'
      have e2' : (caps.map fun p => (σ[p.1]?).join)[i - tgs.length]? = some (some v) := by
        have : (compSt tgs caps σ)[i]? = (caps.map fun p => (σ[p.1]?).join)[i - tgs.length]? := by
          unfold compSt
          rw [List.getElem?_append_right (by simpa using hlt), List.length_replicate]
        rw [← this]
        exact e2
      rw [List.getElem?_map] at e2'
      cases hq : caps[i - tgs.length]? with
      | none => rw [hq] at e1'; cases e1'
      | some q =>
        rw [hq] at e1' e2'
        obtain rfl : q.2 = x := Option.some.inj e1'
        have e2'' : (σ[q.1]?).join = some v := Option.some.inj e2'
        have hσ : σ[q.1]? = some (some v) := by
          cases z : σ[q.1]? with
          | none => rw [z] at e2''; cases e2''
          | some y => rw [z] at e2''; exact congrArg some e2''
        have hqm : q ∈ caps := List.mem_of_getElem? hq
        obtain ⟨n1, n2⟩ := capAt q hqm
        have hvis : Vis X.env.scope q.2 := by
          rcases n2 with z | z
          · exact .inr (.inl z)
          · exact .inr (.inr z)
        obtain ⟨u, ru, lk⟩ := hl2 q.1 q.2 v n1 hσ hvis
        have hfree : scope.names.lookup q.2 = some .free := k5 q.2 (List.mem_map_of_mem hqm)
        refine ⟨u, ru, .inr ⟨relabel_free hfree, ?_⟩⟩
        rcases lk with ⟨z, _⟩ | ⟨_, c, hcc, oc, hoc, hocd⟩
        · rcases n2 with y | y <;> (rw [y] at z; cases z)
        · obtain ⟨c', hc'⟩ := hall (q.2, .free) (mem_lookup_free hfree) rfl
          have := hin _ _ hc'
          rw [hcc] at this
          cases this
          exact ⟨c, hc', oc, old _ _ hoc, hocd⟩
    · obtain ⟨v, o, ho, hd⟩ := I2.cell x c (hin _ _ hx)
      exact ⟨v, o, old _ _ ho, hd⟩
    · show upd H2 s2.heap.objs.size (.lst []) H3.objs.size = none
      rw [upd_ne (Ne.symm hDC)]
      exact fC
    · have hcf := I2.freeC x c (hin _ _ hx)
      obtain ⟨v, o, ho, hd⟩ := I2.cell x c (hin _ _ hx)
      rw [upd_ne (Nat.ne_of_lt (Heap.lt_size ho))]
      exact hcf
    · have : q ∈ ([] : List (Addr × Obj)) := hq
      cases this
    · show (compSt tgs caps σ).length = (tgs ++ caps.map (·.2)).length
      simp [compSt]
  have stat : ∀ {pins' : List (Addr × Obj)} {H' : Hp}, (∀ b ∈ fp, H' b = none) → (∀ q ∈ pins', q.1 ∉ fp) → ∀ b ∈ fp, FpOk X' pins' H' b := fun hn hp b hb =>
    ⟨hn b hb, below b (fpl b hb), fun z => by
      rcases List.mem_cons.mp (I2.stkSub b z) with q | q
      · exact (f2 b hb).2.1 q
      · exact (f2 b hb).2.2.1 q, .inl hb, fun x c hx => (f2 b hb).2.2.2.2.1 x c (hin _ _ hx), fun q hq z => hp q hq (z ▸ hb)⟩
  have noPin : ∀ q ∈ ([] : List (Addr × Obj)), q.1 ∉ fp := fun _ z => nomatch z
  have tn0 : tn 0 h₁ := T.keep _ _ _ st2 fun b hb o e => old b o e
  have fr0 : ∀ b ∈ fp, (upd H2 s2.heap.objs.size (.lst [])) b = none := fun b hb => by
    rw [upd_ne (Nat.ne_of_lt (fpl b hb))]
    exact (f2 b hb).1
  have loop : ∀ s₃ : Shared, s₃ = { s2 with heap := h₁, toks := s2.toks + ([] : List (Str × Value)).length } →
      codeAny (model X.prog X.w) X.A (.compLoop (.ListComp elt [⟨target, iter, ifs, 0⟩] scope pos) 0 (.ref it) (.ref s2.heap.objs.size) (compEnvC scope cl H3.objs.size X.env))
        (compPost (model X.prog X.w) X.A X.xe use Qf (.ref s2.heap.objs.size) H3.objs.size) s₃ := by
    rintro s₃ rfl
    refine compLoop_gen (fun n s' => ∃ i σ' H', Inv X' [] σ' H' s' ∧ tn i s'.heap ∧ (∀ b ∈ fp, H' b = none) ∧ W i n σ' H') ?_ m0 ⟨0, _, _, I4 _, tn0, fr0, w0⟩
    rintro n s3 ⟨i, σ3, H3', I3, st3, fr3, w3⟩
    rcases turn i n σ3 H3' w3 with ⟨stop, qn⟩ | ⟨go, step⟩
    · refine thn (T.done X' rfl rfl rfl hc i [] s3 σ3 H3' _ I3 (stat fr3 noPin) st3 stop) fun r s4 ⟨hr, I4'⟩ => ?_
      subst hr
      have un := I4'.base
      refine fin _ _ H3' s4 (I2.call' I4'.os un I4'.hok I4'.bare fun b hb => ?_) qn I4'.free ?_ (Nat.le_trans I2.sz hCle) ?_ ?_ ?_
      · exact ⟨(f2 b hb).2.2.2.1, (f2 b hb).2.1, (f2 b hb).2.2.2.2.1, (f2 b hb).2.2.2.2.2⟩
      · exact Ne.symm (below _ I2.lt)
      · intro x c hx
        obtain ⟨v, o, ho, hd⟩ := I2.cell x c hx
        exact below c (Heap.lt_size ho)
      · intro q hq
        obtain ⟨e, _⟩ := I2.pin q hq
        exact below _ (Heap.lt_size e)
      · obtain ⟨m, hm, _⟩ := I4'.loc
        exact ⟨m, hm⟩
    · refine thn (T.item X' rfl rfl rfl hc i [] s3 σ3 H3' _ I3 (stat fr3 noPin) st3 go) fun r s4 ⟨u, hr, h4⟩ => ?_
      subst hr
      refine thn h4 fun _ s5 ⟨x, H5, I5, r5, y5, st5, fr5⟩ => ?_
      have I5' := I5.pinned (stat fr5 noPin) (T.obj _ _ st5)
      refine wpAny_mono (hg _ _ _ _ _ _ s5 σ3 H5 x u _ I5' r5 (step x H5 y5)) (fun _ s6 ⟨σ6, H6, I6, q6⟩ => ?_) fun _ _ z => z.elim
      have again : ∀ {σ7 : St} {H7 : Hp} {s7 : Shared} {m' : Nat}, Inv X' ([] ++ pinsAt fp s5.heap) σ7 H7 s7 → m' < n → W (i + 1) m' σ7 H7 → ∃ m, m < n ∧ ∃ i σ' H', Inv X' [] σ' H' s7 ∧ tn i s7.heap ∧ (∀ b ∈ fp, H' b = none) ∧ W i m σ' H' := fun {σ7 H7 s7 m'} I7 hm w7 => by
        refine ⟨m', hm, i + 1, σ7, H7, I7.unpinned, T.keep _ _ _ st5 fun b hb o e => (I7.pin (b, o) (List.mem_append_right _ (List.mem_append_right _ (mem_pinsAt hb e)))).1, fun b hb => ?_, w7⟩
        obtain ⟨o, e, d⟩ := T.obj _ _ st5 b hb
        exact (I7.pin (b, o) (List.mem_append_right _ (List.mem_append_right _ (mem_pinsAt hb e)))).2.1
      refine wpAny_mono (ht _ _ _ _ _ _ s6 σ6 H6 _ I6 q6) (fun ok s7 ⟨H7, I7, q7⟩ => ?_) fun _ _ z => z.elim
      cases ok with
      | false =>
        obtain ⟨m', hm, w7⟩ := q7
        exact again I7 hm w7
      | true =>
        refine wpAny_mono (he _ _ _ _ _ _ s7 σ6 H7 _ I7 q7) (fun yv s8 ⟨y, H8, I8, r8, q8⟩ => ?_) fun _ _ z => z.elim
        obtain ⟨xs, m', hD, hz, hm, w8⟩ := q8
        refine wpAny_mono (mt_append (X := X') _ s8 σ6 H8 (.ref s2.heap.objs.size) [y] (.ref s2.heap.objs.size) [yv] (fun _ H9 => W (i + 1) m' σ6 H9) I8 rfl (.cons r8 .nil) ⟨_, xs, y, rfl, rfl, hD, hz, w8⟩) (fun _ s9 ⟨_, H9, I9, _, q9⟩ => ?_) fun _ _ z => z.elim
        exact again I9 hm q9
  exact codeAny_compStart_list (loop _ rfl) (T.self _ 0 _ _ _ tn0 (loop _ rfl))
/-- what a block's rule may hang on -/
abbrev BK (α : Type) := List (Str × Addr) → Addr → Shared → Hp → List Addr → α
/-- [elt for target in iter if test] -/
theorem pe_comp {g : BK TG} {tc : BK TT} {te : BK TE} (tgs : List Str) (caps : List (Nat × Str)) (hc : X.calm = true) (hsc : compScopeOk scope (caps.map (·.2)) = true) (hcap : CapsOk X caps) (hi : PI X target iter wi)
    (hg : ∀ cl C s2 H2 fp, PG (cxComp X scope cl C (tgs ++ caps.map (·.2)) s2 H2 fp) target (g cl C s2 H2 fp))
    (ht : ∀ cl C s2 H2 fp, PTs (cxComp X scope cl C (tgs ++ caps.map (·.2)) s2 H2 fp) ifs (tc cl C s2 H2 fp))
    (he : ∀ cl C s2 H2 fp, PE (cxComp X scope cl C (tgs ++ caps.map (·.2)) s2 H2 fp) elt (te cl C s2 H2 fp))
    (eg : ∀ cl C s2 H2 fp, g cl C s2 H2 fp = g [] 0 X.s₀ X.H₀ [] := by intros; rfl) (et : ∀ cl C s2 H2 fp, tc cl C s2 H2 fp = tc [] 0 X.s₀ X.H₀ [] := by intros; rfl) (ee : ∀ cl C s2 H2 fp, te cl C s2 H2 fp = te [] 0 X.s₀ X.H₀ [] := by intros; rfl)
    (hs : ∀ x, foldedSetIterable iter X.env x = pure x := by intro _; rfl) :
    PE X (.ListComp elt [⟨target, iter, ifs, 0⟩] scope pos) (tComp wi (g [] 0 X.s₀ X.H₀ []) (tc [] 0 X.s₀ X.H₀ []) (te [] 0 X.s₀ X.H₀ []) (compSt tgs caps)) := by
  intro pins s σ H Q I h
  rw [eval_ListComp]
  refine comp_core (use := none) hc hsc hcap hi (fun cl C s2 H2 fp => eg cl C s2 H2 fp ▸ hg cl C s2 H2 fp) (fun cl C s2 H2 fp => et cl C s2 H2 fp ▸ ht cl C s2 H2 fp) (fun cl C s2 H2 fp => ee cl C s2 H2 fp ▸ he cl C s2 H2 fp) I h (fun D C H' s' I' q hC h1 h2 h3 h4 ⟨m, hm⟩ => ?_) hs
  refine ⟨m, hm, fun h' hsb => ?_⟩
  exact ⟨.ref D, H', I'.turned (t' := s'.toks) (fun b o hb e => hsb.extBut b o hb e) hC h1 (.inr h2) h3 h4, rfl, q⟩
/-- name = [elt for target in iter if test] -/
theorem ps_setComp {g : BK TG} {tc : BK TT} {te : BK TE} {i : Nat} {y : Str} {py spos : Pos} (tgs : List Str) (caps : List (Nat × Str)) (hN : X.N.Nodup) (hiN : X.N[i]? = some y) (hy : X.env.scope.names.lookup y = some .local) (hc : X.calm = true) (hsc : compScopeOk scope (caps.map (·.2)) = true) (hcap : CapsOk X caps) (hi : PI X target iter wi)
    (hg : ∀ cl C s2 H2 fp, PG (cxComp X scope cl C (tgs ++ caps.map (·.2)) s2 H2 fp) target (g cl C s2 H2 fp))
    (ht : ∀ cl C s2 H2 fp, PTs (cxComp X scope cl C (tgs ++ caps.map (·.2)) s2 H2 fp) ifs (tc cl C s2 H2 fp))
    (he : ∀ cl C s2 H2 fp, PE (cxComp X scope cl C (tgs ++ caps.map (·.2)) s2 H2 fp) elt (te cl C s2 H2 fp))
    (eg : ∀ cl C s2 H2 fp, g cl C s2 H2 fp = g [] 0 X.s₀ X.H₀ [] := by intros; rfl) (et : ∀ cl C s2 H2 fp, tc cl C s2 H2 fp = tc [] 0 X.s₀ X.H₀ [] := by intros; rfl) (ee : ∀ cl C s2 H2 fp, te cl C s2 H2 fp = te [] 0 X.s₀ X.H₀ [] := by intros; rfl)
    (hsw : swapsWith (.ListComp elt [⟨target, iter, ifs, 0⟩] scope pos) (some (.Name y py)) spos.line X.env = pure true := by rfl)
    (hs : ∀ x, foldedSetIterable iter X.env x = pure x := by intro _; rfl) :
    PS X (.Assign [.Name y py] (.ListComp elt [⟨target, iter, ifs, 0⟩] scope pos) spos) (tAsg (tComp wi (g [] 0 X.s₀ X.H₀ []) (tc [] 0 X.s₀ X.H₀ []) (te [] 0 X.s₀ X.H₀ []) (compSt tgs caps)) (gName i)) := by
  intro pins s σ H D I h
  rw [exec_Assign_Name_used _ _ _ _ hsw]
  refine wpAny_bind (wpAny_standAt (wpAny_bind ?_))
  show wpAny _ X.A (do let _ ← comprehension (.ListComp elt [⟨target, iter, ifs, 0⟩] scope pos) scope X.env _ (newList []) false (eval iter X.env) (some (assign (.Name y py) X.env))) _ _ s
  refine wpAny_bind (thn (comp_core (use := some (assign (.Name y py) X.env)) (Qf := fun _ s' => SP X pins D .next s') hc hsc hcap hi (fun cl C s2 H2 fp => eg cl C s2 H2 fp ▸ hg cl C s2 H2 fp) (fun cl C s2 H2 fp => et cl C s2 H2 fp ▸ ht cl C s2 H2 fp) (fun cl C s2 H2 fp => ee cl C s2 H2 fp ▸ he cl C s2 H2 fp) I h (fun Dd C H' s' I' q hC h1 h2 h3 h4 ⟨m, hm⟩ => ?_) hs) fun _ s' hq => wpAny_pure (wpAny_pure hq))
  show wpAny _ X.A (assign (.Name y py) X.env (.ref Dd)) _ _ _
  refine wpAny_assign_Name (store_ok2 I' hN hiN (.inl hy) (v := .ref Dd) rfl (fun s'' I'' ⟨a, hsb, ha⟩ => ?_) (.inr hy))
  have hCa : C ≠ a := by
    rcases ha with z | z
    · rw [z]; exact h1
    · exact Ne.symm (h3 _ _ z)
  refine ⟨m, hm.sameBut hsb hCa, fun h' hsb' => ?_⟩
  exact ⟨_, H', I''.turned (t' := s''.toks) (fun b o hb e => hsb'.extBut b o hb e) hC h1 (.inr h2) h3 h4, q⟩
end
end L2

end

section
namespace L2
open PySem PySem.Spec PyProof.Rows
/-! ### what is no longer asked may be forgotten -/
def OwnIn (H : Hp) (a : Addr) : HO → Prop
  | .ins _ dx _ => H dx = some (.own a)
  | .frz _ u => OwnIn H a u
  | _ => True
def Closed (H : Hp) : Prop := ∀ a o, H a = some o → OwnIn H a o
theorem OwnIn.of {P : Program} {w : World} {H : Hp} {h : Heap} {a : Addr} {o : HO} (x : ObjOk P w H h a o) : OwnIn H a o := by
  induction o with
  | ins C dx fs => exact x.1
  | frz ob u ih => exact ih x.2
  | _ => trivial
theorem HOk.closed {P : Program} {w : World} {H : Hp} {h : Heap} (x : HOk P w H h) : Closed H := fun a o e => OwnIn.of (x a o e)
theorem OwnIn.mono {H H' : Hp} {a : Addr} {o : HO} (s : ∀ b u, H b = some u → H' b = some u) (x : OwnIn H a o) : OwnIn H' a o := by
  induction o with
  | ins C dx fs => exact s _ _ x
  | frz ob u ih => exact ih x
  | _ => trivial
theorem ObjOk.sub {P : Program} {w : World} {H H' : Hp} {h : Heap} {a : Addr} {o : HO} (x : ObjOk P w H' h a o) (ow : OwnIn H a o) : ObjOk P w H h a o := by
  induction o with
  | ins C dx fs => exact ⟨ow, x.2⟩
  | frz ob u ih => exact ⟨x.1, ih x.2 ow⟩
  | lst _ => exact x
  | tup _ => exact x
  | dK _ => exact x
  | dT _ => exact x
  | set _ _ => exact x
  | own _ => exact x
  | xd _ => exact x
  | met _ _ => exact x
  | rng _ _ => exact x
  | tbl _ => exact x
  | ext _ => exact x
/-- from H on, H' was reached; of it H'' is still asked -/
structure Sub (H H'' H' : Hp) : Prop where
  le : Same H'' H'
  ge : ∀ b o, H b = some o → ∃ u, H'' b = some u
  cl : Closed H → Closed H''
theorem Sub.refl {H H' : Hp} (h : Same H H') : Sub H H H' := ⟨h, fun _ o e => ⟨o, e⟩, id⟩
theorem Sub.all {H H' : Hp} (h : ∀ b o, H b = some o → ∃ u, H' b = some u) (c : Closed H → Closed H') : Sub H H' H' := ⟨Same.refl _, h, c⟩
theorem same_new {H : Hp} {p : Addr} {o : HO} (h : H p = none) : Same H (upd H p o) := fun b u q => by rw [upd_ne (ne_of_none q h)]; exact q
theorem closed_new {H : Hp} {p : Addr} {o : HO} (c : Closed H) (h : H p = none) (ho : OwnIn (upd H p o) p o) : Closed (upd H p o) := fun a u e => by
  by_cases z : a = p
  · subst z; rw [upd_same] at e; cases e; exact ho
  · rw [upd_ne z] at e
    exact (c a u e).mono (same_new h)
theorem Sub.new {H H' : Hp} {p : Addr} {o : HO} (h : H p = none) (hs : Same H H') (e : H' p = some o) (ho : OwnIn (upd H p o) p o) : Sub H (upd H p o) H' :=
  ⟨fun b u q => by
    by_cases z : b = p
    · subst z; rw [upd_same] at q; cases q; exact e
    · rw [upd_ne z] at q; exact hs b u q, fun b u q => ⟨u, same_new h b u q⟩, fun c => closed_new c h ho⟩
theorem Sub.ins {H H' : Hp} {p C dx : Addr} {fs fs' : List (Str × V)} (h : H p = some (.ins C dx fs)) (hs : ∀ b u, b ≠ p → H b = some u → H' b = some u) (e : H' p = some (.ins C dx fs')) : Sub H (upd H p (.ins C dx fs')) H' :=
  ⟨fun b u q => by
    by_cases z : b = p
    · subst z; rw [upd_same] at q; cases q; exact e
    · rw [upd_ne z] at q; exact hs b u z q, fun b u q => by
    by_cases z : b = p
    · subst z; exact ⟨_, upd_same⟩
    · exact ⟨u, by rw [upd_ne z]; exact q⟩, fun c a u q => by
    have hd : H dx = some (.own p) := c p _ h
    have nd : dx ≠ p := fun z => by rw [z, h] at hd; cases hd
    by_cases z : a = p
    · subst z; rw [upd_same] at q; cases q
      show upd H a _ dx = _
      rw [upd_ne nd]; exact hd
    · rw [upd_ne z] at q
      have x := c a u q
      revert x
      generalize u = o
      clear q
      induction o with
      | ins C' d' f' =>
        intro (x : H d' = some (.own a))
        show upd H p _ d' = _
        rw [upd_ne (fun y => by rw [y, h] at x; cases x)]; exact x
      | frz ob u ih => intro x; exact ih x
      | _ => intro _; trivial⟩
section
variable {X : Cx} {pins : List (Addr × Obj)} {σ : St} {H H' H'' : Hp} {s s0 : Shared}
theorem Un.sub {fs ex : List Addr} {H0 : Hp} {h h1 h2 : Heap} (u0 : Un fs ex H0 H h h1) (u : Un fs ex H0 H' h h2) (d : Sub H H'' H') : Un fs ex H0 H'' h h2 := by
  refine ⟨u.keep, u.slot, fun b o e n hx => ?_, u.there, fun b xs e => ?_, fun b o v e => ?_, fun b ps e => ?_⟩
  · cases q : H'' b with
    | none => rfl
    | some v => have := d.le b v q; rw [u.free b o e n hx] at this; cases this
  · obtain ⟨v, hv⟩ := d.ge b _ (u0.tups b xs e)
    have := d.le b v hv; rw [u.tups b xs e] at this; cases this; exact hv
  · obtain ⟨z, hv⟩ := d.ge b _ (u0.frzs b o v e)
    have := d.le b z hv; rw [u.frzs b o v e] at this; cases this; exact hv
  · obtain ⟨m0, e0⟩ := u0.tbls b ps e
    obtain ⟨z, hv⟩ := d.ge b _ e0
    obtain ⟨m, e1⟩ := u.tbls b ps e
    have := d.le b z hv; rw [e1] at this; cases this; exact ⟨m, hv⟩
theorem HOk.sub {P : Program} {w : World} {h : Heap} (x : HOk P w H' h) (c : Closed H'') (d : Same H'' H') : HOk P w H'' h := fun a o e => (x a o (d a o e)).sub (c a o e)
theorem Same.none_of {H1 H2 : Hp} (d : Same H1 H2) {b : Addr} (n : H2 b = none) : H1 b = none := d.free n
theorem Inv.sub {σ0 : St} (I0 : Inv X pins σ0 H s0) (I : Inv X pins σ H' s) (d : Sub H H'' H') : Inv X pins σ H'' s :=
  ⟨I.ok, I.os, I.bare, I0.base.sub I.base d, I.loc, I.cell, d.le.free I.free, fun x c e => d.le.free (I.freeC x c e),
    fun p hp => let ⟨a, b, c⟩ := I.pin p hp; ⟨a, d.le.free b, c⟩, I.hok.sub (d.cl I0.hok.closed) d.le, I.len⟩
theorem SP.sub {D : Ends} {f : Flow} {s' : Shared} (I : Inv X pins σ H s)
    (h : SP X pins { nx := fun σ' H' => ∃ H'', Sub H H'' H' ∧ D.nx σ' H'', rt := fun v H' => ∃ H'', Sub H H'' H' ∧ D.rt v H'', bk := fun σ' H' => ∃ H'', Sub H H'' H' ∧ D.bk σ' H'', ct := fun σ' H' => ∃ H'', Sub H H'' H' ∧ D.ct σ' H'' } f s') : SP X pins D f s' := by
  cases f with
  | next => obtain ⟨σ', H', I', H'', d, q⟩ := h; exact ⟨σ', H'', I.sub I' d, q⟩
  | brk => obtain ⟨σ', H', I', H'', d, q⟩ := h; exact ⟨σ', H'', I.sub I' d, q⟩
  | cont => obtain ⟨σ', H', I', H'', d, q⟩ := h; exact ⟨σ', H'', I.sub I' d, q⟩
  | ret u => obtain ⟨v, σ', H', I', r, H'', d, q⟩ := h; exact ⟨v, σ', H'', I.sub I' d, r, q⟩
end
/-- a def's promise, less asked behind it -/
theorem FnOk.keep {P : Program} {w : World} {K : PySem.W.Frag} {mg : Str → Option Value} {base : Heap} {k : Nat} {f : Addr} {fd : FuncData} {ps : List Str} {sp sp' : Sp} (F : FnOk P w K mg base CX0 k f fd ps sp)
    (h : ∀ vs H Q E, sp' vs H Q E → sp vs H (fun v H' => ∃ H'', Sub H H'' H' ∧ Q v H'') E) : FnOk P w K mg base CX0 k f fd ps sp' := by
  refine ⟨fun vs H Q E q => F.len vs H _ E (h vs H Q E q), fun A outer s H args us vs Q E hr e0 hb r q => codeAny_mono (F.run A outer s H args us vs _ E hr e0 hb r (h vs H Q E q)) fun rs s' c => ?_⟩
  cases rs with
  | error e => exact c
  | ok fl =>
    cases fl with
    | ret u =>
      obtain ⟨v, H', os, bare, un, hok, rv, H'', d, q'⟩ := c
      exact ⟨v, H'', os, bare, Un.sub (Un.refl (h := s.heap)) un d, hok.sub (d.cl e0.hok.closed) d.le, rv, q'⟩
    | next => exact c
    | brk => exact c
    | cont => exact c
/-- THE RULE for a def without refusals: its body as a term of rules, the reading of that term, less asked behind it -/
theorem Fun.okK {P : Program} {w : World} {K : PySem.W.Frag} {mg : Str → Option Value} {base : Heap} {x qual : Str} {st : Stmt} {f : Addr} {fd : FuncData} {N ps : List Str} {k : Nat} {sp : Sp} (F : Fun K x qual st f fd) (S : FnScope N ps (defScope st)) (len : ∀ vs H Q E, sp vs H Q E → vs.length = ps.length)
    (hbody : ∀ (cdv : Value) (A : Around) (outer : List Env) (s : Shared) (H : Hp) (vs : List V) (Q : VK) (E : XK), Room k (A.deeper (envOfC qual (defScope st) s.heap.objs.size f cdv)) → sp vs H Q E →
      ∃ t, PSs (cxOf CX0 P w K mg base N qual (defScope st) f cdv A outer s H E).nox (defBody st) t ∧ t { nx := fun _ H' => ∃ H'', Sub H H'' H' ∧ Q .non H'', rt := fun v H' => ∃ H'', Sub H H'' H' ∧ Q v H'' } (start N vs) H) : FnOk P w K mg base CX0 (k + 1) f fd ps sp :=
  (F.ok (sp := fun vs H Q E => ∃ Q', Q = (fun v H' => ∃ H'', Sub H H'' H' ∧ Q' v H'') ∧ sp vs H Q' E) S (fun vs H Q E ⟨Q', _, h⟩ => len vs H Q' E h) (fun cdv A outer s H vs Q E hr ⟨Q', e, h⟩ => by
    subst e
    exact hbody cdv A outer s H vs Q' E hr h)).keep fun vs H Q E h => ⟨Q, rfl, h⟩
end L2

end

section
namespace KM
/-! bits, the higher ones first -/
def bitsW (n : Nat) : Nat → List Bool
  | 0 => []
  | w + 1 => n.testBit w :: bitsW n w
def blen (n : Nat) : Nat := if n = 0 then 0 else n.log2 + 1
theorem bitsW_length (n w : Nat) : (bitsW n w).length = w := by
  induction w with
  | zero => rfl
  | succ w ih => simp [bitsW, ih]
/-- reading: from a on -/
def rd (a : Nat) (l : List Bool) : Nat := l.foldl (fun x b => 2 * x + b.toNat) a
theorem rd_nil (a : Nat) : rd a [] = a := rfl
/-! order: at the first place where they part the one has 0, the other 1 -/
def Sep (a b : List Bool) : Prop := ∃ c x y, a = c ++ false :: x ∧ b = c ++ true :: y
theorem Sep.pre (p : List Bool) {a b : List Bool} (h : Sep a b) : Sep (p ++ a) (p ++ b) := by
  obtain ⟨c, x, y, rfl, rfl⟩ := h
  exact ⟨p ++ c, x, y, by simp, by simp⟩
theorem Sep.post {a b : List Bool} (h : Sep a b) (u v : List Bool) : Sep (a ++ u) (b ++ v) := by
  obtain ⟨c, x, y, rfl, rfl⟩ := h
  exact ⟨c, x ++ u, y ++ v, by simp, by simp⟩
theorem Sep.turn {a b : List Bool} (h : Sep a b) : Sep (b.map (!·)) (a.map (!·)) := by
  obtain ⟨c, x, y, rfl, rfl⟩ := h
  exact ⟨c.map (!·), y.map (!·), x.map (!·), by simp, by simp⟩
theorem Sep.np {a b : List Bool} (h : Sep a b) : ¬ a <+: b := by
  obtain ⟨c, x, y, rfl, rfl⟩ := h
  rintro ⟨t, e⟩
  simp only [List.append_assoc] at e
  have := List.append_cancel_left e
  simp at this
/-! the row of a count -/
def cend (e : Nat) : List Bool := if e = 8 then [] else [false]
def cnt (n : Nat) : List Bool :=
  List.replicate (blen (blen (n + 1)) - 1) true ++ (cend (blen (blen (n + 1))) ++ (bitsW (blen (n + 1)) (blen (blen (n + 1)) - 1) ++ bitsW (n + 1) (blen (n + 1) - 1)))
/-! the row of a whole number -/
end KM
namespace KM
/-- where the parts of a count's row lie -/
structure CntAt (L : List Bool) (p n : Nat) : Prop where
  ones : ∀ j, j < blen (blen (n + 1)) - 1 → L.getD (p + j) false = true
  zero : blen (blen (n + 1)) < 8 → L.getD (p + (blen (blen (n + 1)) - 1)) false = false
  size : (L.drop (p + (blen (blen (n + 1)) - 1) + (cend (blen (blen (n + 1)))).length)).take (blen (blen (n + 1)) - 1) = bitsW (blen (n + 1)) (blen (blen (n + 1)) - 1)
  more : (L.drop (p + (blen (blen (n + 1)) - 1) + (cend (blen (blen (n + 1)))).length + (blen (blen (n + 1)) - 1))).take (blen (n + 1) - 1) = bitsW (n + 1) (blen (n + 1) - 1)
  fits : p + (cnt n).length ≤ L.length
theorem cnt_len (n : Nat) : (cnt n).length = (blen (blen (n + 1)) - 1) + (cend (blen (blen (n + 1)))).length + (blen (blen (n + 1)) - 1) + (blen (n + 1) - 1) := by
  unfold cnt
  simp only [List.length_append, List.length_replicate, bitsW_length]
  omega
end KM

end

section
namespace KM
open PySem L2
/-! ### rows as texts -/
def bc (b : Bool) : Nat := if b then 49 else 48
def rowS (l : List Bool) : Str := ⟨(l.map bc).toArray⟩
theorem s1 : (Str.ofString "1") = rowS [true] := by decide +kernel
theorem s0 : (Str.ofString "0") = rowS [false] := by decide +kernel
/-! joined, cut -/
theorem sliceIx (lo hi : Option Int) (n : Nat) : Builtin.Str.strSliceIndices lo hi 1 n = (List.range (HT.sIx n n hi - HT.sIx n 0 lo)).map (HT.sIx n 0 lo + ·) := by
  unfold Builtin.Str.strSliceIndices
  rw [← sliceRange_one]
  simp only [show ((1 : Int) > 0) = True from eq_true (by decide), if_true]
  congr 1
  · cases lo with
    | none => rfl
    | some i =>
      simp only [HT.sIx]
      by_cases h : i < 0
      · simp only [h, if_true]; omega
      · simp only [h, if_false]; omega
  · cases hi with
    | none => rfl
    | some i =>
      simp only [HT.sIx]
      by_cases h : i < 0
      · simp only [h, if_true]; omega
      · simp only [h, if_false]; omega
theorem slice_cps (x : Str) (lo hi : Option Int) : (Txt.slice x lo hi).cps.toList = (x.cps.toList.drop (HT.sIx x.length 0 lo)).take (HT.sIx x.length x.length hi - HT.sIx x.length 0 lo) := by
  have hl : x.cps.toList.length = x.length := by simp [Str.length]
  have h1 := HT.sIx_le x.length x.length (Nat.le_refl _) hi
  have h2 := HT.sIx_le x.length 0 (Nat.zero_le _) lo
  unfold Txt.slice
  rw [sliceIx]
  split
  · rename_i c
    simp only [List.length_map, List.length_range, Bool.and_eq_true, beq_iff_eq] at c
    have a0 : HT.sIx x.length 0 lo = 0 ∨ x.length = 0 := by omega
    rcases a0 with a0 | a0
    · rw [a0, List.drop_zero, List.take_of_length_le (by omega)]
    · have : x.cps.toList = [] := List.length_eq_zero_iff.mp (by omega)
      rw [this]; simp
  · rw [pick_run]
/-! order -/
/-! one sign -/
end KM
namespace KM
open PySem L2
end KM

end

section
namespace L2
open PySem PySem.Spec PyProof.Rows
/-! ### one rule for each operation, whatever it is given -/
section
variable {X : Cx}
def oAdd := OpR.or (op_add (X := X)) op_add_str
theorem oSub : OpR X (binaryOp .Sub) (rI0 fun i j => .int (i - j)) := op_sub
def oMul := OpR.or (op_mul (X := X)) op_mul_str
def oLt := OpR.or (op_lt (X := X)) op_lt_str
def iAll := IxR.or (IxR.or (ix_list (X := X)) ix_tup) ix_str
def slAll := SlR.or (sl_list (X := X)) sl_str
theorem PI.or {tg it : Expr} {wi wi' : TI} (h : PI X tg it wi) (h' : PI X tg it wi') : PI X tg it (fun σ H R => wi σ H R ∨ wi' σ H R) := fun pins s σ H R I q => q.elim (h pins s σ H R I) (h' pins s σ H R I)
theorem piAll {tg l : Expr} {tl : TE} (hl : PE X l tl) : PI X tg l (fun σ H R => iList X.K tl σ H R ∨ iStr tl σ H R) := (pi_list hl).or (pi_str hl)
end
/-! ### defs by name -/
/-- a def of the text stands at the top -/
def FunAt (K : PySem.W.Frag) (mg : Str → Option Value) (x : Str) (st : Stmt) (ps : List Str) (f : Addr) (fd : FuncData) : Prop := Fun K x x st f fd ∧ Binds K fd ps [] ∧ mg x = some (.ref f)
/-- a def keeps its promise -/
def DefOk (P : Program) (w : World) (K : PySem.W.Frag) (mg : Str → Option Value) (base : Heap) (k : Nat) (x : Str) (ps : List Str) (sp : Sp) : Prop :=
  ∃ f fd, FnOk P w K mg base CX0 k f fd ps sp ∧ Binds K fd ps [] ∧ PySem.W.keepIn K (.ref f) = true ∧ mg x = some (.ref f)
def MethOk (P : Program) (w : World) (K : PySem.W.Frag) (mg : Str → Option Value) (base : Heap) (k : Nat) (C : Addr) (m : Str) (ps : List Str) (sp : Sp) : Prop :=
  ∃ f fd, FnOk P w K mg base CX0 k f fd ps sp ∧ Binds K fd ps [] ∧ Meth K C m f
def MakeOk (P : Program) (w : World) (K : PySem.W.Frag) (mg : Str → Option Value) (base : Heap) (k : Nat) (x : Str) (C : Addr) (ps : List Str) (sp : Sp) : Prop :=
  ∃ f fd, Mk K C f ∧ FnOk P w K mg base CX0 k f fd ps sp ∧ Binds K fd ps [] ∧ mg x = some (.ref C)
def GlobV (mg : Str → Option Value) (x : Str) (v : V) : Prop := ∃ u, mg x = some u ∧ RelV v u
section
variable {X : Cx} {k k' : Nat} {x m : Str} {C : Addr} {ps : List Str} {sp : Sp} {e o : Expr} {es : List Expr} {t : TA} {ta : TE} {p pos apos : Pos} {v : V}
theorem pe_globV (h : GlobV X.mg x v) (hg : Gl X x := by rfl) (hd : (x == ("__debug__" : Str)) = false := by decide +kernel) : PE X (.Name x p) (tC v) := by
  obtain ⟨u, h1, h2⟩ := h
  exact pe_glob hg h1 h2 hd
theorem pe_callD (h : DefOk X.prog X.w X.K X.mg X.base k x ps sp) (hr : Room k' X.A) (ha : PA X (e :: es) t) (hk : k ≤ k' := by decide) (hg : Gl X x := by rfl) (hdb : (x == ("__debug__" : Str)) = false := by decide +kernel)
    (he : starEach (e :: es) X.env = (false, eval e X.env) :: starEach es X.env := by rfl) (hpl : (backTo pos (starEach es X.env)).any (·.1) = false := by rfl) : PE X (.Call (.Name x p) (e :: es) [] pos) (tCall sp [] E0 t) := by
  obtain ⟨f, fd, F, hb, kp, hm⟩ := h
  exact pe_call F (hr.mono hk) hg hm kp hb .nil pass0 ha hdb he hpl
theorem pe_methD0 {pl : Sem Bool} (h : MethOk X.prog X.w X.K X.mg X.base k C m ps sp) (c : Cls X.K C) (hr : Room k' X.A) (he : PE X o ta) (hk : k ≤ k' := by decide)
    (ht : eval (.Call (.Attribute o m apos) [] [] pos) X.env = (do
      let ov ← eval o X.env
      standAt apos.atName
      let (f, first) ← holding [ov] (getMethod ov m pl)
      callWith pos f first (backTo pos (starEach [] X.env)) (backToKw pos (keywordEach [] X.env))) := by rfl) :
    PE X (.Call (.Attribute o m apos) [] [] pos) (tMeth C m sp [] E0 ta tNil) := by
  obtain ⟨f, fd, F, hb, hm⟩ := h
  exact pe_meth0 he c hm F (hr.mono hk) hb .nil pass0 ht
end
/-- THE RULE for a def without refusals, by name -/
theorem FunAt.ok {P : Program} {w : World} {K : PySem.W.Frag} {mg : Str → Option Value} {base : Heap} {x : Str} {st : Stmt} {f : Addr} {fd : FuncData} {N ps : List Str} {k : Nat} {sp : Sp} (F : FunAt K mg x st ps f fd) (S : FnScope N ps (defScope st)) (len : ∀ vs H Q E, sp vs H Q E → vs.length = ps.length)
    (hbody : ∀ (cdv : Value) (A : Around) (outer : List Env) (s : Shared) (H : Hp) (vs : List V) (Q : VK) (E : XK), Room k (A.deeper (envOfC x (defScope st) s.heap.objs.size f cdv)) → sp vs H Q E →
      ∃ t, PSs (cxOf CX0 P w K mg base N x (defScope st) f cdv A outer s H E).nox (defBody st) t ∧ t { nx := fun _ H' => ∃ H'', Sub H H'' H' ∧ Q .non H'', rt := fun v H' => ∃ H'', Sub H H'' H' ∧ Q v H'' } (start N vs) H) : DefOk P w K mg base (k + 1) x ps sp :=
  ⟨f, fd, F.1.okK S len hbody, F.2.1, F.1.kp, F.2.2⟩
end L2
namespace L2
open PySem PySem.Spec PyProof.Rows
section
variable {X : Cx} {e : Expr} {pos : Pos}
theorem oEq : OpR X (compareOp .Eq) rEq := op_eq
theorem oLe : OpR X (compareOp .LtE) (rI0 fun i j => .bl (decide (i ≤ j))) := op_le
theorem oGt : OpR X (compareOp .Gt) (rI0 fun i j => .bl (decide (j < i))) := op_gt
theorem CallR.or' {f : Value} {r r' : List V → Hp → VK → Prop} (h : CallR X f r) (h' : CallR X f r') : CallR X f (fun xs H Q => r xs H Q ∨ r' xs H Q) := fun pins s σ H xs us Q I rv q => q.elim (h pins s σ H xs us Q I rv) (h' pins s σ H xs us Q I rv)
def call_isinstA := CallR.or' (call_isinst (X := X)) call_isinstC
end
end L2
namespace L2
open PySem
theorem bo_str : bootBuiltins "str" = some (.type "str") := by decide +kernel
theorem bo_list : bootBuiltins "list" = some (.type "list") := by decide +kernel
theorem bo_len : bootBuiltins "len" = some (.builtin "len") := by decide +kernel
theorem bo_isinstance : bootBuiltins "isinstance" = some (.builtin "isinstance") := by decide +kernel
theorem bo_all : bootBuiltins "all" = some (.builtin "all") := by decide +kernel
end L2

end

section
namespace L2
open PySem PySem.Spec PyProof.Rows KM
theorem upd_upd' {H : Hp} {a : Addr} {o u : HO} : upd (upd H a o) a u = upd H a u := by
  funext b
  unfold upd
  split <;> rfl
end L2
namespace L2
open PySem
theorem upd_self' {H : Hp} {a : Addr} {o : HO} (h : H a = some o) : upd H a o = H := by
  funext b
  unfold upd
  split
  · rename_i e; rw [e, h]
  · rfl
end L2
namespace KM
end KM
namespace L2
open PySem
theorem kit_same (K : PySem.W.Frag) (t : Value) : PySem.W.kitOne K t t = some true := by
  unfold PySem.W.kitOne; rw [beq_self_eq_true, if_pos rfl]
end L2
namespace KM
open PySem L2
end KM
namespace KM
end KM

end

section
namespace L2
open PySem PySem.Spec PyProof.Rows
/-! ### an exception in flight: its class, its own dict, its record T; fl: the frame that it is noted at -/
def Fly (h : Heap) (e : Addr) (cls : Value) (d : Option Addr) (T : Addr) (fl : Value) : Prop :=
  ∃ oe vs oT ts, h.get? e = some oe ∧ oe.cls = cls ∧ oe.dict = d ∧ oe.data = .fields vs ∧ vs[1]? = some (.ref T) ∧ T ≠ e ∧ h.get? T = some oT ∧ oT.data = .fields ts ∧ ts[3]? = some fl ∧ (d = none ∨ vs[2]? = some .none)
/-- behind a station: all but e, T and the frames is kept, the frames up to their slots -/
structure Stn (fs : List Addr) (e : Addr) (T : Option Addr) (h h' : Heap) : Prop where
  keep : ∀ b o, b ≠ e → some b ≠ T → b ∉ fs → h.get? b = some o → h'.get? b = some o
  slot : ∀ b o, b ≠ e → some b ≠ T → h.get? b = some o → ∃ sl, h'.get? b = some { o with slots := sl }
section
variable {M : Model} {A : Around} {E : Value → Shared → Prop} {s : Shared} {base : Heap} {env : Env} {outer : List Env} {L e T : Addr} {oe : Obj} {vs : Array Value} {head : Value} {hadNext : Bool} {Q : Unit → Shared → Prop} {cls : Value} {d : Option Addr} {fl : Value}
theorem dict_mapFields (o : Obj) (f) : (o.mapFields f).dict = o.dict := by
  obtain ⟨c, d, dt, sl⟩ := o; cases dt <;> rfl
theorem entryD (hfr : A.frames = some (env :: outer)) (hl : s.heap.FunFrames base (env :: outer)) (hf : env.frame = some L) (he : s.heap.get? e = some oe) (hd : oe.data = .fields vs) (hsz : 1 < vs.size) (hcx : oe.dict = none ∨ vs[2]? = some .none)
    (h : ∀ h' T', Fly h' e oe.cls oe.dict T' (rawInt L) → s.heap.get? T' = none → h'.FunFrames base (env :: outer) → Stn ((env :: outer).filterMap (·.frame)) e none s.heap h' → Q () { s with heap := h' }) :
    wpAny M A (do let a ← frameOf env; let pl ← entryPlaceOf L hadNext; let b ← EntryCells.newEntry head a .none (rawInt L) .none pl; setField (.ref e) 1 b) Q E s := by
  have hene : e ∉ (env :: outer).filterMap (·.frame) := fun hm => by
    obtain ⟨_, o, ho, hnf⟩ := hl.mem hm
    rw [he] at ho; injection ho with ho; subst ho; exact hnf vs hd
  refine wpAny_bind (wpAny_frameOf_fun hfr hl hf fun h₁ hs₁ => ?_)
  refine wpAny_bind (wpAny_entryPlaceOf fun pl hpl => ?_)
  unfold EntryCells.newEntry newFields
  refine wpAny_bind (wpAny_newObj_type ?_ (hpl.sizeOk5 _ _ _ _ _))
  have he1 : h₁.get? e = some oe := (hs₁.2.1 e hene).trans he
  generalize hoT : ({ cls := .type "traceback", dict := none, data := .fields ([head, .ref L, .none, rawInt L, .none] ++ (if pl.isEmpty then List.replicate 6 Value.none else pl)).toArray } : Obj) = oT
  have he2 := Heap.get?_push_of_some (h := h₁) oT he1
  refine wpAny_setField he2 hd hsz ?_
  have hTe : h₁.objs.size ≠ e := Nat.ne_of_gt (Heap.lt_size he1)
  have hd3 := Obj.data_mapFields hd (·.setIfInBounds 1 (Value.ref h₁.objs.size))
  have he3 := Heap.get?_update_self (Obj.mapFields (·.setIfInBounds 1 (Value.ref h₁.objs.size))) he2 (Obj.isFreed_of_fields hd3)
  have hT3 : ((h₁.push oT).update e (Obj.mapFields (·.setIfInBounds 1 (Value.ref h₁.objs.size)))).get? h₁.objs.size = some oT :=
    (Heap.get?_update_other _ _ (Ne.symm hTe)).trans (Heap.get?_push_size h₁ (by rw [← hoT]; rfl))
  have keep : ∀ b o, b ≠ e → h₁.get? b = some o → ((h₁.push oT).update e (Obj.mapFields (·.setIfInBounds 1 (Value.ref h₁.objs.size)))).get? b = some o := fun b o hbe hb => by
    rw [Heap.get?_update_other _ _ (Ne.symm hbe)]; exact Heap.get?_push_of_some _ hb
  have noRec : ∀ b o, s.heap.get? b = some o → (∀ vs, o.data ≠ .fields vs) → b ≠ e := fun b o hb hnf q => by
    rw [q, he] at hb; injection hb with hb; subst hb; exact hnf vs hd
  refine h _ h₁.objs.size ⟨_, _, oT, _, he3, Obj.cls_mapFields _ _, dict_mapFields _ _, hd3, by simp [hsz], hTe, hT3, by rw [← hoT], ?_, hcx.imp id fun z => by rw [Array.getElem?_setIfInBounds_ne (by decide)]; exact z⟩ ?_ (hl.of_keeps fun b o hb hnf => ?_) ⟨fun b o hbe _ hbf hb => keep b o hbe ((hs₁.2.1 b hbf).trans hb), fun b o hbe _ hb => ?_⟩
  · first | (simp; done) | (rcases hpl with rfl | ⟨_, _, _, _, _, _, _, rfl⟩ <;> simp)
  · exact Heap.get?_none_of_le (by rw [hs₁.1]; exact Nat.le_refl _)
  · obtain ⟨sl, hs⟩ := hs₁.2.2 b o hb
    exact ⟨_, keep b _ (noRec b o hb hnf) hs, rfl⟩
  · obtain ⟨sl, hs⟩ := hs₁.2.2 b o hb
    exact ⟨sl, keep b _ hbe hs⟩
/-- the flight's mark is taken off -/
theorem landD (hl : s.heap.FunFrames base outer) (ht : Fly s.heap e cls d T fl)
    (h : ∀ h', Fly h' e cls d T .none → h'.FunFrames base outer → (∀ b o, b ≠ T → s.heap.get? b = some o → h'.get? b = some o) → Q () { s with heap := h' }) : wpAny M A (setFlight (.ref e) none) Q E s := by
  obtain ⟨oe, vs, oT, ts, he, hc, hdd, hd, h1, hTe, hT, hdT, h3, hcx⟩ := ht
  have hsz3 : 3 < ts.size := (Array.getElem?_eq_some_iff.mp h3).1
  unfold setFlight
  refine wpAny_bind (wpAny_field he hd h1 ?_)
  rw [if_pos (show (Value.ref T != Value.none) = true from by simp)]
  have other : ∀ b, b ≠ T → (s.heap.update T (Obj.mapFields (·.setIfInBounds 3 ((none : Option Addr).elim Value.none fun f => rawInt f)))).get? b = s.heap.get? b := fun b hb => Heap.get?_update_other _ _ (Ne.symm hb)
  have noRec : ∀ b o, s.heap.get? b = some o → (∀ vs, o.data ≠ .fields vs) → b ≠ T := fun b o hb hnf q => by
    rw [q, hT] at hb; injection hb with hb; subst hb; exact hnf ts hdT
  refine wpAny_setField hT hdT hsz3 (h _ ⟨oe, vs, _, _, (other e (Ne.symm hTe)).trans he, hc, hdd, hd, h1, hTe, Heap.get?_update_self _ hT (Obj.isFreed_of_fields (Obj.data_mapFields hdT _)), Obj.data_mapFields hdT _, by simp [hsz3], hcx⟩
    (hl.of_keeps fun b o hb hnf => ⟨o, (other b (noRec b o hb hnf)).trans hb, rfl⟩) fun b o hb q => (other b hb).trans q)
/-- noted at this frame -/
theorem noteD (hfr : A.frames = some (env :: outer)) (hl : s.heap.FunFrames base (env :: outer)) (hf : env.frame = some L) (ht : Fly s.heap e cls d T .none)
    (h : ∀ h' T', Fly h' e cls d T' (rawInt L) → s.heap.get? T' = none → h'.FunFrames base (env :: outer) → Stn ((env :: outer).filterMap (·.frame)) e (some T) s.heap h' → Q () { s with heap := h' }) : wpAny M A (noteFrame (.ref e) env) Q E s := by
  obtain ⟨oe, vs, oT, ts, he, hc, hdd, hd, h1, hTe, hT, hdT, h3, hcx⟩ := ht
  unfold noteFrame
  simp only [hf]
  refine wpAny_bind (wpAny_field he hd h1 ?_)
  rw [if_pos (show (Value.ref T != Value.none) = true from by simp)]
  refine wpAny_bind (wpAny_field hT hdT h3 ?_)
  rw [if_neg (show ¬ ((Value.none == rawInt L) = true) from by simp [rawInt])]
  refine wpAny_bind (wpAny_setField hT hdT (Array.getElem?_eq_some_iff.mp h3).1 ?_)
  have other : ∀ b, b ≠ T → (s.heap.update T (Obj.mapFields (·.setIfInBounds 3 Value.none))).get? b = s.heap.get? b := fun b hb => Heap.get?_update_other _ _ (Ne.symm hb)
  have noRec : ∀ b o, s.heap.get? b = some o → (∀ vs, o.data ≠ .fields vs) → b ≠ T := fun b o hb hnf q => by
    rw [q, hT] at hb; injection hb with hb; subst hb; exact hnf ts hdT
  have back : ∀ b, (s.heap.update T (Obj.mapFields (·.setIfInBounds 3 Value.none))).get? b = none → s.heap.get? b = none := fun b hb => by
    by_cases z : b = T
    · subst z
      rw [Heap.get?_update_self _ hT (Obj.isFreed_of_fields (Obj.data_mapFields hdT _))] at hb; cases hb
    · rw [other b z] at hb; exact hb
  subst hc hdd
  refine entryD (s := { s with heap := s.heap.update T (Obj.mapFields (·.setIfInBounds 3 Value.none)) }) hfr (hl.of_keeps fun b o hb hnf => ⟨o, (other b (noRec b o hb hnf)).trans hb, rfl⟩) hf ((other e (Ne.symm hTe)).trans he) hd (Array.getElem?_eq_some_iff.mp h1).1 hcx fun h' T' x1 x2 x3 x4 => ?_
  exact h h' T' x1 (back _ x2) x3 ⟨fun b o h1 h2 h3 h4 => x4.keep b o h1 (by simp) h3 ((other b (fun z => h2 (by rw [z]))).trans h4), fun b o h1 h2 h4 => x4.slot b o h1 (by simp) ((other b (fun z => h2 (by rw [z]))).trans h4)⟩
/-- an exception leaves a frame, the second one on -/
theorem leaveD_next (hfr : A.frames = some (env :: outer)) (hl : s.heap.FunFrames base (env :: outer)) (hf : env.frame = some L) (ht : Fly s.heap e cls d T .none)
    (h : ∀ h' T', Fly h' e cls d T' .none → s.heap.get? T' = none → Stn ((env :: outer).filterMap (·.frame)) e (some T) s.heap h' → Q () { s with heap := h' }) : wpAny M A (leaving env (.ref e)) Q E s := by
  unfold leaving
  refine wpAny_bind (noteD hfr hl hf ht fun h1 T' x1 x2 x3 x4 => ?_)
  refine landD x3 x1 fun h2 y1 _ y3 => h h2 T' y1 x2 ⟨fun b o h1 h2 h3 h4 => y3 b o (fun z => by rw [z, x2] at h4; cases h4) (x4.keep b o h1 h2 h3 h4), fun b o h1 h2 h4 => ?_⟩
  obtain ⟨sl, e⟩ := x4.slot b o h1 h2 h4
  exact ⟨sl, y3 b _ (fun z => by rw [z, x2] at h4; cases h4) e⟩
/-- .. the frame that raised it -/
theorem leaveD_first (hfr : A.frames = some (env :: outer)) (hl : s.heap.FunFrames base (env :: outer)) (hf : env.frame = some L) (he : s.heap.get? e = some oe) (hd : oe.data = .fields vs) (h1 : vs[1]? = some .none) (hcx : oe.dict = none ∨ vs[2]? = some .none)
    (h : ∀ h' T', Fly h' e oe.cls oe.dict T' .none → s.heap.get? T' = none → Stn ((env :: outer).filterMap (·.frame)) e none s.heap h' → Q () { s with heap := h' }) : wpAny M A (leaving env (.ref e)) Q E s := by
  unfold leaving noteFrame
  simp only [hf]
  refine wpAny_bind (wpAny_bind (wpAny_field he hd h1 ?_))
  rw [if_neg (by decide)]
  refine entryD hfr hl hf he hd (Array.getElem?_eq_some_iff.mp h1).1 hcx fun h1 T' x1 x2 x3 x4 => ?_
  refine landD x3 x1 fun h2 y1 _ y3 => h h2 T' y1 x2 ⟨fun b o h1 h2 h3 h4 => y3 b o (fun z => by rw [z, x2] at h4; cases h4) (x4.keep b o h1 h2 h3 h4), fun b o h1 h2 h4 => ?_⟩
  obtain ⟨sl, e⟩ := x4.slot b o h1 h2 h4
  exact ⟨sl, y3 b _ (fun z => by rw [z, x2] at h4; cases h4) e⟩
end
end L2

end

section
namespace L2
open PySem PySem.Spec PyProof.Rows
/-! ### how an exception of a class of the text lies behind a call -/
def CXe (P : Program) (w : World) : CXT := fun outer H s E e s' => ∃ a C d H' T, e = .ref a ∧ s'.os = s.os ∧ AllBare s'.gens ∧ Un (frs outer) [] H H' s.heap s'.heap ∧ HOk P w H' s'.heap ∧
  Fly s'.heap a (.ref C) d T .none ∧ H' a = none ∧ H' T = none ∧ s.heap.get? a = none ∧ s.heap.get? T = none ∧ E (.ref C) d H'
theorem HOk.there {P : Program} {w : World} {H : Hp} {h : Heap} (ok : HOk P w H h) {a : Addr} {o : HO} (e : H a = some o) : ∃ u, h.get? a = some u := by
  have x := ok a o e
  cases o with
  | lst xs => obtain ⟨_, _, _, _, e⟩ := x; exact ⟨_, e⟩
  | tup xs => obtain ⟨_, _, _, p⟩ := x; obtain ⟨o, e, _⟩ := p; exact ⟨_, e⟩
  | dK kvs => obtain ⟨_, _, _, _, o, _, _, e, _⟩ := x; exact ⟨_, e⟩
  | dT kvs => exact (show False from x).elim
  | set S n => obtain ⟨o, _, _, _, e, _⟩ := x; exact ⟨_, e⟩
  | ins C dx fs => obtain ⟨_, _, _, e, _⟩ := x; exact ⟨_, e⟩
  | own y => exact x
  | xd fs => obtain ⟨_, ⟨_, _, _, e, _⟩, _⟩ := x; exact ⟨_, e⟩
  | rng lo hi => obtain ⟨_, _, _, e⟩ := x; exact ⟨_, e⟩
  | frz ob u => obtain ⟨e, _⟩ := x; exact ⟨_, e⟩
  | tbl ps => exact ⟨_, x⟩
  | met f y => exact ⟨_, x⟩
  | ext φ => exact x.2.1
theorem HOk.none {P : Program} {w : World} {H : Hp} {h : Heap} (ok : HOk P w H h) {a : Addr} (e : h.get? a = none) : H a = none := by
  cases q : H a with
  | none => rfl
  | some o => obtain ⟨u, z⟩ := ok.there q; rw [e] at z; cases z
section
variable {P : Program} {w : World} {K : PySem.W.Frag} {mg : Str → Option Value} {base : Heap} {N : List Str} {qual : Str} {scope : Scope} {f : Addr} {cdv : Value} {A : Around} {outer : List Env} {s : Shared} {H : Hp} {E : XK}
/-- what is held behind a station -/
theorem stn_un {X : Cx} {pins : List (Addr × Obj)} {σ : St} {H1 : Hp} {s1 : Shared} {h' : Heap} {a : Addr} {T : Option Addr} (I : Inv X pins σ H1 s1) (hx : X.ex = []) (hs : X.stack = X.env :: X.outer) (S : Stn (frs X.stack) a T s1.heap h')
    (na : X.s₀.heap.get? a = none) (nT : ∀ t, T = some t → X.s₀.heap.get? t = none) (fa : H1 a = none) (fT : ∀ t, T = some t → H1 t = none) : Un (frs X.outer) [] X.H₀ H1 X.s₀.heap h' ∧ HOk X.prog X.w H1 h' := by
  have B := I.base
  rw [hx] at B
  have nea : ∀ b o, X.s₀.heap.get? b = some o → b ≠ a := fun b o e z => by rw [z, na] at e; cases e
  have neT : ∀ b o, X.s₀.heap.get? b = some o → some b ≠ T := fun b o e z => by have := nT b z.symm; rw [e] at this; cases this
  have neL : ∀ b o, X.s₀.heap.get? b = some o → b ≠ X.env.locals := fun b o e => Nat.ne_of_lt (Nat.lt_of_lt_of_le (Heap.lt_size e) I.ok.above)
  refine ⟨⟨fun b o e n hb hx => ?_, fun b o e n hb hx => ?_, B.free, fun b o e hx => ?_, B.tups, B.frzs, B.tbls⟩, fun b u e => (I.hok b u e).stay (fun c v hc q => ?_) (fun _ q => q) fun _ _ q => q⟩
  · refine S.keep b o (nea b o e) (neT b o e) (fun z => ?_) (B.keep b o e n hb hx)
    exact (List.mem_cons.mp (I.stkSub b z)).elim (neL b o e) hb
  · obtain ⟨sl, e1⟩ := B.slot b o e n hb hx
    obtain ⟨sl', e2⟩ := S.slot b _ (nea b o e) (neT b o e) e1
    exact ⟨sl', e2⟩
  · obtain ⟨o', e1⟩ := B.there b o e hx
    obtain ⟨sl', e2⟩ := S.slot b _ (nea b o e) (neT b o e) e1
    exact ⟨_, e2⟩
  · have hcn : ∃ z, H1 c = some z := by
      rcases hc with rfl | hc
      · exact ⟨_, e⟩
      · exact ⟨_, hc⟩
    obtain ⟨z, hz⟩ := hcn
    refine S.keep c v (fun y => ?_) (fun y => ?_) (fun y => ?_) q
    · rw [y, fa] at hz; cases hz
    · rw [fT c y.symm] at hz; cases hz
    · rw [I.stkFree c y] at hz; cases hz
end
section
variable {P : Program} {w : World} {K : PySem.W.Frag} {mg : Str → Option Value} {base : Heap} {N : List Str} {qual : Str} {scope : Scope} {f : Addr} {cdv : Value} {A : Around} {outer : List Env} {s : Shared} {H : Hp} {E : XK}
/-- a new exception leaves the body that raised it -/
def Throws (X : Cx) (E : XK) : Prop := ∀ (pins : List (Addr × Obj)) (σ : St) (H1 : Hp) (s1 : Shared) (a C : Addr) (oe : Obj) (vs : Array Value), Inv X pins σ H1 s1 → s1.heap.get? a = some oe → oe.cls = .ref C → oe.data = .fields vs → vs[1]? = some .none → (oe.dict = none ∨ vs[2]? = some .none) →
  H1 a = none → X.s₀.heap.get? a = none → E (.ref C) oe.dict H1 → X.xe (.ref a) s1
theorem throws_fn : Throws (cxOf (CXe P w) P w K mg base N qual scope f cdv A outer s H E) E := by
  intro pins σ H1 s1 a C oe vs I he hc hd h1 hcx fa na q
  refine leaveD_first (base := base) I.ok.frames I.stack rfl he hd h1 hcx fun h' T' x1 x2 x3 => ?_
  have fT := I.hok.none x2
  obtain ⟨u, hk⟩ := stn_un (T := none) I rfl rfl x3 na (fun t z => by cases z) fa (fun t z => by cases z)
  refine ⟨a, C, oe.dict, H1, T', rfl, I.os, I.bare, u, hk, hc ▸ x1, fa, fT, na, ?_, q⟩
  cases z : s.heap.get? T' with
  | none => rfl
  | some o =>
    obtain ⟨o', e⟩ := I.base.there T' o z (show T' ∉ ([] : List Addr) by simp)
    rw [x2] at e; cases e
/-- a callee's exception passes a body -/
theorem passes_fn : Passes (CXe P w) (cxOf (CXe P w) P w K mg base N qual scope f cdv A outer s H E) E := by
  intro pins σ H1 s1 e s2 I h
  obtain ⟨a, C, d, H2, T, rfl, os, bare, un, hok, fly, fa, fT, na, nT, q⟩ := h
  have I2 : Inv (cxOf (CXe P w) P w K mg base N qual scope f cdv A outer s H E) pins σ H2 s2 := I.call' (ch := []) os un hok bare (fun b z => absurd z (by simp))
  have old : ∀ b, s1.heap.get? b = none → s.heap.get? b = none := fun b hb => by
    cases z : s.heap.get? b with
    | none => rfl
    | some o =>
      obtain ⟨o', e⟩ := I.base.there b o z (show b ∉ ([] : List Addr) by simp)
      rw [hb] at e; cases e
  refine leaveD_next (base := base) I2.ok.frames I2.stack rfl fly fun h' T' x1 x2 x3 => ?_
  obtain ⟨u, hk⟩ := stn_un (T := some T) I2 rfl rfl x3 (old a na) (fun t z => by cases z; exact old T nT) fa (fun t z => by cases z; exact fT)
  refine ⟨a, C, d, H2, T', rfl, I2.os, I2.bare, u, hk, x1, fa, I2.hok.none x2, old a na, ?_, q⟩
  cases z : s.heap.get? T' with
  | none => rfl
  | some o =>
    obtain ⟨o', e⟩ := I2.base.there T' o z (show T' ∉ ([] : List Addr) by simp)
    rw [x2] at e; cases e
end
end L2

end

section
namespace L2
open PySem PySem.W PySem.Spec PyProof.Rows
/-! ### a class of exceptions of the text, as the fragment's deciders have it -/
structure ExcC (K : Frag) (C : Addr) : Prop where
  ga : findIn K (.ref C) "__getattribute__" = some (some (.builtin "BaseException.__getattribute__"))
  gt : findIn K (.ref C) "__getattr__" = some none
  cl : findIn K (.ref C) "__class__" = some (some (.builtin "object.__class__"))
  ob : mroIn K C (.type "object") = some true
  be : mroIn K C (.type "BaseException") = some true
  is : isClsIn K C = true
  hn : specialIn K (.builtin "object.__class__") "__get__" = some (some (.builtin "getset_descriptor.__get__"))
  tk : takesIn K (.builtin "object.__class__") = some true
section
variable {K : Frag} {prog : Program} {w : World} {A : Around} {E : Value → Shared → Prop} {h : Heap} {g : Array GenState} {d : Drawn} {t : Nat} {os : OsState} {x C : Addr} {ox : Obj} {odo : Option Obj} {name : Str}
theorem exc_call {tk : Tok} {R : Result → Shared → Prop} (X : K.In h) (I : InstAt h x ox C odo) (c : ExcC K C)
    (hq : wpAny (model prog w) A.in1 (Builtin.«object.__getattribute__» ⟨[.ref x, .str name tk], []⟩) (fun fin s' => match fin with | .done (.ret v) => R (.ok (.ret v)) s' | _ => False) (fun _ _ => False) ⟨h, g, d, t, os⟩) :
    codeAny (model prog w) A (.call (.builtin "BaseException.__getattribute__") ⟨[.ref x, .str name tk], []⟩) R ⟨h, g, d, t, os⟩ := by
  have L0 := I.type (M := model prog w)
  have L1 := looks_mroIn (M := model prog w) X c.be
  refine codeAny_call_builtin F.attr_ValueError.ga.plain F.entry_bexc_ga (check_slot (i := "BaseException.__getattribute__") (owner := "BaseException") (n := "__getattribute__") (by decide +kernel) (by decide +kernel) (L0.andThen L1) (F.args_bexc_ga _ _) ?_)
  refine wpAny_mono hq (fun fin s' z => ?_) fun _ _ z => False.elim z
  rcases fin with (_ | _ | _ | _) | _ <;> first | exact z | exact z.elim
theorem exc_by {tk : Tok} {fill expr : Bool} {Q : Value → Shared → Prop} (X : K.In h) (I : InstAt h x ox C odo) (c : ExcC K C)
    (hq : ∀ A : Around, wpAny (model prog w) A (Builtin.«object.__getattribute__» ⟨[.ref x, .str name tk], []⟩) (fun fin s' => match fin with | .done (.ret v) => Q v s' ∧ handedIn v = true | _ => False) (fun _ _ => False) ⟨h, g, d, t, os⟩) :
    wpAny (model prog w) A (getAttrBy (.ref x) (.str name tk) fill expr) Q E ⟨h, g, d, t, os⟩ := by
  have L0 := I.type (M := model prog w)
  have L1 := looks_findIn (M := model prog w) X c.ga
  have L2 := looks_findIn (M := model prog w) X c.gt
  have f3 := F.attr_ValueError.ga.bind (.ref x)
  have hx0 : (expr && onTheHeap (Value.builtin "BaseException.__getattribute__")) = false := by cases expr <;> rfl
  have hx2 : (Value.builtin "BaseException.__getattribute__" == Value.builtin "object.__getattribute__") = false := by decide +kernel
  have hx1 : (onTheHeap (Value.ref C) && Value.builtin "BaseException.__getattribute__" == Value.builtin "object.__getattribute__") = false := by rw [hx2]; rfl
  unfold getAttrBy
  refine wpAny_holding (wpAny_bind (L0.at (wpAny_bind (L1.at ?_))))
  dsimp only
  rw [if_neg (by rw [hx1]; decide)]
  have rest : ∀ A : Around, codeAny (model prog w) A (.call (.builtin "BaseException.__getattribute__") ⟨[.ref x, .str name tk], []⟩) (fun r s' => match r with | .ok (.ret v) => Q v s' ∧ handedIn v = true | _ => False) ⟨h, g, d, t, os⟩ := fun A => exc_call X I c (wpAny_mono (hq A.in1) (fun fin s' z => by rcases fin with (_ | _ | _ | _) | _ <;> first | exact z | exact z.elim) fun _ _ z => z.elim)
  repeat (any_goals (first | assumption | with_reducible refine L2.at ?_ | wp_step))
  refine codeAny_mono (rest A) fun r s' z => ?_
  cases r with
  | error e => exact z.elim
  | ok fl => cases fl with
    | ret v => exact handed_on z.2 z.1
    | next => exact z.elim
    | brk => exact z.elim
    | cont => exact z.elim
theorem exc_entry_class {tk : Tok} {Q : Fin → Shared → Prop} (X : K.In h) (I : InstAt h x ox C odo) (c : ExcC K C) (hq : Q (.done (.ret (.ref C))) ⟨h, g, d, t, os⟩) :
    wpAny (model prog w) A (Builtin.«object.__getattribute__» ⟨[.ref x, .str "__class__" tk], []⟩) Q E ⟨h, g, d, t, os⟩ := by
  have L0 := I.type (M := model prog w)
  obtain ⟨cd, hc⟩ := Option.isSome_iff_exists.mp (show (clsIn K C).isSome = true from c.is)
  have hf : findObj K C odo "__class__" = some (.bind (.builtin "getset_descriptor.__get__") (.builtin "object.__class__")) := by
    unfold findObj
    rw [hc, Option.bind_some, c.cl, Option.bind_some]
    simp [c.hn, c.tk]
  have L1 := looks_find (M := model prog w) X I hf
  repeat (any_goals (first | assumption | with_reducible refine L0.at ?_ | with_reducible refine L1.at ?_ | wp_step))
  refine class_get (s := ⟨h, g, d, t, os⟩) (ox := ox) (od := odo) X I c.ob ?_
  repeat (any_goals (first | assumption | wp_step))
theorem exc_class {Q : Option Value → Shared → Prop} {s : Shared} (X : K.In s.heap) (I : InstAt s.heap x ox C odo) (c : ExcC K C) (hq : Q (some (.ref C)) { s with toks := s.toks + 1 }) : wpAny (model prog w) A (getAttr? (.ref x) "__class__") Q E s := by
  obtain ⟨h, g, d, t, os⟩ := s
  unfold getAttr? getAttrBy?
  refine wpAny_bind (wpAny_mkText (wpAny_bind (wpAny_attempt ?_)))
  exact exc_by X I c fun A => exc_entry_class X I c ⟨wpAny_pure hq, rfl⟩
theorem kitx_exc (c : ExcC K C) : KitX K (.ref x) (.ref C) (fun h => ∃ ox odo, InstAt h x ox C odo) where
  ty := fun _ _ _ ⟨_, _, I⟩ => I.type
  it := fun _ _ X _ => by
    obtain ⟨cdD, hcD⟩ := Option.isSome_iff_exists.mp (show (clsIn K C).isSome = true from c.is)
    unfold clsIn at hcD
    split at hcD
    · rename_i c' d' cd' sl' ho
      intro A' Q' E' s' k q
      unfold isType loadHead
      exact wpAny_bind (wpAny_loadPart (k _ _ (X _ _ ho)) (wpAny_pure q))
    · cases hcD
  ne := fun h tp dd its n sl X htp => by
    obtain ⟨cdD, hcD⟩ := Option.isSome_iff_exists.mp (show (clsIn K C).isSome = true from c.is)
    refine Bool.eq_false_iff.mpr fun q => ?_
    have e : C = tp := Value.ref.inj (beq_iff_eq.mp q)
    subst e
    unfold clsIn at hcD
    split at hcD
    · rename_i c' d' cd' sl' ho
      have z := (X _ _ ho).symm.trans htp
      cases z
    · cases hcD
  ca := fun X ⟨_, _, I⟩ k => exc_class X I c k
end
end L2

end

section
namespace L2
open PySem PySem.W PySem.Spec PyProof.Rows
/-! ### defs that refuse -/
section
variable {P : Program} {w : World} {K : PySem.W.Frag} {mg : Str → Option Value} {base : Heap}
/-- less asked behind an exception -/
def eSub (H : Hp) (E : XK) : XK := fun c d H' => ∃ H'', Sub H H'' H' ∧ E c d H''
theorem FnOk.keepE {k : Nat} {f : Addr} {fd : FuncData} {ps : List Str} {sp sp' : Sp} (F : FnOk P w K mg base (CXe P w) k f fd ps sp)
    (h : ∀ vs H Q E, sp' vs H Q E → sp vs H (fun v H' => ∃ H'', Sub H H'' H' ∧ Q v H'') (eSub H E)) : FnOk P w K mg base (CXe P w) k f fd ps sp' := by
  refine ⟨fun vs H Q E q => F.len vs H _ _ (h vs H Q E q), fun A outer s H args us vs Q E hr e0 hb r q => codeAny_mono (F.run A outer s H args us vs _ _ hr e0 hb r (h vs H Q E q)) fun rs s' c => ?_⟩
  cases rs with
  | error e =>
    obtain ⟨a, C, d, H', T, rfl, os, bare, un, hok, fly, fa, fT, na, nT, H'', dd, q'⟩ := c
    have nn : ∀ b, H' b = none → H'' b = none := fun b hb => by
      cases z : H'' b with
      | none => rfl
      | some o => have := dd.le b o z; rw [hb] at this; cases this
    exact ⟨a, C, d, H'', T, rfl, os, bare, Un.sub (Un.refl (h := s.heap)) un dd, hok.sub (dd.cl e0.hok.closed) dd.le, fly, nn a fa, nn T fT, na, nT, q'⟩
  | ok fl =>
    cases fl with
    | ret u =>
      obtain ⟨v, H', os, bare, un, hok, rv, H'', d, q'⟩ := c
      exact ⟨v, H'', os, bare, Un.sub (Un.refl (h := s.heap)) un d, hok.sub (d.cl e0.hok.closed) d.le, rv, q'⟩
    | next => exact c
    | brk => exact c
    | cont => exact c
theorem Fun.okE {x qual : Str} {st : Stmt} {f : Addr} {fd : FuncData} {N ps : List Str} {k : Nat} {sp : Sp} (F : Fun K x qual st f fd) (S : FnScope N ps (defScope st)) (len : ∀ vs H Q E, sp vs H Q E → vs.length = ps.length)
    (hbody : ∀ (cdv : Value) (A : Around) (outer : List Env) (s : Shared) (H : Hp) (vs : List V) (Q : VK) (E : XK), Room k (A.deeper (envOfC qual (defScope st) s.heap.objs.size f cdv)) → sp vs H Q E →
      ∃ t, PSs (cxOf (CXe P w) P w K mg base N qual (defScope st) f cdv A outer s H (eSub H E)) (defBody st) t ∧ t { nx := fun _ H' => ∃ H'', Sub H H'' H' ∧ Q .non H'', rt := fun v H' => ∃ H'', Sub H H'' H' ∧ Q v H'' } (start N vs) H) : FnOk P w K mg base (CXe P w) (k + 1) f fd ps sp := by
  refine FnOk.keepE (sp := fun vs H Q E => ∃ Q' E', Q = (fun v H' => ∃ H'', Sub H H'' H' ∧ Q' v H'') ∧ E = eSub H E' ∧ sp vs H Q' E') ?_ fun vs H Q E h => ⟨Q, E, rfl, rfl, h⟩
  obtain ⟨oc, od, kV, doc, pm, an, cdv, ct, osl, rfl, lk, hcd⟩ := F.ex
  refine fn_of lk hcd S (fun vs H Q E ⟨Q', E', _, _, h⟩ => len vs H Q' E' h) fun A outer s H vs Q E hr ⟨Q', E', e1, e2, hsp⟩ => ?_
  subst e1 e2
  exact hbody cdv A outer s H vs Q' E' hr hsp
def DefOkE (P : Program) (w : World) (K : PySem.W.Frag) (mg : Str → Option Value) (base : Heap) (k : Nat) (x : Str) (ps : List Str) (sp : Sp) : Prop :=
  ∃ f fd, FnOk P w K mg base (CXe P w) k f fd ps sp ∧ Binds K fd ps [] ∧ PySem.W.keepIn K (.ref f) = true ∧ mg x = some (.ref f)
theorem FunAt.okE {x : Str} {st : Stmt} {f : Addr} {fd : FuncData} {N ps : List Str} {k : Nat} {sp : Sp} (F : FunAt K mg x st ps f fd) (S : FnScope N ps (defScope st)) (len : ∀ vs H Q E, sp vs H Q E → vs.length = ps.length)
    (hbody : ∀ (cdv : Value) (A : Around) (outer : List Env) (s : Shared) (H : Hp) (vs : List V) (Q : VK) (E : XK), Room k (A.deeper (envOfC x (defScope st) s.heap.objs.size f cdv)) → sp vs H Q E →
      ∃ t, PSs (cxOf (CXe P w) P w K mg base N x (defScope st) f cdv A outer s H (eSub H E)) (defBody st) t ∧ t { nx := fun _ H' => ∃ H'', Sub H H'' H' ∧ Q .non H'', rt := fun v H' => ∃ H'', Sub H H'' H' ∧ Q v H'' } (start N vs) H) : DefOkE P w K mg base (k + 1) x ps sp :=
  ⟨f, fd, F.1.okE S len hbody, F.2.1, F.1.kp, F.2.2⟩
end
/-! ### calls whose exceptions may depend on the names' values -/
def PassesX (CX : CXT) (X : Cx) (E : St → XK) : Prop := ∀ (pins : List (Addr × Obj)) (σ : St) (H : Hp) (s : Shared) (e : Value) (s' : Shared), Inv X pins σ H s → CX X.stack H s (E σ) e s' → X.xe e s'
theorem Passes.x {CX : CXT} {X : Cx} {E : XK} (h : Passes CX X E) : PassesX CX X fun _ => E := h
def tCallX (sp : Sp) (E : St → XK) (t : TA) : TE := fun σ H Q => t σ H fun vs H1 => sp vs H1 Q (E σ)
section
variable {X : Cx} {k k' : Nat} {x : Str} {ps : List Str} {sp : Sp} {e : Expr} {es : List Expr} {t : TA} {p pos : Pos} {E : St → XK}
theorem pe_callE (h : DefOkE X.prog X.w X.K X.mg X.base k x ps sp) (hr : Room k' X.A) (hx : PassesX (CXe X.prog X.w) X E) (ha : PA X (e :: es) t) (hk : k ≤ k' := by decide) (hg : Gl X x := by rfl) (hdb : (x == ("__debug__" : Str)) = false := by decide +kernel)
    (he : starEach (e :: es) X.env = (false, eval e X.env) :: starEach es X.env := by rfl) (hpl : (backTo pos (starEach es X.env)).any (·.1) = false := by rfl) : PE X (.Call (.Name x p) (e :: es) [] pos) (tCallX sp E t) := by
  obtain ⟨f, fd, F, hb, kp, hm⟩ := h
  intro pins s σ H Q I h
  refine wpAny_Call_Name_kw (ld_glob I hg hm ?_ hdb)
  refine PySem.W.callWith_K (h₀ := X.base) I.ok.mod.kin kp (thn (ha pos pins s σ H _ I h) fun us s1 ⟨vs, H1, I1, r, q⟩ => ⟨I1.kIn, ?_⟩) he hpl
  have hl : us.length = ps.length := by rw [← r.length]; exact F.len _ _ _ _ q
  have hb' := hb s1 us I1.kIn (by rw [List.append_nil]; exact hl)
  rw [List.append_nil] at hb'
  refine wpAny_call (codeAny_mono (F.run X.A X.stack s1 H1 ⟨us, []⟩ us vs Q (E σ) (hr.mono hk) I1.env0 hb' r q) fun r s' hq => ?_)
  cases r with
  | error e => exact hx pins σ H1 s1 e s' I1 hq
  | ok fl =>
    cases fl with
    | ret u => exact I1.after hq
    | next => exact False.elim hq
    | brk => exact False.elim hq
    | cont => exact False.elim hq
end
/-! ### raise C(..), C an own class without __init__ -/
abbrev bmV : List Value := [.type "ValueError", .type "Exception", .type "BaseException", .type "object"]
structure ClsAt (K : Frag) (h : Heap) (C : Addr) : Prop where
  ex : ∃ (bm : List Value) (N : Addr) (nm q : Str) (bs : List Value) (hdct : Bool) (sn : List Str) (sub : List Value) (ab : Bool) (col : Option Bool) (dd : Option Addr) (k0 k1 k2 k3 k5 : Option Value) (mN : Str → Option Value),
    h.get? C = some (excClassObj nm q C N bs bm hdct sn sub ab col dd k0 k1 k2 k3 k5 "ValueError.__new__") ∧ h.Ns N mN ∧ mN "__init__" = none ∧ OwnTail h bmV bm
theorem clsAt {K : Frag} {h : Heap} {C : Addr} (X : K.In h) (q : excIn K C bmV "ValueError.__new__" = true) : ClsAt K h C := by
  unfold excIn at q
  split at q
  · rename_i dd cd sl ho
    split at q
    · rename_i C' bm k0 k1 k2 k3 n k5 hm hs
      simp only [Bool.and_eq_true, beq_iff_eq, Bool.not_eq_true'] at q
      obtain ⟨⟨⟨⟨⟨rfl, rfl⟩, hdel⟩, ht⟩, hok⟩, hni⟩ := q
      obtain ⟨nm, bs, mro, ns, qn, hd, sn, sub, ab, col, del⟩ := cd
      dsimp only at hm hdel hok hni
      subst hm hdel
      have hsl : sl = #[k0, k1, k2, k3, some (.builtin "ValueError.__new__"), k5] := by
        obtain ⟨l⟩ := sl
        simp only at hs
        rw [hs]
      subst hsl
      exact ⟨bm, ns, nm, qn, bs, hd, sn, sub, ab, col, dd, k0, k1, k2, k3, k5, _, X _ _ ho, .of_isNs (isNs_of_in X hok), nsMap_none_of_in X hok hni, tail_of_in X ht⟩
    · cases q
  · cases q
def tRaise (C : Addr) (E : XK) (t : TA) : TS := fun _ σ H => t σ H fun vs H1 => vs.length ≤ sizeLine ∧ E (.ref C) none H1
theorem ps_raise {X : Cx} {x : Str} {C : Addr} {np cpos pos : Pos} {e : Expr} {es : List Expr} {t : TA} {E : XK} (T : Throws X E) (xc : excIn X.K C bmV "ValueError.__new__" = true) (hm : X.mg x = some (.ref C)) (hh : X.A.handled = none) (ha : PA X (e :: es) t)
    (hex : X.ex = [] := by rfl) (hg : Gl X x := by rfl) (hdb : (x == ("__debug__" : Str)) = false := by decide +kernel)
    (he : starEach (e :: es) X.env = (false, eval e X.env) :: starEach es X.env := by rfl) (hpl : (backTo cpos (starEach es X.env)).any (·.1) = false := by rfl) :
    PS X (.Raise (some (.Call (.Name x np) (e :: es) [] cpos)) none pos) (tRaise C E t) := by
  intro pins s σ H D I h
  obtain ⟨bm, N, nm, q, bs, hdct, sn, sub, ab, col, dd, k0, k1, k2, k3, k5, mN, h1, h2, h3, h4⟩ := (clsAt I.ok.mod.kin xc).ex
  refine wpAny_Raise_call_subU (nm := nm) (q := q) (N := N) (bs := bs) (hdct := hdct) (sn := sn) (sub := sub) (ab := ab) (col := col) (dd := dd) (k0 := k0) (k1 := k1) (k2 := k2) (k3 := k3) (k5 := k5) F.excBase_ValueError (bmB := bmV) (by decide +kernel) F.excBase_ValueError (mN := mN) (h4.hasType (by decide +kernel)) hh ?_ h3 (ld_glob I hg hm ⟨rfl, ?_⟩ hdb)
  · rw [he]; show (false || (backTo cpos (starEach es X.env)).any (·.1)) = false; rw [hpl]; rfl
  have hp := ha cpos pins s σ H _ I h
  rw [he] at hp ⊢
  refine Calls.evalArgs_plain (thn hp fun us s1 ⟨vs, H1, I1, r, hl, q1⟩ => ⟨rfl, by show us.length ≤ _; rw [← r.length]; exact hl, I1.bk _ _ h1, h2.keeps I1.bk, h4.keeps I1.bk, fun h' a hm => ?_⟩)
  obtain ⟨tt, ht, _, _⟩ := hm.there
  refine T pins σ H1 _ a C _ _ (I1.kept (h' := h') (t' := s1.toks) hm.keeps) ht rfl rfl rfl (.inl rfl) (I1.hok.none hm.new) ?_ q1
  cases z : X.s₀.heap.get? a with
  | none => rfl
  | some o =>
    obtain ⟨o', e⟩ := I1.base.there a o z (by rw [hex]; simp)
    rw [hm.new] at e; cases e
end L2

end

section
namespace L2
open PySem PySem.W PySem.Spec PyProof.Rows
/-- an exception that was caught -/
def ExcO (a C : Addr) (d : Option Addr) : HO := .ext fun h => ∃ o vs, h.get? a = some o ∧ o.cls = .ref C ∧ o.dict = d ∧ o.data = .fields vs ∧ (d = none ∨ vs[2]? = some .none)
theorem excO_ok {P : Program} {w : World} {H : Hp} {h : Heap} {a C T : Addr} {d : Option Addr} {fl : Value} (f : Fly h a (.ref C) d T fl) : ObjOk P w H h a (ExcO a C d) := by
  obtain ⟨oe, vs, oT, ts, he, hc, hdd, hd, _, _, _, _, _, hcx⟩ := f
  exact ⟨⟨oe, vs, he, hc, hdd, hd, hcx⟩, ⟨oe, he⟩, fun h1 h2 ⟨o, vs, e1, e2, e3, e4, e5⟩ k => ⟨o, vs, k o e1, e2, e3, e4, e5⟩⟩
theorem exc_matches {M : Model} {A : Around} {E : Value → Shared → Prop} {K : Frag} {s : Shared} {a C D : Addr} {o : Obj} {b : Bool} {Q : Bool → Shared → Prop} (X : K.In s.heap) (he : s.heap.get? a = some o) (hc : o.cls = .ref C) (cD : ExcC K D) (tyD : typeIn K (.ref D) = some (.type "type"))
    (hm : mroIn K C (.ref D) = some b) (hq : Q b s) : wpAny M A (excMatches (.ref a) (.ref D)) Q E s := by
  obtain ⟨h, g, d, t, os⟩ := s
  have L1 := looks_typeIn (M := M) X tyD
  have L2 := looks_mroIn (M := M) X cD.be
  have L3 := looks_mroIn (M := M) X hm
  have L4 := (kitx_exc (x := a) cD).it M h X
  have L5 : Looks M h (isType (.ref D)) true := by
    obtain ⟨cdD, hcD⟩ := Option.isSome_iff_exists.mp (show (clsIn K D).isSome = true from cD.is)
    unfold clsIn at hcD
    split at hcD
    · rename_i c' d' cd' sl' ho
      intro A' Q' E' s' k q
      unfold isType loadHead
      exact wpAny_bind (wpAny_loadPart (k _ _ (X _ _ ho)) (wpAny_pure q))
    · cases hcD
  have f := tc_notTuple
  unfold excMatches isExcClass isInstance
  repeat (first | (with_reducible refine wpAny_loadPart_at he ?_; rw [hc]) | with_reducible refine L1.at ?_ | with_reducible refine L5.at ?_ | with_reducible refine L2.at ?_ | with_reducible refine L3.at ?_ | wp_step)
  cases b
  · repeat (first | exact hq | wp_step)
  · repeat (first | exact hq | wp_step)
section
variable {X : Cx} {pins : List (Addr × Obj)} {σ : St} {H1 H2 : Hp} {s1 s2 : Shared} {h' : Heap} {a C T T' : Addr} {d : Option Addr}
/-- the exception is caught: it is tracked from here on -/
theorem Inv.caught {t' : Nat} (I1 : Inv X pins σ H1 s1) (I2 : Inv X pins σ H2 s2) (hex : X.ex = []) (na : s1.heap.get? a = none) (nT : s1.heap.get? T = none) (fa : H2 a = none) (fT : H2 T = none)
    (keep : ∀ b o, b ≠ a → b ≠ T → b ∉ frs X.stack → s2.heap.get? b = some o → h'.get? b = some o)
    (slot : ∀ b o, b ≠ a → b ≠ T → s2.heap.get? b = some o → ∃ sl, h'.get? b = some { o with slots := sl }) (fly : Fly h' a (.ref C) d T' .none) : Inv X pins σ (upd H2 a (ExcO a C d)) { s2 with heap := h', toks := t' } := by
  have ne : ∀ b o, s1.heap.get? b = some o → b ≠ a ∧ b ≠ T := fun b o e => ⟨fun z => (by rw [z, na] at e; cases e), fun z => (by rw [z, nT] at e; cases e)⟩
  have ne0 : ∀ b o, X.s₀.heap.get? b = some o → b ≠ a ∧ b ≠ T := fun b o e => by
    obtain ⟨o', e'⟩ := I1.base.there b o e (by rw [hex]; simp)
    exact ne b o' e'
  have neL : ∀ b o, X.s₀.heap.get? b = some o → b ≠ X.env.locals := fun b o e => Nat.ne_of_lt (Nat.lt_of_lt_of_le (Heap.lt_size e) I2.ok.above)
  have nL : X.env.locals ≠ a ∧ X.env.locals ≠ T := by
    obtain ⟨m, ⟨o, _, _, ho, _⟩, _⟩ := I1.loc
    exact ne _ o ho
  have nC : ∀ x c, X.env.cells.lookup x = some c → c ≠ a ∧ c ≠ T := fun x c e => by
    obtain ⟨v, o, ho, _⟩ := I1.cell x c e
    exact ne c o ho
  have cellK : ∀ x c, X.env.cells.lookup x = some c → ∀ v, s2.heap.IsCell c v → h'.IsCell c v := fun x c e v ⟨o, ho, hd⟩ => by
    obtain ⟨sl, q⟩ := slot c o (nC x c e).1 (nC x c e).2 ho
    exact ⟨_, q, hd⟩
  refine ⟨I2.ok, I2.os, I2.bare, ⟨fun b o e n hb hx => ?_, fun b o e n hb hx => ?_, fun b o e n hx => ?_, fun b o e hx => ?_, fun b xs e => ?_, fun b o u e => ?_, fun b ps e => ?_⟩, ?_, fun x c e => ?_, ?_, fun x c e => ?_, fun p hp => ?_, fun b u e => ?_, I2.len⟩
  · refine keep b o (ne0 b o e).1 (ne0 b o e).2 (fun z => ?_) (I2.base.keep b o e n hb hx)
    exact (List.mem_cons.mp (I2.stkSub b z)).elim (neL b o e) hb
  · obtain ⟨sl, e1⟩ := I2.base.slot b o e n hb hx
    obtain ⟨sl', e2⟩ := slot b _ (ne0 b o e).1 (ne0 b o e).2 e1
    exact ⟨sl', e2⟩
  · rw [upd_ne (ne0 b o e).1]; exact I2.base.free b o e n hx
  · obtain ⟨o', e1⟩ := I2.base.there b o e hx
    obtain ⟨sl', e2⟩ := slot b _ (ne0 b o e).1 (ne0 b o e).2 e1
    exact ⟨_, e2⟩
  · have := I2.base.tups b xs e
    rw [upd_ne (ne_of_none this fa)]; exact this
  · have := I2.base.frzs b o u e
    rw [upd_ne (ne_of_none this fa)]; exact this
  · obtain ⟨more, this⟩ := I2.base.tbls b ps e
    exact ⟨more, by rw [upd_ne (ne_of_none this fa)]; exact this⟩
  · obtain ⟨m, ⟨o, es, ep, ho, r⟩, hl⟩ := I2.loc
    obtain ⟨sl, q⟩ := slot _ o nL.1 nL.2 ho
    refine ⟨m, ⟨_, es, ep, q, r⟩, fun i x v e1 e2 e3 => ?_⟩
    obtain ⟨u, r, l⟩ := hl i x v e1 e2 e3
    refine ⟨u, r, ?_⟩
    rcases l with l | ⟨k, c, e, z⟩
    · exact .inl l
    · exact .inr ⟨k, c, e, cellK x c e _ z⟩
  · obtain ⟨v, z⟩ := I2.cell x c e
    exact ⟨v, cellK x c e v z⟩
  · rw [upd_ne nL.1]; exact I2.free
  · rw [upd_ne (nC x c e).1]; exact I2.freeC x c e
  · obtain ⟨e, n, ne', nf, dd⟩ := I2.pin p hp
    obtain ⟨e1, _⟩ := I1.pin p hp
    refine ⟨keep p.1 p.2 (ne _ _ e1).1 (ne _ _ e1).2 (fun z => (List.mem_cons.mp (I2.stkSub _ z)).elim ne' nf) e, ?_, ne', nf, dd⟩
    rw [upd_ne (ne _ _ e1).1]; exact n
  · by_cases hb : b = a
    · subst hb
      rw [upd_same] at e; cases e
      exact excO_ok fly
    · rw [upd_ne hb] at e
      refine (I2.hok b u e).stay (fun c v hc q => ?_) (fun c r => by rw [upd_ne (ne_of_none r fa)]; exact r) fun c xs r => by rw [upd_ne (ne_of_none r fa)]; exact r
      have hcn : ∃ z, H2 c = some z := by
        rcases hc with rfl | hc
        · exact ⟨_, e⟩
        · exact ⟨_, hc⟩
      obtain ⟨z, hz⟩ := hcn
      refine keep c v (ne_of_none hz fa) (ne_of_none hz fT) (fun y => ?_) q
      rw [I2.stkFree c y] at hz; cases hz
end
/-! ### try -/
def tryXe (X : Cx) (pn : List (Addr × Obj)) (Eh : St → XK) (e : Value) (s' : Shared) : Prop := ∃ a C d T σ' H1 H' s1, e = .ref a ∧ Inv { X with pn := pn } [] σ' H1 s1 ∧ Inv { X with pn := pn } [] σ' H' s' ∧ Fly s'.heap a (.ref C) d T .none ∧
  H' a = none ∧ H' T = none ∧ s1.heap.get? a = none ∧ s1.heap.get? T = none ∧ Eh σ' (.ref C) d H'
def Cx.tryC (X : Cx) (pn : List (Addr × Obj)) (Eh : St → XK) : Cx := { X with pn := pn, xe := tryXe X pn Eh }
def Cx.handC (X : Cx) (pn : List (Addr × Obj)) (e : Addr) : Cx := { X with pn := pn, A := X.A.mark (some (.ref e)), calm := false, xe := fun _ _ => False }
theorem passes_try {X : Cx} {pn : List (Addr × Obj)} {Eh : St → XK} : PassesX (CXe X.prog X.w) (X.tryC pn Eh) Eh := by
  intro pins σ H1 s1 e s2 I h
  obtain ⟨a, C, d, H2, T, rfl, os, bare, un, hok, fly, fa, fT, na, nT, q⟩ := h
  have I1 : Inv { X with pn := pn } [] σ H1 s1 := Inv.unwish (X := { X with pn := pn }) (Inv.pins_of (pins' := []) I (by simp))
  exact ⟨a, C, d, T, σ, H1, H2, s1, rfl, I1, I1.call' (ch := []) os un hok bare (fun b z => absurd z (by simp)), fly, fa, fT, na, nT, q⟩
def tTry (K : Frag) (D : Addr) (i : Nat) (Eh : St → XK) (tb th : TS) : TS := fun Dn σ H => tb Dn σ H ∧ ∀ σ' C d H' a, Eh σ' (.ref C) d H' → H' a = none → mroIn K C (.ref D) = some true ∧
  th { nx := fun σ H => Dn.nx (σ.set i none) H, rt := Dn.rt, bk := fun σ H => Dn.bk (σ.set i none) H, ct := fun σ H => Dn.ct (σ.set i none) H } (σ'.set i (some (.ref a))) (upd H' a (ExcO a C d))
theorem Cx.Ok.pns {X : Cx} (ok : X.Ok) (pn : List (Addr × Obj)) : Cx.Ok { X with pn := pn } :=
  ⟨ok.mod, ok.kind, ok.glob, ok.blt, ok.above, ok.inj, ok.has, ok.cab, ok.hd, ok.frames, ok.stk, ok.exf, ok.bs, ok.bsz, ok.noex, ok.exfs, ok.funs, ok.frf⟩
theorem Cx.Ok.hand {X : Cx} {pn : List (Addr × Obj)} (ok : Cx.Ok { X with pn := pn }) (e : Addr) : Cx.Ok (X.handC pn e) :=
  ⟨ok.mod, ok.kind, ok.glob, ok.blt, ok.above, ok.inj, ok.has, ok.cab, fun z => Bool.noConfusion z, ok.frames, ok.stk, ok.exf, ok.bs, ok.bsz, ok.noex, ok.exfs, ok.funs, ok.frf⟩
theorem Inv.hand {X : Cx} {pn : List (Addr × Obj)} {σ : St} {H : Hp} {s : Shared} (I : Inv { X with pn := pn } [] σ H s) (e : Addr) : Inv (X.handC pn e) [] σ H s :=
  ⟨I.ok.hand e, I.os, I.bare, I.base, I.loc, I.cell, I.free, I.freeC, I.pin, I.hok, I.len⟩
theorem Inv.ins {X : Cx} {pins : List (Addr × Obj)} {σ : St} {H : Hp} {s : Shared} (I : Inv X pins σ H s) : Inv { X with pn := X.pn ++ pins } [] σ H s :=
  ⟨I.ok.pns _, I.os, I.bare, I.base, I.loc, I.cell, I.free, I.freeC, fun p hp => I.pin p (by simpa using hp), I.hok, I.len⟩
theorem Inv.outs {X Y : Cx} {pins : List (Addr × Obj)} {σ : St} {H : Hp} {s : Shared} (ok : X.Ok) (I : Inv { X with pn := X.pn ++ pins } [] σ H s) : Inv X pins σ H s :=
  ⟨ok, I.os, I.bare, I.base, I.loc, I.cell, I.free, I.freeC, fun p hp => I.pin p (by simpa using hp), I.hok, I.len⟩
theorem Inv.unhand {X : Cx} {pins : List (Addr × Obj)} {σ : St} {H : Hp} {s : Shared} {e : Addr} (ok : X.Ok) (I : Inv (X.handC (X.pn ++ pins) e) [] σ H s) : Inv X pins σ H s :=
  ⟨ok, I.os, I.bare, I.base, I.loc, I.cell, I.free, I.freeC, fun p hp => I.pin p (by simpa [Cx.handC] using hp), I.hok, I.len⟩
/-- a name goes -/
theorem Inv.gone {X : Cx} {M : Model} {A : Around} {E : Value → Shared → Prop} {pins : List (Addr × Obj)} {σ : St} {H : Hp} {s : Shared} {n : Str} {i : Nat} {pos : Pos} {Q : Unit → Shared → Prop} (I : Inv X pins σ H s) (hN : X.N.Nodup) (hi : X.N[i]? = some n) (hl : X.env.scope.names.lookup n = some .local)
    (h : ∀ s', Inv X pins (σ.set i none) H s' → Q () s') : wpAny M A (do bindName X.env n .none; unbindBehindTheSuite X.env n pos) Q E s := by
  obtain ⟨m, hn, hlk⟩ := id I.loc
  have hcls : (X.env.scope.kind == .class || (X.env.scope.kind == .module && X.env.locals != X.env.globals)) = false := by rw [I.ok.kind]; rfl
  have hiσ : i < σ.length := by rw [I.len]; exact (List.getElem?_eq_some_iff.mp hi).1
  refine wpAny_nameGoes_keeps hl hn hcls fun h' v hn' hs => ?_
  obtain ⟨oL, _, _, hoL, _⟩ := id hn
  have tracked : HOk X.prog X.w H h' := fun b ob e => by
    refine (I.hok b ob e).stay (fun c w' hc q => (hs.2 c ?_).trans q) (fun _ q => q) fun _ _ q => q
    rintro rfl
    rcases hc with rfl | hc
    · rw [I.free] at e; cases e
    · rw [I.free] at hc; cases hc
  refine h _ ⟨I.ok, I.os, I.bare, ⟨fun b o e n hb hx => ?_, fun b o e n hb hx => ?_, I.base.free, fun b o e hx => ?_, I.base.tups, I.base.frzs, I.base.tbls⟩, ⟨_, hn', fun j y v' e1 e2 e3 => ?_⟩, fun y c e => ?_, I.free, I.freeC, fun p hp => ?_, tracked, by simpa using I.len⟩
  · exact (hs.2 b (Nat.ne_of_lt (Nat.lt_of_lt_of_le (Heap.lt_size e) I.ok.above))).trans (I.base.keep b o e n hb hx)
  · obtain ⟨sl, e1⟩ := I.base.slot b o e n hb hx
    exact ⟨sl, (hs.2 b (Nat.ne_of_lt (Nat.lt_of_lt_of_le (Heap.lt_size e) I.ok.above))).trans e1⟩
  · obtain ⟨o', e1⟩ := I.base.there b o e hx
    exact ⟨o', (hs.2 b (Nat.ne_of_lt (Nat.lt_of_lt_of_le (Heap.lt_size e) I.ok.above))).trans e1⟩
  · by_cases hj : j = i
    · subst hj
      rw [List.getElem?_set_self hiσ] at e2
      cases e2
    · rw [List.getElem?_set_ne (Ne.symm hj)] at e2
      obtain ⟨u', r', q⟩ := hlk j y v' e1 e2 e3
      refine ⟨u', r', ?_⟩
      rcases q with ⟨k, e⟩ | ⟨k, c, e, z⟩
      · refine .inl ⟨k, ?_⟩
        have : y ≠ n := fun e => hj (nodup_ix hN e1 (e ▸ hi))
        simp [this, e]
      · exact .inr ⟨k, c, e, z.sameBut hs (I.cne y c e)⟩
  · obtain ⟨w', z⟩ := I.cell y c e
    exact ⟨w', z.sameBut hs (I.cne y c e)⟩
  · obtain ⟨e, n, ne, nf, d⟩ := I.pin p hp
    exact ⟨(hs.2 p.1 ne).trans e, n, ne, nf, d⟩
theorem ps_try {X : Cx} {body suite : List Stmt} {b₀ : Stmt} {x n : Str} {i : Nat} {D : Addr} {np pos tpos : Pos} {tb th : TS} {Eh : St → XK} (hb : ∀ pn, PSs (X.tryC pn Eh) body tb) (hh : ∀ pn e, PSs (X.handC pn e) (b₀ :: suite) th)
    (hm : X.mg x = some (.ref D)) (cD : ExcC X.K D) (tyD : typeIn X.K (.ref D) = some (.type "type")) (hN : X.N.Nodup) (hi : X.N[i]? = some n := by rfl) (hl : X.env.scope.names.lookup n = some .local := by rfl)
    (hs : X.stack = X.env :: X.outer := by rfl) (hf : X.env.frame = some X.env.locals := by rfl) (hex : X.ex = [] := by rfl) (hg : Gl X x := by rfl) (hdb : (x == ("__debug__" : Str)) = false := by decide +kernel) :
    PS X (.Try body [.ExceptHandler (some (.Name x np)) (some n) (b₀ :: suite) pos] [] [] tpos) (tTry X.K D i Eh tb th) := by
  intro pins s σ H Dn I ⟨h1, h2⟩
  have ok := I.ok
  refine wpAny_Try_except (wpAny_mono (hb (X.pn ++ pins) [] s σ H Dn (I.ins.wish _) h1) (fun f s1 z => ?_) (fun e s1 z => ?_))
  · cases f with
    | next =>
      obtain ⟨σ', H', I', q⟩ := z
      exact pss_nil (X := X) pins s1 σ' H' Dn (Inv.outs (Y := X) ok (Inv.unwish (X := { X with pn := X.pn ++ pins }) I')) q
    | brk => obtain ⟨σ', H', I', q⟩ := z; exact ⟨σ', H', Inv.outs (Y := X) ok (Inv.unwish (X := { X with pn := X.pn ++ pins }) I'), q⟩
    | cont => obtain ⟨σ', H', I', q⟩ := z; exact ⟨σ', H', Inv.outs (Y := X) ok (Inv.unwish (X := { X with pn := X.pn ++ pins }) I'), q⟩
    | ret u => obtain ⟨v, σ', H', I', r, q⟩ := z; exact ⟨v, σ', H', Inv.outs (Y := X) ok (Inv.unwish (X := { X with pn := X.pn ++ pins }) I'), r, q⟩
  obtain ⟨a, C, d, T, σ', H1, H', s0, rfl, I1, I2, fly, fa, fT, na, nT, q⟩ := z
  obtain ⟨hmm, ht⟩ := h2 σ' C d H' a q fa
  have fr : X.A.frames = some (X.env :: X.outer) := ok.frames.trans (congrArg some hs)
  have fst : s1.heap.FunFrames X.base (X.env :: X.outer) := hs ▸ I2.stack
  refine noteD fr fst hf fly fun h' T' x1 x2 x3 x4 => ?_
  refine landD (s := { s1 with heap := h' }) x3 x1 fun h2 y1 y2 y3 => ?_
  have nT' : ∀ b o, s1.heap.get? b = some o → b ≠ T' := fun b o e z => by rw [z, x2] at e; cases e
  have k2 : ∀ b o, b ≠ a → b ≠ T → b ∉ frs X.stack → s1.heap.get? b = some o → h2.get? b = some o := fun b o e1 e2 e3 e4 => y3 b o (nT' b o e4) (x4.keep b o e1 (fun z => e2 (Option.some.inj z)) (fun z => e3 (by rw [hs]; exact z)) e4)
  have l2 : ∀ b o, b ≠ a → b ≠ T → s1.heap.get? b = some o → ∃ sl, h2.get? b = some { o with slots := sl } := fun b o e1 e2 e4 => by
    obtain ⟨sl, e⟩ := x4.slot b o e1 (fun z => e2 (Option.some.inj z)) e4
    exact ⟨sl, y3 b _ (nT' b o e4) e⟩
  have J2 := (I1.caught (h' := h2) (t' := s1.toks) I2 hex na nT fa fT k2 l2 y1).hand a
  refine wpAny_handleBy_cons (codeAny_handlers_test (ld_glob J2 hg hm ?_ hdb)) (by intro q; cases q)
  obtain ⟨oe, vs, oT, ts, he, hc, hdd, hd, _⟩ := id y1
  refine exc_matches (K := X.K) J2.kIn he hc cD tyD hmm ?_
  refine codeAny_handlers_suite_as (landD (s := { s1 with heap := h2 }) y2 y1 fun h3 w1 w2 w3 => ?_)
  have n2 : ∀ b o, b ≠ T' → h2.get? b = some o → h3.get? b = some o := w3
  have J3 := (I1.caught (h' := h3) (t' := s1.toks) I2 hex na nT fa fT (fun b o e1 e2 e3 e4 => w3 b o (nT' b o e4) (k2 b o e1 e2 e3 e4)) (fun b o e1 e2 e4 => by
    obtain ⟨sl, e⟩ := l2 b o e1 e2 e4
    exact ⟨sl, w3 b _ (nT' b o e4) e⟩) w1).hand a
  refine store_ok (X := X.handC (X.pn ++ pins) a) (v := .ref a) J3 hN hi (.inl hl) rfl (fun s4 I4 => ?_) (.inr hl)
  refine wpAny_mono (hh (X.pn ++ pins) a [] s4 _ _ _ I4 ht) (fun f s5 z => ?_) fun _ _ z => False.elim z
  cases f with
  | next =>
    obtain ⟨σ5, H5, I5, q5⟩ := z
    exact Inv.gone (I5.unhand ok) hN hi hl fun s6 I6 => ⟨_, H5, I6, q5⟩
  | brk =>
    obtain ⟨σ5, H5, I5, q5⟩ := z
    exact Inv.gone (I5.unhand ok) hN hi hl fun s6 I6 => ⟨_, H5, I6, q5⟩
  | cont =>
    obtain ⟨σ5, H5, I5, q5⟩ := z
    exact Inv.gone (I5.unhand ok) hN hi hl fun s6 I6 => ⟨_, H5, I6, q5⟩
  | ret u =>
    obtain ⟨v, σ5, H5, I5, r5, q5⟩ := z
    exact Inv.gone (I5.unhand ok) hN hi hl fun s6 I6 => ⟨v, _, H5, I6, r5, q5⟩
end L2

end

section
namespace L2
open PySem PySem.W PySem.Spec PyProof.Rows
section
variable {X : Cx}
/-- isinstance(e, c), e an exception that was caught -/
theorem call_isinstX : CallR X (.builtin "isinstance") (fun xs H Q => ∃ a C d c b, xs = [.ref a, c] ∧ H a = some (ExcO a C d) ∧ ExcC X.K C ∧ (d = none ∨ ∃ dx fs, d = some dx ∧ H dx = some (.xd fs)) ∧ (∀ cv, RelV c cv → PySem.W.kitOne X.K (.ref C) cv = some b) ∧ Q (.bl b) H) := by
  intro pins s σ H xs us Q I r h
  obtain ⟨a, C, d, c, b, rfl, ea, xc, hd, ek, q⟩ := h
  obtain ⟨u, w', rfl, r1, r2⟩ := vals2 r
  cases (show u = Value.ref a from r1)
  obtain ⟨⟨o, vs, e1, e2, e3, e4, _⟩, _⟩ := (show ObjOk X.prog X.w H s.heap a (ExcO a C d) from I.hok a _ ea)
  have J : ∃ ox odo, W.InstAt s.heap a ox C odo := by
    obtain ⟨cls, dict, data, sl⟩ := o
    subst e2 e3 e4
    rcases hd with rfl | ⟨dx, fs, rfl, hx⟩
    · exact ⟨_, none, e1, rfl, rfl, trivial⟩
    · obtain ⟨u, eu⟩ := I.hok.there hx
      exact ⟨_, some u, e1, rfl, rfl, eu⟩
  exact PySem.W.kia_one (kitx_exc xc) I.kIn J (ek w' r2) (fun z => nomatch z) fun tk => ⟨.bl b, H, I.tok _, rfl, q⟩
/-! ### lists of bools -/
theorem kb_canLay : ∀ ns : List Bool, PyData.canLayAll0 (ns.map PyData.bool) = true
  | [] => rfl
  | _ :: r => by simp [PyData.canLayAll0, PyData.canLay0, kb_canLay r]
theorem kb_depth : ∀ ns : List Bool, PyData.depthAll (ns.map PyData.bool) = 0
  | [] => rfl
  | _ :: r => by simp [PyData.depthAll, PyData.depth, kb_depth r]
theorem kb_shaped (ns : List Bool) : SeqAt.shaped (.list (ns.map PyData.bool)) = true := by
  simp [SeqAt.shaped, PyData.canLay0, PyData.depth, kb_canLay, kb_depth]
theorem kb_sameAll : ∀ ns ms : List Bool, PySem.Spec.sameAll (ns.map PyData.bool) (ms.map PyData.bool) = decide (ns = ms)
  | [], [] => by simp [PySem.Spec.sameAll]
  | [], _ :: _ => by simp [PySem.Spec.sameAll]
  | _ :: _, [] => by simp [PySem.Spec.sameAll]
  | a :: r, b :: t => by
    simp only [List.map_cons, PySem.Spec.sameAll, PySem.Spec.same, kb_sameAll r t]
    by_cases h : a = b <;> by_cases h' : r = t <;> simp [h, h']
theorem kb_same (ns ms : List Bool) : PySem.Spec.same (.list (ns.map PyData.bool)) (.list (ms.map PyData.bool)) = decide (ns = ms) := by
  simp only [PySem.Spec.same]; exact kb_sameAll ns ms
theorem kb_carried : ∀ {vs : List Value} {ns : List Bool}, Vals (ns.map V.bl) vs → CarriedAll vs (ns.map PyData.bool)
  | [], [], _ => .nil
  | v :: vs, b :: ns, h => by
    cases h with
    | cons a r =>
      cases (show v = Value.bool b from a)
      exact .cons (.bool _) (kb_carried r)
  | [], _ :: _, h => by cases h
  | _ :: _, [], h => by cases h
theorem room64 {k : Nat} {A : Around} (hr : Room k A) : A.units + 64 < cLine := by have := hr.un; omega
end
/-! ### a def that answers or refuses -/
section
variable {X : Cx} {k1 k2 k' : Nat} {x : Str} {ps : List Str} {sp1 sp2 : Sp} {e : Expr} {es : List Expr} {t : TA} {p pos : Pos} {E : St → XK}
end
end L2
namespace L2
open PySem
theorem bo_ValueError : bootBuiltins "ValueError" = some (.type "ValueError") := by decide +kernel
end L2

end

section
namespace L2
open PySem PySem.W PySem.Spec PyProof.Rows PySem.Builtin.ObjectAttr
/-! ### an attribute laid on a new exception -/
def overV : List Value → Bool
  | .ref _ :: r => overV r
  | l => l == bmV
structure ExcS (K : Frag) (C : Addr) : Prop extends ExcC K C where
  sa : findIn K (.ref C) "__setattr__" = some (some (.builtin "object.__setattr__"))
  ov : (clsIn K C).any (fun cd => overV cd.mro) = true
  hd : hasDictIn K C = true
section
variable {K : Frag} {prog : Program} {w : World} {A : Around} {E : Value → Shared → Prop} {s : Shared} {x C : Addr} {ox : Obj} {od : Option Obj} {name : Str} {v : Value}
end
end L2

end

section
namespace L2
open PySem PySem.W PySem.Spec PyProof.Rows
/-! ### a class of exceptions with an __init__ of the text -/
def excInI (K : Frag) (C f : Addr) : Bool := match K.lookup C with
  | some ⟨.type "type", _, .cls cd, sl⟩ => (match cd.mro, sl.toList with
    | .ref C' :: bm, [_, _, _, _, some (.builtin n), _] => C' == C && n == "ValueError.__new__" && !cd.hasDel && tailIn K bmV bm && nsOkIn K cd.ns && nsIn K cd.ns "__init__" == some (some (.ref f))
    | _, _ => false)
  | _ => false
structure ClsAtI (h : Heap) (C f : Addr) : Prop where
  ex : ∃ (bm : List Value) (N : Addr) (nm q : Str) (bs : List Value) (hdct : Bool) (sn : List Str) (sub : List Value) (ab : Bool) (col : Option Bool) (dd : Option Addr) (k0 k1 k2 k3 k5 : Option Value) (mN : Str → Option Value),
    h.get? C = some (excClassObj nm q C N bs bm hdct sn sub ab col dd k0 k1 k2 k3 k5 "ValueError.__new__") ∧ h.Ns N mN ∧ mN "__init__" = some (.ref f) ∧ OwnTail h bmV bm
section
variable {prog : Program} {w : World} {A : Around} {E : Value → Shared → Prop} {h : Heap} {g : Array GenState} {d : Drawn} {t : Nat} {os : OsState}
variable {nm q : Str} {C N : Addr} {bs bm bmB : List Value} {hdct : Bool} {sn : List Str} {sub : List Value} {ab : Bool} {col : Option Bool} {dd : Option Addr} {k0 k1 k2 k3 k5 : Option Value} {B Bn newId nid initId inN : String} {bmN : List Value}
end
structure XMk (K : Frag) (mg : Str → Option Value) (x : Str) (C f : Addr) : Prop where
  xi : excInI K C f = true
  fn : typeIn K (.ref f) = some (.type "function")
  kp : keepIn K (.ref C) = true
  be : mroIn K C (.type "BaseException") = some true
  ty : typeIn K (.ref C) = some (.type "type")
  gm : mg x = some (.ref C)
end L2

end

section
namespace L2
open PySem PySem.W PySem.Spec PyProof.Rows
/-! ### f-strings of texts and small ints -/
abbrev TJ := Str → St → Hp → VK → Prop
section
variable {X : Cx} {e o : Expr} {es : List Expr} {te ta tv : TE} {t : TJ} {pos : Pos}
end
/-! ### B.__init__(self, ..), B an own base without __init__ -/
section
variable {X : Cx} {x : Str} {C D f : Addr} {np apos pos : Pos} {e : Expr} {es : List Expr} {t : TA}
end
/-! ### self.place = .. in __init__ -/
end L2

end

section
namespace L2
open PySem PySem.W PySem.Spec PyProof.Rows
/-! ### methods that answer or refuse -/
section
variable {X : Cx} {k1 k2 k' : Nat} {C : Addr} {m : Str} {ps : List Str} {sp1 sp2 : Sp} {e o : Expr} {es : List Expr} {t : TA} {ta : TE} {p pos apos : Pos} {E : St → XK}
end
end L2
namespace L2
open PySem PySem.Spec PyProof.Rows
end L2

end

section
namespace KM
open PySem L2
end KM

end

section
namespace L2
open PySem PySem.W PySem.Spec PyProof.Rows
section
variable {X : Cx}
def rEqB : R2 := fun x y H Q => ∃ (l b : Addr) (xs zs : List Bool), x = .ref l ∧ y = .ref b ∧ H l = some (.lst (xs.map .bl)) ∧ H b = some (.lst (zs.map .bl)) ∧ Q (.bl (decide (xs = zs))) H
theorem op_eqB (hu : X.A.units + 64 < cLine) : OpR X (compareOp .Eq) rEqB := by
  intro pins s σ H x y v u Q I rx ry h
  obtain ⟨l, b, xs, zs, rfl, rfl, h1, h2, q⟩ := h
  cases rx
  cases ry
  obtain ⟨_, its, n, r, _, e⟩ := I.lstM h1
  obtain ⟨_, its2, n2, r2, _, e2⟩ := I.lstM h2
  exact eq_dataH_same (reads_newData ⟨_, e, rfl, n, rfl⟩ (kb_carried r)) (reads_newData ⟨_, e2, rfl, n2, rfl⟩ (kb_carried r2)) (kb_shaped _) (kb_shaped _) hu (SeqAt.noMix_of_shape (.list .bool) rfl _ _ (list_map_has fun _ => rfl) (list_map_has fun _ => rfl)) (by rw [kb_same]; exact ⟨.bl _, H, I, rfl, q⟩)
def oAdd3 := OpR.or (oAdd (X := X)) op_cat
def oMul3 := OpR.or (oMul (X := X)) op_rep
def oEqM (hu : X.A.units + 64 < cLine) := OpR.or (oEq (X := X)) (op_eqB hu)
end
end L2
namespace KM
open PySem L2
end KM

end

section
namespace L2
open PySem PySem.W PySem.Spec PyProof.Rows
/-! ### great numbers -/
section
variable {X : Cx}
def CDivB (i j : Int) : Prop := 0 < j ∧ (Builtin.Int.intBits j ≤ 9000 ∨ Builtin.Int.intBits i ≤ Builtin.Int.intBits j + 4000)
theorem log2_bits {j : Int} (h : j ≠ 0) : j.natAbs.log2 + 1 = Builtin.Int.intBits j := by
  unfold Builtin.Int.intBits
  rw [if_neg (by simpa using h)]
theorem CDivB.ok {i j : Int} (h : CDivB i j) : Builtin.divisionGoesByPylong i j = false := by
  unfold Builtin.divisionGoesByPylong
  have hj := log2_bits (Int.ne_of_gt h.1)
  have h2 := h.2
  have ej : (j == 0) = false := by have := h.1; simp; omega
  simp only [Bool.and_eq_false_iff, decide_eq_false_iff_not, ej, if_neg (show ¬ (false = true) from by decide)]
  rcases h2 with h2 | h2
  · left; omega
  · right
    by_cases hi : i = 0
    · subst hi; rw [if_pos (by decide)]; omega
    · have hi2 := log2_bits hi
      rw [if_neg (by simpa using hi)]
      omega
end
/-! ### reversed(a list) -/
section
variable {X : Cx} {tg : Expr}
/-- all(a list of bools) -/
theorem call_all (hc : X.calm = true) : CallR X (.builtin "all") (fun xs H Q => ∃ a, ∃ bs : List Bool, xs = [.ref a] ∧ SqL X.K H a (bs.map .bl) ∧ Q (.bl (bs.all id)) H) := by
  intro pins s σ H xs us Q I r h
  obtain ⟨a, bs, rfl, hq, q⟩ := h
  obtain ⟨u, rfl, ru⟩ := vals1 r
  obtain rfl : u = Value.ref a := ru
  obtain ⟨its, rv, pl, hz⟩ := I.list hq
  have hlen := rv.length
  have hlt : a < s.heap.objs.size := by obtain ⟨o, ho, _⟩ := pl.isList; exact Heap.lt_size ho
  refine call_all_walkS (wpAny_pyIter_list pl.isList ?_)
  refine ⟨s.heap.objs.size, [s.heap.objs.size, a], [s.heap.objs.size], _, its.toArray.size, _, _, fun i => bs.getD i false, rfl, (Walks.list (A := X.A.in1) (I.ok.hd hc) s.heap.objs.size a (Nat.ne_of_lt hlt) its.toArray).toS, ⟨⟨_, Heap.get?_push_size _ rfl, rfl, rfl⟩, ?_⟩, ?_, fun s' mv => ?_⟩
  · obtain ⟨o, ho, r⟩ := pl.isList; exact ⟨o, Heap.get?_push_of_some _ ho, r⟩
  · intro i v s2 Q2 E2 hv q2
    have hv' : its[i]? = some v := by simpa using hv
    have hi : i < bs.length := by
      have := (List.getElem?_eq_some_iff.mp hv').1
      rw [List.length_map] at hlen; omega
    have hb : (bs.map V.bl)[i]? = some (.bl (bs.getD i false)) := by rw [List.getElem?_map, List.getElem?_eq_getElem hi, List.getD_eq_getElem?_getD, List.getElem?_eq_getElem hi]; rfl
    obtain ⟨u, hu, ru⟩ := rv.get hb
    rw [hv'] at hu; cases hu
    obtain rfl : v = Value.bool (bs.getD i false) := ru
    exact wpAny_truthy_bool q2
  · have hall : (List.range its.toArray.size).all (fun i => bs.getD i false) = bs.all id := by
      rw [List.size_toArray, ← hlen, List.length_map]
      apply Bool.eq_iff_iff.mpr
      rw [List.all_eq_true, List.all_eq_true]
      constructor
      · intro h x hx
        obtain ⟨i, hi, rfl⟩ := List.mem_iff_getElem.mp hx
        have := h i (List.mem_range.mpr hi)
        rw [List.getD_eq_getElem?_getD, List.getElem?_eq_getElem hi] at this
        exact this
      · intro h i hi
        have hi' := List.mem_range.mp hi
        rw [List.getD_eq_getElem?_getD, List.getElem?_eq_getElem hi']
        exact h _ (List.getElem_mem hi')
    rw [hall]
    refine ⟨.bl _, H, ?_, rfl, q⟩
    have I2 : Inv X pins σ H { s with heap := s.heap.push { cls := .type "list_iterator", data := .fields #[.ref a, .int 0 0] } } := I.kept (t' := s.toks) fun b o e => Heap.get?_push_of_some _ e
    obtain ⟨f0, f1, f2, f3, f4, f5⟩ := I.fpOk (b := s.heap.objs.size) (Nat.le_refl _) (I.hok.fresh (Nat.le_refl _))
    have e : s' = { s with heap := s'.heap, toks := s'.toks } := by
      obtain ⟨h1, g1, d1, t1, o1⟩ := s'
      have := mv.gens; have := mv.drawn; have := mv.os
      dsimp only at *
      subst_vars; rfl
    have I3 := I2.turned (t' := s'.toks) (it := s.heap.objs.size) (h' := s'.heap) (fun b o hb e => mv.heap b o (by simpa using hb) e) f0 f1 f3 f4 f5
    rw [e]
    exact I3
end
end L2
namespace L2
open PySem PySem.W PySem.Spec PyProof.Rows
/-! ### lists of ints, == and != -/
section
variable {X : Cx}
end
end L2
namespace L2
open PySem PySem.W PySem.Spec PyProof.Rows
/-! ### comprehensions over a list -/
theorem comp_list {K : PySem.W.Frag} {a : Addr} {xs : List V} {g : TG} {te : TE} {Q : VK} {H : Hp} {D : Addr} {σ0 : St} (f : V → V) (S : St → Prop) (hz : xs.length ≤ sizeLine) (h0 : S σ0) (hD : H D = none) (hl : SqL K H a xs)
    (ht : ∀ x, x ∈ xs → ∀ σ1 H1, S σ1 → Same H H1 → ∀ R : St → V → Hp → Prop, (∀ σ2, S σ2 → R σ2 (f x) H1) → g x σ1 H1 fun σ2 H2 => te σ2 H2 fun y H3 => R σ2 y H3)
    (hq : Q (.ref D) (upd H D (.lst (xs.map f)))) :
    CompGo (Itl K a) g tYes te Q σ0 H D := by
  refine ⟨fun i m σ1 H2 => i ≤ xs.length ∧ m = xs.length - i ∧ S σ1 ∧ H2 = upd H D (.lst ((xs.take i).map f)), ⟨xs.length, Nat.zero_le _, rfl, h0, rfl⟩, ?_⟩
  rintro i m σ1 H2 ⟨h1, rfl, h2, rfl⟩
  have hl2 := (same_new (o := .lst ((xs.take i).map f)) hD).seq hl
  rcases Nat.lt_or_ge i xs.length with z | z
  · refine .inr ⟨⟨xs, xs[i], hl2, List.getElem?_eq_getElem z⟩, ?_⟩
    rintro x H3 ⟨rfl, hx⟩
    have hx := hx xs hl2
    refine ht x (List.mem_of_getElem? hx) σ1 _ h2 (same_new hD) (fun σ2 y H6 => ∃ ys m', H6 D = some (.lst ys) ∧ ys.length < sizeLine ∧ m' < xs.length - i ∧ (i + 1 ≤ xs.length ∧ m' = xs.length - (i + 1) ∧ S σ2 ∧ upd H6 D (.lst (ys ++ [y])) = upd H D (.lst ((xs.take (i + 1)).map f)))) fun σ2 q3 => ?_
    refine ⟨_, xs.length - (i + 1), upd_same, ?_, by omega, by omega, rfl, q3, ?_⟩
    · rw [List.length_map, List.length_take]; omega
    · rw [upd_upd', List.take_add_one, hx, List.map_append]; rfl
  · have e : i = xs.length := by omega
    subst e
    rw [List.take_length]
    rw [List.take_length] at hl2
    exact .inl ⟨⟨xs, hl2, Nat.le_refl _⟩, hq⟩
end L2

end

section
namespace KM
open PySem L2
/-! ### fractions and their steps -/
/-- the fraction that has these steps; of no steps (1, 0), so that one more goes on alike -/
def frac : List Int → Int × Int
  | [] => (1, 0)
  | a :: r => (a * (frac r).1 + (frac r).2, (frac r).1)
/-- steps behind the first -/
def Tail (r : List Int) : Prop := (∀ x ∈ r, 1 ≤ x) ∧ ∀ h : r ≠ [], 2 ≤ r.getLast h
def Good : List Int → Prop
  | [] => False
  | _ :: r => Tail r
theorem Tail.tl {a : Int} {r : List Int} (h : Tail (a :: r)) : Tail r := by
  refine ⟨fun x hx => h.1 x (List.mem_cons_of_mem _ hx), fun hr => ?_⟩
  have := h.2 (List.cons_ne_nil _ _)
  rwa [List.getLast_cons hr] at this
theorem Tail.frac : ∀ {r : List Int}, Tail r → 0 ≤ (frac r).2 ∧ (frac r).2 < (frac r).1 ∧ (r ≠ [] → 0 < (frac r).2)
  | [], _ => ⟨by decide, by decide, fun h => absurd rfl h⟩
  | a :: r, h => by
    obtain ⟨h1, h2, h3⟩ := h.tl.frac
    have ha := h.1 a (List.mem_cons_self ..)
    show 0 ≤ (KM.frac r).1 ∧ (KM.frac r).1 < a * (KM.frac r).1 + (KM.frac r).2 ∧ (_ → 0 < (KM.frac r).1)
    refine ⟨by omega, ?_, fun _ => by omega⟩
    by_cases hr : r = []
    · subst hr
      have hl := h.2 (List.cons_ne_nil _ _)
      have hl' : (2 : Int) ≤ a := hl
      show (1 : Int) < a * 1 + 0
      omega
    · have := h3 hr
      have hm : 1 * (KM.frac r).1 ≤ a * (KM.frac r).1 := Int.mul_le_mul_of_nonneg_right ha (by omega)
      omega
theorem frac_div {a : Int} {r : List Int} (h : Tail r) : (frac (a :: r)).1 / (frac (a :: r)).2 = a ∧ (frac (a :: r)).1 % (frac (a :: r)).2 = (frac r).2 := by
  obtain ⟨h1, h2, _⟩ := h.frac
  show (a * (frac r).1 + (frac r).2) / (frac r).1 = a ∧ (a * (frac r).1 + (frac r).2) % (frac r).1 = (frac r).2
  constructor
  · rw [Int.add_comm, Int.add_mul_ediv_right _ _ (by omega), Int.ediv_eq_zero_of_lt h1 h2, Int.zero_add]
  · rw [Int.add_comm, Int.add_mul_emod_self_right, Int.emod_eq_of_lt h1 h2]
/-! sizes -/
/-! whether a list has a fraction -/
theorem Good.ne {s : List Int} (h : Good s) : s ≠ [] := by intro e; subst e; exact h
end KM

end

section
namespace L2
open PySem PySem.W PySem.Spec PyProof.Rows
section
variable {X : Cx} {pins : List (Addr × Obj)} {σ : St} {H : Hp} {s : Shared} {h' : Heap}
/-- untracked records of ours have turned, and a new object is laid and tracked -/
theorem Inv.turnedNew {t' : Nat} {ch : List Addr} {a : Addr} {o : HO} (I : Inv X pins σ H s) (k : ∀ b u, b ∉ ch → s.heap.get? b = some u → h'.get? b = some u) (hf : ∀ b ∈ ch, FpOk X pins H b) (ha : s.heap.objs.size ≤ a) (new : ObjOk X.prog X.w (upd H a o) h' a o) :
    Inv X pins σ (upd H a o) { s with heap := h', toks := t' } := by
  have hn := I.hok.fresh ha
  have nch : ∀ b u, H b = some u → b ∉ ch := fun b u e z => by have := (hf b z).1; rw [this] at e; cases e
  have ne : ∀ b u, s.heap.get? b = some u → b ≠ a := fun b u e z => by subst z; exact absurd (Nat.lt_of_lt_of_le (Heap.lt_size e) ha) (Nat.lt_irrefl _)
  refine I.step (g' := s.gens) (d' := s.drawn) (ch := ch) (fun b hb => ?_) (fun b o _ _ hc e _ => k b o hc e) (fun b o _ _ hc e _ => ⟨o.slots, k b o hc e⟩) (fun b u _ e n => by rw [upd_ne (ne b u e)]; exact n)
    (fun b o hc e => ⟨o, k b o hc e⟩) (fun b xs e => by rw [upd_ne (ne_of_none e hn)]; exact e) (fun b u v e => by rw [upd_ne (ne_of_none e hn)]; exact e) (fun b ps e => ⟨#[], by rw [upd_ne (ne_of_none e hn), e]; simp⟩) (fun m hm => ?_) (fun b u e => ?_) I.bare
  · obtain ⟨f0, f1, f2, f3, f4, f5⟩ := hf b hb
    exact ⟨f3, f1, f4, f5⟩
  · obtain ⟨ob, es, ep, ho, r⟩ := hm
    exact ⟨ob, es, ep, k _ ob (fun z => (hf _ z).2.1 rfl) ho, r⟩
  · by_cases hb : b = a
    · subst hb; rw [upd_same] at e; cases e; exact new
    · rw [upd_ne hb] at e
      refine (I.hok b u e).stay (fun c v hc q => k c v ?_ q) (fun c q => by rw [upd_ne (ne_of_none q hn)]; exact q) fun c xs q => by rw [upd_ne (ne_of_none q hn)]; exact q
      rcases hc with z | z
      · rw [z]; exact nch b u e
      · exact nch c _ z
theorem Inv.turnedL {t' : Nat} {ch : List Addr} (I : Inv X pins σ H s) (k : ∀ b u, b ∉ ch → s.heap.get? b = some u → h'.get? b = some u) (hf : ∀ b ∈ ch, FpOk X pins H b) : Inv X pins σ H { s with heap := h', toks := t' } := by
  have nch : ∀ b u, H b = some u → b ∉ ch := fun b u e z => by have := (hf b z).1; rw [this] at e; cases e
  refine I.step (g' := s.gens) (d' := s.drawn) (ch := ch) (fun b hb => ?_) (fun b o _ _ hc e _ => k b o hc e) (fun b o _ _ hc e _ => ⟨o.slots, k b o hc e⟩) (fun _ _ _ _ n => n)
    (fun b o hc e => ⟨o, k b o hc e⟩) (fun _ _ e => e) (fun _ _ _ e => e) (fun b ps e => ⟨#[], by rw [e]; simp⟩) (fun m hm => ?_) (fun b u e => ?_) I.bare
  · obtain ⟨f0, f1, f2, f3, f4, f5⟩ := hf b hb
    exact ⟨f3, f1, f4, f5⟩
  · obtain ⟨ob, es, ep, ho, r⟩ := hm
    exact ⟨ob, es, ep, k _ ob (fun z => (hf _ z).2.1 rfl) ho, r⟩
  · refine (I.hok b u e).stay (fun c v hc q => k c v ?_ q) (fun _ q => q) fun _ _ q => q
    rcases hc with z | z
    · rw [z]; exact nch b u e
    · exact nch c _ z
end
/-! ### for k, x in enumerate(a list) -/
section
variable {X : Cx}
end
end L2

end

section
namespace KM
open PySem L2
/-! ### rows of fractions -/
def more : List Int → List Bool
  | [] => [false]
  | b :: r => true :: (cnt (b - 1).toNat ++ more r).map (!·)
/-! ### the common divisor -/
def cd (p q : Int) : Int := if h : 0 < q then cd q (p % q) else p
termination_by q.toNat
decreasing_by
  have := Int.emod_lt_of_pos p h
  have := Int.emod_nonneg p (Int.ne_of_gt h)
  omega
theorem cd_pos {p q : Int} (h : 0 < q) : cd p q = cd q (p % q) := by rw [cd, dif_pos h]
theorem cd_zero (p : Int) : cd p 0 = p := by rw [cd, dif_neg (by decide)]
theorem cd_tail : ∀ {r : List Int}, Tail r → cd (frac r).1 (frac r).2 = 1
  | [], _ => cd_zero _
  | a :: r, h => by
    obtain ⟨h1, h2, _⟩ := h.tl.frac
    obtain ⟨d1, d2⟩ := frac_div (a := a) h.tl
    rw [cd_pos (show 0 < (frac (a :: r)).2 from by show 0 < (frac r).1; omega), d2]
    exact cd_tail h.tl
theorem Good.cd : ∀ {s : List Int}, Good s → cd (frac s).1 (frac s).2 = 1
  | a :: r, h => by
    have h : Tail r := h
    obtain ⟨h1, h2, _⟩ := h.frac
    obtain ⟨d1, d2⟩ := frac_div (a := a) h
    rw [cd_pos (show 0 < (frac (a :: r)).2 from by show 0 < (frac r).1; omega), d2]
    exact cd_tail h
end KM
namespace L2
open PySem PySem.Spec PyProof.Rows
end L2

end

section
namespace KM
open PySem L2
/-! ### the order of fractions and of their rows -/
end KM

end

section
namespace L2
open PySem PySem.W PySem.Spec PyProof.Rows
section
variable {X : Cx}
end
/-- .. whose element is a value by its place -/
theorem comp_listI {K : PySem.W.Frag} {a : Addr} {xs : List V} {g : TG} {te : TE} {Q : VK} {H : Hp} {D : Addr} {σ0 : St} (fe : Nat → V) (S : St → Prop) (hz : xs.length ≤ sizeLine) (h0 : S σ0) (hD : H D = none) (hl : SqL K H a xs)
    (ht : ∀ i x, xs[i]? = some x → ∀ σ1 H1, S σ1 → Same H H1 → ∀ R : St → V → Hp → Prop, (∀ σ2, S σ2 → R σ2 (fe i) H1) → g x σ1 H1 fun σ2 H2 => te σ2 H2 fun y H3 => R σ2 y H3)
    (hq : Q (.ref D) (upd H D (.lst ((List.range xs.length).map fe)))) :
    CompGo (Itl K a) g tYes te Q σ0 H D := by
  refine ⟨fun i m σ1 H2 => i ≤ xs.length ∧ m = xs.length - i ∧ S σ1 ∧ H2 = upd H D (.lst ((List.range i).map fe)), ⟨xs.length, Nat.zero_le _, rfl, h0, rfl⟩, ?_⟩
  rintro i m σ1 H2 ⟨h1, rfl, h2, rfl⟩
  have hl2 := (same_new (o := .lst ((List.range i).map fe)) hD).seq hl
  rcases Nat.lt_or_ge i xs.length with z | z
  · refine .inr ⟨⟨xs, xs[i], hl2, List.getElem?_eq_getElem z⟩, ?_⟩
    rintro x H3 ⟨rfl, hx⟩
    have hx := hx xs hl2
    refine ht i x hx σ1 _ h2 (same_new hD) (fun σ2 y H6 => ∃ ys m', H6 D = some (.lst ys) ∧ ys.length < sizeLine ∧ m' < xs.length - i ∧ (i + 1 ≤ xs.length ∧ m' = xs.length - (i + 1) ∧ S σ2 ∧ upd H6 D (.lst (ys ++ [y])) = upd H D (.lst ((List.range (i + 1)).map fe)))) fun σ2 q3 => ?_
    refine ⟨_, xs.length - (i + 1), upd_same, by rw [List.length_map, List.length_range]; omega, by omega, by omega, rfl, q3, ?_⟩
    rw [upd_upd', List.range_succ, List.map_append]; rfl
  · have e : i = xs.length := by omega
    subst e
    exact .inl ⟨⟨xs, hl2, Nat.le_refl _⟩, hq⟩
end L2

end

section
namespace L2
open PySem PySem.W PySem.Spec PyProof.Rows
/-! ### try with two handlers of one name -/
end L2

end

section
namespace KM
open PySem L2
/-! ### rows of fractions, without their last sign -/
def mp : List Int → List Bool
  | [] => []
  | b :: r => true :: (cnt (b - 1).toNat ++ mp r).map (!·)
end KM

end

section
namespace L2
open PySem PySem.W PySem.Spec PyProof.Rows
section
variable {X : Cx}
end
end L2
namespace KM
open PySem L2
/-! ### rows without the ones at their end -/
/-! ### the order of rows -/
def Lt (a b : List Bool) : Prop := (rowS a).cps.toList < (rowS b).cps.toList
instance (a b : List Bool) : Decidable (Lt a b) := inferInstanceAs (Decidable (_ < _))
/-- how many signs two rows begin with in common -/
def com : List Bool → List Bool → Nat
  | x :: a, y :: b => if x = y then com a b + 1 else 0
  | _, _ => 0
end KM
namespace KM
open PySem L2
end KM

end

section
namespace L2
open PySem PySem.W PySem.Spec PyProof.Rows
/-! ### the lesser and the greater of two texts -/
section
variable {prog : Program} {w : World} {A : Around} {E : Value → Shared → Prop} {s : Shared}
end
section
variable {X : Cx}
/-! ### list.insert -/
end
/-! ### for x, y in zip(a list, a list) -/
def Itz (K : PySem.W.Frag) (a b : Addr) (xs ys : List V) : It :=
  ⟨fun i H => SqL K H a xs ∧ SqL K H b ys ∧ i < min xs.length ys.length, fun i H x H' => ∃ (T : Addr) (u v : V), H T = none ∧ xs[i]? = some u ∧ ys[i]? = some v ∧ x = .ref T ∧ H' = upd H T (.tup [u, v]), fun i H => SqL K H a xs ∧ SqL K H b ys ∧ min xs.length ys.length ≤ i⟩
theorem turn_zip {P : Program} {w : World} {K : PySem.W.Frag} {elts : List Expr} {k : Nat} {pos : Pos} (a b z TI TO i1 i2 : Addr) (xs ys : List V) (D : ZipApart z TI TO i1 i2 a b) :
    Turn P w K (.Tuple elts k pos) (Itz K a b xs ys) [z, TI, TO, i1, i2] z (fun i h => i ≤ min xs.length ys.length ∧ IsZip h z TI TO .none ∧ IsPair h TI (.ref i1) (.ref i2) ∧ (∃ a b, IsPair h TO a b) ∧ h.IsListIter i1 a i ∧ h.IsListIter i2 b i) where
  mem := by simp
  obj := fun i h st c hc => by
    obtain ⟨_, st1, st2, ⟨p, q, st3⟩, st4, st5⟩ := st
    rcases List.mem_cons.mp hc with e | hc
    · subst e; exact ⟨_, st1, fun v z => by cases z⟩
    rcases List.mem_cons.mp hc with e | hc
    · subst e; exact ⟨_, st2, fun v z => by cases z⟩
    rcases List.mem_cons.mp hc with e | hc
    · subst e; exact ⟨_, st3, fun v z => by cases z⟩
    rcases List.mem_cons.mp hc with e | hc
    · subst e
      obtain ⟨o, e, c, d⟩ := st4
      exact ⟨o, e, fun v z => by rw [d] at z; cases z⟩
    · obtain rfl := List.mem_singleton.mp hc
      obtain ⟨o, e, c, d⟩ := st5
      exact ⟨o, e, fun v z => by rw [d] at z; cases z⟩
  keep := fun i h h' st k => by
    obtain ⟨hi, st1, st2, ⟨p, q, st3⟩, st4, st5⟩ := st
    exact ⟨hi, k z (by simp) _ st1, k TI (by simp) _ st2, ⟨p, q, k TO (by simp) _ st3⟩, st4.at fun o e => k i1 (by simp) o e, st5.at fun o e => k i2 (by simp) o e⟩
  item := by
    intro X hP hw hK hc i pins s σ H E I hf st hg
    subst hP hw hK
    obtain ⟨hq1, hq2, hi⟩ := hg
    obtain ⟨its1, rv1, p1, hz1⟩ := I.list hq1
    obtain ⟨its2, rv2, p2, hz2⟩ := I.list hq2
    have hlen1 := rv1.length
    have hlen2 := rv2.length
    have W := WalksT.zip2 (prog := X.prog) (w := X.w) (I.ok.hd hc) z TI TO i1 i2 a b D its1.toArray its2.toArray
    refine W.item i s _ _ (by rw [List.size_toArray, List.size_toArray]; omega) ⟨st.2.1, st.2.2.1, st.2.2.2.1, st.2.2.2.2.1, st.2.2.2.2.2, p1.isList, p2.isList⟩ fun T vals h' tk hv hT htup mid kk => ?_
    refine ⟨_, rfl, W.go elts k pos i T _ _ _ mid fun h'' st' kk' => ?_⟩
    obtain ⟨u1, u2, hu1, hu2, rfl⟩ := hv
    have hu1' : its1[i]? = some u1 := by simpa using hu1
    have hu2' : its2[i]? = some u2 := by simpa using hu2
    have hy1 : xs[i]? = some (xs[i]'(by omega)) := List.getElem?_eq_getElem _
    have hy2 : ys[i]? = some (ys[i]'(by omega)) := List.getElem?_eq_getElem _
    obtain ⟨v1, hv1, ru1⟩ := rv1.get hy1
    obtain ⟨v2, hv2, ru2⟩ := rv2.get hy2
    rw [hu1'] at hv1; cases hv1
    rw [hu2'] at hv2; cases hv2
    have hTf := I.hok.fresh hT
    have nT : T ∉ [z, TO, i1, i2] := W.apart i T h' mid
    have nT2 : ∀ c ∈ [z, TI, TO, i1, i2], c ≠ T := fun c hcm e => by
      subst e
      rcases List.mem_cons.mp hcm with e | hcm
      · exact nT (by rw [e]; simp)
      rcases List.mem_cons.mp hcm with e | hcm
      · have h0 := Heap.lt_size st.2.2.1
        rw [← e] at h0
        exact absurd (Nat.lt_of_lt_of_le h0 hT) (Nat.lt_irrefl _)
      · exact nT (List.mem_cons_of_mem _ hcm)
    refine ⟨.ref T, upd H T (.tup [xs[i]'(by omega), ys[i]'(by omega)]), ?_, rfl, ⟨T, _, _, hTf, hy1, hy2, rfl, rfl⟩, ⟨by omega, st'.1, st'.2.1, st'.2.2.1, st'.2.2.2.1, st'.2.2.2.2.1⟩, fun c hcm => ?_⟩
    · refine I.turnedNew (ch := [z, TO, i1, i2]) (t' := tk) (fun c o hcn ec => kk' c o hcn (kk c o hcn ec)) (fun c hcm => hf c ?_) hT ?_
      · rcases List.mem_cons.mp hcm with e | hcm
        · rw [e]; simp
        · exact List.mem_cons_of_mem _ (List.mem_cons_of_mem _ hcm)
      refine ⟨by show 2 ≤ sizeLine; decide, [u1, u2], .cons ru1 (.cons ru2 .nil), ?_⟩
      obtain ⟨o, ho, r⟩ := htup
      exact ⟨o, kk' T o nT ho, r⟩
    · rw [upd_ne (nT2 c hcm)]
      exact (hf c hcm).1
  done := by
    intro X hP hw hK hc i pins s σ H E I hf st hg
    subst hP hw hK
    obtain ⟨hq1, hq2, hi⟩ := hg
    obtain ⟨its1, rv1, p1, hz1⟩ := I.list hq1
    obtain ⟨its2, rv2, p2, hz2⟩ := I.list hq2
    have hlen1 := rv1.length
    have hlen2 := rv2.length
    have W := WalksT.zip2 (prog := X.prog) (w := X.w) (I.ok.hd hc) z TI TO i1 i2 a b D its1.toArray its2.toArray
    have ei : i = min its1.toArray.size its2.toArray.size := by rw [List.size_toArray, List.size_toArray]; have := st.1; omega
    subst ei
    refine W.done s _ _ ⟨st.2.1, st.2.2.1, st.2.2.2.1, st.2.2.2.2.1, st.2.2.2.2.2, p1.isList, p2.isList⟩ fun h' tk kk => ⟨rfl, I.turnedL (t' := tk) kk fun c hcm => hf c ?_⟩
    rcases List.mem_cons.mp hcm with e | hcm
    · rw [e]; simp
    · exact List.mem_cons_of_mem _ (List.mem_cons_of_mem _ hcm)
  self := fun A i s Q E st h => wpAny_pyIter_zip st.2.1 h
section
variable {X : Cx}
def iZip (K : PySem.W.Frag) (ta : TA) : TI := fun σ H R => ta σ H fun vs H1 => ∃ a b xs ys, vs = [.ref a, .ref b] ∧ SqL K H1 a xs ∧ SqL K H1 b ys ∧ R (Itz K a b xs ys) H1
theorem pi_zip {l m : Expr} {ta : TA} {p pos : Pos} {elts : List Expr} {k : Nat} {tpos : Pos} (hg : Gl X "zip") (hm : X.mg "zip" = none) (ha : PA X [l, m] ta) (hs : starEach [l, m] X.env = [(false, eval l X.env), (false, eval m X.env)] := by rfl) (hs2 : starEach [m] X.env = [(false, eval m X.env)] := by rfl) :
    PI X (.Tuple elts k tpos) (.Call (.Name "zip" p) [l, m] [] pos) (iZip X.K ta) := by
  intro pins s σ H R I h
  refine Call_ (ld_blt I hg hm boot_zip (PyProof.Rows.callWith_type1 (thn (ha pos pins s σ H (fun vs H1 => ∃ a b xs ys, vs = [.ref a, .ref b] ∧ SqL X.K H1 a xs ∧ SqL X.K H1 b ys ∧ R (Itz X.K a b xs ys) H1) I h) fun us s1 ⟨vs, H1, I1, r1, q1⟩ => ?_) (by rw [hs, hs2]) (by rw [hs2]; rfl)))
  obtain ⟨a, b, xs, ys, rfl, hq1, hq2, q⟩ := q1
  obtain ⟨u1, u2, rfl, ru1, ru2⟩ := vals2 r1
  obtain rfl : u1 = Value.ref a := ru1
  obtain rfl : u2 = Value.ref b := ru2
  obtain ⟨its1, rv1, p1, hz1⟩ := I1.list hq1
  obtain ⟨its2, rv2, p2, hz2⟩ := I1.list hq2
  have l1 : a < s1.heap.objs.size := by obtain ⟨o, ho, _⟩ := p1.isList; exact Heap.lt_size ho
  have l2 : b < s1.heap.objs.size := by obtain ⟨o, ho, _⟩ := p2.isList; exact Heap.lt_size ho
  refine call_zip_2 p1.isList p2.isList fun h' z1 z2 z3 z4 z5 hsz kk => ?_
  have I2 : Inv X pins σ H1 { s1 with heap := h' } := I1.kept (t' := s1.toks) kk
  refine wpAny_pyIter_zip z1 ?_
  refine ⟨_, _, _, _, H1, rfl, I2, turn_zip a b _ _ _ _ _ xs ys (zipApart_new l1 l2), ⟨Nat.zero_le _, z1, z2, ⟨_, _, z3⟩, z4, z5⟩, fun c hc => ?_, q⟩
  have hcl : s1.heap.objs.size ≤ c := by
    rcases List.mem_cons.mp hc with e | hc
    · rw [e]; exact Nat.le_add_right ..
    rcases List.mem_cons.mp hc with e | hc
    · rw [e]; exact Nat.le_add_right ..
    rcases List.mem_cons.mp hc with e | hc
    · rw [e]; exact Nat.le_add_right ..
    rcases List.mem_cons.mp hc with e | hc
    · rw [e]; exact Nat.le_refl _
    · rw [List.mem_singleton.mp hc]; exact Nat.le_add_right ..
  exact I1.fpOk hcl (I1.hok.fresh hcl)
end
end L2
namespace L2
open PySem PySem.W PySem.Spec PyProof.Rows
/-- a comprehension over pairs of two lists -/
theorem comp_zip {K : PySem.W.Frag} {a b : Addr} {xs ys : List V} {g : TG} {te : TE} {Q : VK} {H : Hp} {D : Addr} {σ0 : St} (fe : Nat → V) (S : St → Prop) (hz : min xs.length ys.length ≤ 100000) (h0 : S σ0) (hD : H D = none) (hl1 : SqL K H a xs) (hl2 : SqL K H b ys)
    (ht : ∀ i x y, xs[i]? = some x → ys[i]? = some y → ∀ σ1 H1 T, S σ1 → Same H H1 → H1 T = none → ∀ R : St → V → Hp → Prop, (∀ σ2 H3, S σ2 → Same (upd H1 T (.tup [x, y])) H3 → R σ2 (fe i) H3) → g (.ref T) σ1 (upd H1 T (.tup [x, y])) fun σ2 H2 => te σ2 H2 fun z H3 => R σ2 z H3)
    (hq : ∀ H' : Hp, Same H H' → H' D = some (.lst ((List.range (min xs.length ys.length)).map fe)) → Q (.ref D) H') :
    CompGo (Itz K a b xs ys) g tYes te Q σ0 H D := by
  refine ⟨fun i m σ1 H2 => i ≤ min xs.length ys.length ∧ m = min xs.length ys.length - i ∧ S σ1 ∧ Same H H2 ∧ H2 D = some (.lst ((List.range i).map fe)), ⟨min xs.length ys.length, Nat.zero_le _, rfl, h0, same_new hD, upd_same⟩, ?_⟩
  rintro i m σ1 H2 ⟨h1, rfl, h2, hs, hDv⟩
  have q1 := hs.seq hl1
  have q2 := hs.seq hl2
  rcases Nat.lt_or_ge i (min xs.length ys.length) with z | z
  · refine .inr ⟨⟨q1, q2, z⟩, ?_⟩
    rintro x H3 ⟨T, u, v, hT, hu, hv, rfl, rfl⟩
    refine ht i u v hu hv σ1 H2 T h2 hs hT (fun σ2 y H6 => ∃ zs m', H6 D = some (.lst zs) ∧ zs.length < sizeLine ∧ m' < min xs.length ys.length - i ∧ (i + 1 ≤ min xs.length ys.length ∧ m' = min xs.length ys.length - (i + 1) ∧ S σ2 ∧ Same H (upd H6 D (.lst (zs ++ [y]))) ∧ upd H6 D (.lst (zs ++ [y])) D = some (.lst ((List.range (i + 1)).map fe)))) fun σ2 H6 q3 hs6 => ?_
    have nDT : D ≠ T := fun e => by rw [e, hT] at hDv; cases hDv
    refine ⟨(List.range i).map fe, min xs.length ys.length - (i + 1), hs6 _ _ (by rw [upd_ne nDT]; exact hDv), ?_, by omega, by omega, rfl, q3, ?_, ?_⟩
    · rw [List.length_map, List.length_range]
      exact Nat.lt_of_lt_of_le (show i < 100000 by omega) (by decide)
    · intro c o e
      rw [upd_ne (ne_of_none e hD)]
      refine hs6 c o ?_
      rw [upd_ne (fun e' => by rw [e', hs.free hT] at e; cases e)]
      exact hs c o e
    · rw [upd_same, List.range_succ, List.map_append]; rfl
  · have e : i = min xs.length ys.length := by omega
    subst e
    exact .inl ⟨⟨q1, q2, Nat.le_refl _⟩, hq H2 hs hDv⟩
end L2
namespace L2
open PySem PySem.W PySem.Spec PyProof.Rows
section
variable {X : Cx} {pos : Pos}
end
end L2

end

section
namespace KM
open PySem L2
/-! ### pages -/
def ent (a r : List Bool) : List Bool := cnt (com a r) ++ cnt (r.length - com a r) ++ r.drop (com a r)
def ents : List Bool → List (List Bool) → List Bool
  | _, [] => []
  | a, r :: rs => ent a r ++ ents r rs
def page (rs : List (List Bool)) : List Bool := cnt rs.length ++ ents [] rs
end KM
namespace KM
open PySem L2
end KM
namespace KM
open PySem L2
end KM

end

section
namespace L2
open PySem PySem.W PySem.Spec PyProof.Rows
/-! ### lists of texts, == and != -/
section
variable {X : Cx}
end
/-! ### a try whose body raises nothing -/
end L2

end

section
namespace L2
open PySem PySem.W PySem.Spec PyProof.Rows
section
variable {M : Model} {A : Around} {E : Value → Shared → Prop} {s : Shared} {base : Heap} {env : Env} {outer : List Env} {L e T : Addr} {Q : Unit → Shared → Prop} {cls : Value} {d : Option Addr} {fl : Value}
end
section
variable {P : Program} {w : World} {K : PySem.W.Frag} {mg : Str → Option Value} {base : Heap} {N : List Str} {qual : Str} {scope : Scope} {f : Addr} {cdv : Value} {A : Around} {outer : List Env} {s : Shared} {H : Hp} {E : XK}
end
end L2

end

section
namespace L2
open PySem PySem.W PySem.Spec PyProof.Rows
section
variable {X : Cx}
/-! ### tuples of a number and a truth, == -/
end
end L2

namespace L2
open PySem PySem.W PySem.Spec PyProof.Rows
/-- a comprehension over a range, of whose values only a property is told -/
theorem comp_rangeP {lo : Int} {n : Nat} {g : TG} {te : TE} {Q : VK} {H : Hp} {D : Addr} {σ0 : St} (Pv : V → Prop) (S : St → Prop) (hn : n ≤ 100000) (h0 : S σ0) (hD : H D = none)
    (ht : ∀ i : Nat, i < n → ∀ σ1 H1, S σ1 → Same H H1 → ∀ R : St → V → Hp → Prop, (∀ σ2 H3 y, S σ2 → Same H1 H3 → Pv y → R σ2 y H3) → g (.int (lo + (i : Int))) σ1 H1 fun σ2 H2 => te σ2 H2 fun z H3 => R σ2 z H3)
    (hq : ∀ (ys : List V) (H' : Hp), ys.length = n → (∀ y ∈ ys, Pv y) → Same H H' → H' D = some (.lst ys) → Q (.ref D) H') :
    CompGo (Itr lo n) g tYes te Q σ0 H D := by
  refine ⟨fun i m σ1 H2 => i ≤ n ∧ m = n - i ∧ S σ1 ∧ Same H H2 ∧ ∃ ys : List V, ys.length = i ∧ (∀ y ∈ ys, Pv y) ∧ H2 D = some (.lst ys), ⟨n, Nat.zero_le _, rfl, h0, same_new hD, [], rfl, (fun y hy => nomatch hy), upd_same⟩, ?_⟩
  rintro i m σ1 H2 ⟨h1, rfl, h2, hs, ys, hl, hp, hDv⟩
  rcases Nat.lt_or_ge i n with z | z
  · refine .inr ⟨z, ?_⟩
    rintro x H3 ⟨rfl, rfl⟩
    refine ht i z σ1 _ h2 hs (fun σ2 y H6 => ∃ zs m', H6 D = some (.lst zs) ∧ zs.length < sizeLine ∧ m' < n - i ∧ (i + 1 ≤ n ∧ m' = n - (i + 1) ∧ S σ2 ∧ Same H (upd H6 D (.lst (zs ++ [y]))) ∧ ∃ ys : List V, ys.length = i + 1 ∧ (∀ y ∈ ys, Pv y) ∧ upd H6 D (.lst (zs ++ [y])) D = some (.lst ys))) fun σ2 H6 y q3 hs6 hy => ?_
    refine ⟨ys, n - (i + 1), hs6 _ _ hDv, ?_, by omega, by omega, rfl, q3, ?_, ys ++ [y], by rw [List.length_append, hl]; rfl, ?_, upd_same⟩
    · rw [hl]; exact Nat.lt_of_lt_of_le (show i < 100000 by omega) (by decide)
    · intro c o e
      rw [upd_ne (ne_of_none e hD)]
      exact hs6 c o (hs c o e)
    · intro u hu
      rcases List.mem_append.mp hu with w | w
      · exact hp u w
      · rw [List.mem_singleton.mp w]; exact hy
  · have e : i = n := by omega
    subst e
    exact .inl ⟨Nat.le_refl _, hq ys H2 hl hp hs hDv⟩
end L2

end

section
namespace L2
open PySem PySem.W PySem.Spec PyProof.Rows
end L2

end

section
namespace KM
open PySem L2
/-! ### rows that ascend, by their order alone -/
end KM
namespace L2
open PySem PySem.W PySem.Spec PyProof.Rows
section
variable {X : Cx}
/-! ### sorted(rows) -/
/-! ### tuples of a word and a row or None, == -/
inductive RowN : V → PyData → Prop
  | non : RowN .non .none
  | row (l : List Bool) : RowN (.str (KM.rowS l)) (.str (KM.rowS l))
end
end L2

end

section
namespace L2
open PySem PySem.W PySem.Spec PyProof.Rows
section
variable {prog : Program} {w : World} {A : Around} {E : Value → Shared → Prop} {s : Shared}
end
section
variable {prog : Program} {w : World} {A : Around} {E : Value → Shared → Prop} {s : Shared} {env : Env}
variable {nm q : Str} {C N a : Addr} {bs bm bmB : List Value} {hdct : Bool} {sn : List Str} {sub : List Value} {ab : Bool} {col : Option Bool} {dd : Option Addr} {k0 k1 k2 k3 k5 : Option Value} {B Bn newId nid initId inN : String} {bmN : List Value} {K : Frag}
end
section
variable {X : Cx}
end
end L2

end

section
namespace KM
open PySem L2
/-! ### any signs read as a page -/
def padL (l : List Bool) : List Bool := l ++ List.replicate 3000 false
open Classical in
/-- the count that stands at i, the signs behind the end being 0 -/
noncomputable def cnv (l : List Bool) (i : Nat) : Nat := if h : ∃ n, n + 1 < 2 ^ 255 ∧ cnt n <+: (padL l).drop i then h.choose else 0
/-- an entry behind la, s signs of which it shares, its m others at i; fst: it is the first -/
def entAt (l la : List Bool) (fst : Bool) (s m i : Nat) : Option (List Bool × Nat) :=
  if i + m ≤ l.length ∧ s ≤ la.length ∧ com la (la.take s ++ (l.drop i).take m) = s ∧ (fst = true ∨ Lt la (la.take s ++ (l.drop i).take m)) then some (la.take s ++ (l.drop i).take m, i + m) else none
noncomputable def entR (l la : List Bool) (fst : Bool) (i : Nat) : Option (List Bool × Nat) :=
  entAt l la fst (cnv l i) (cnv l (i + (cnt (cnv l i)).length)) (i + (cnt (cnv l i)).length + (cnt (cnv l (i + (cnt (cnv l i)).length))).length)
theorem entAt_some {l la r : List Bool} {fst : Bool} {s m i j : Nat} (h : entAt l la fst s m i = some (r, j)) : i + m ≤ l.length ∧ s ≤ la.length ∧ j = i + m ∧ r.length ≤ la.length + m := by
  unfold entAt at h
  split at h
  · rename_i c
    cases h
    refine ⟨c.1, c.2.1, rfl, ?_⟩
    rw [List.length_append, List.length_take, List.length_take]
    omega
  · cases h
theorem cnt_pos1 (n : Nat) : 1 ≤ (cnt n).length := by
  rw [cnt_len]
  by_cases h : blen (blen (n + 1)) = 8
  · rw [h]; omega
  · have : (cend (blen (blen (n + 1)))).length = 1 := by unfold cend; rw [if_neg h]; rfl
    omega
theorem entR_some {l la r : List Bool} {fst : Bool} {i j : Nat} (h : entR l la fst i = some (r, j)) : i + 2 ≤ j ∧ j ≤ l.length ∧ r.length + i ≤ la.length + j := by
  unfold entR at h
  obtain ⟨a, b, c, d⟩ := entAt_some h
  have e1 := cnt_pos1 (cnv l i)
  have e2 := cnt_pos1 (cnv l (i + (cnt (cnv l i)).length))
  omega
noncomputable def goR (l : List Bool) : Nat → List (List Bool) → Nat → Option (List (List Bool))
  | 0, rs, i => if i = l.length then some rs else none
  | k + 1, rs, i => match entR l (rs.getLastD []) rs.isEmpty i with
    | none => none
    | some (r, j) => goR l k (rs ++ [r]) j
noncomputable def rowsR (l : List Bool) : Option (List (List Bool)) := if (cnt (cnv l 0)).length ≤ l.length then goR l (cnv l 0) [] (cnt (cnv l 0)).length else none
/-- how a page's reading stands: rs read, the next entry at i -/
structure RdAt (l : List Bool) (out : Option (List (List Bool))) (rs : List (List Bool)) (i : Nat) : Prop where
  le : rs.length ≤ cnv l 0
  at_ : i ≤ l.length
  few : rs.length ≤ i
  sm : ∀ x ∈ rs, x.length ≤ i
  go : goR l (cnv l 0 - rs.length) rs i = out
theorem RdAt.start {l : List Bool} {out : Option (List (List Bool))} (h : rowsR l = out) (hf : (cnt (cnv l 0)).length ≤ l.length) : RdAt l out [] (cnt (cnv l 0)).length := by
  unfold rowsR at h
  rw [if_pos hf] at h
  exact ⟨Nat.zero_le _, hf, Nat.zero_le _, fun x hx => (by cases hx), h⟩
theorem RdAt.step {l r : List Bool} {out : Option (List (List Bool))} {rs : List (List Bool)} {i j : Nat} (h : RdAt l out rs i) (hl : rs.length < cnv l 0) (he : entR l (rs.getLastD []) rs.isEmpty i = some (r, j)) : RdAt l out (rs ++ [r]) j := by
  obtain ⟨a, b, c⟩ := entR_some he
  have hg := h.go
  rw [show cnv l 0 - rs.length = (cnv l 0 - (rs.length + 1)) + 1 by omega] at hg
  unfold goR at hg
  rw [he] at hg
  have hla : (rs.getLastD []).length ≤ i := by
    cases rs with
    | nil => exact Nat.zero_le _
    | cons x y => exact h.sm _ (by rw [List.getLastD_cons]; exact List.getLastD_mem_cons ..)
  have f := h.few
  refine ⟨by rw [List.length_append, List.length_singleton]; omega, b, by rw [List.length_append, List.length_singleton]; omega, fun x hx => ?_, by rw [List.length_append, List.length_singleton]; exact hg⟩
  rcases List.mem_append.mp hx with z | z
  · have := h.sm x z; omega
  · rw [List.mem_singleton.mp z]; omega
theorem RdAt.stop {l : List Bool} {out : Option (List (List Bool))} {rs : List (List Bool)} {i : Nat} (h : RdAt l out rs i) (hl : rs.length < cnv l 0) (he : entR l (rs.getLastD []) rs.isEmpty i = none) : out = none := by
  have hg := h.go
  rw [show cnv l 0 - rs.length = (cnv l 0 - (rs.length + 1)) + 1 by omega] at hg
  unfold goR at hg
  rw [he] at hg
  exact hg.symm
theorem RdAt.last {l : List Bool} {out : Option (List (List Bool))} {rs : List (List Bool)} {i : Nat} (h : RdAt l out rs i) (hl : ¬ rs.length < cnv l 0) : out = if i = l.length then some rs else none := by
  have hg := h.go
  rw [show cnv l 0 - rs.length = 0 by omega] at hg
  exact hg.symm
end KM

end

section
namespace L2
open PySem PySem.W PySem.Spec PyProof.Rows
/-! ### xs[::-1] -/
section
variable {X : Cx} {e : Expr} {te : TE} {p2 pos : Pos}
end
end L2

end

section
namespace KM
open PySem
/-! ### 5 x + 1 goes through all slots of a table -/
/-! ### a free slot is met -/
/-! ### the table laid anew -/
theorem none_of {α : Type} : ∀ (l : List (Option α)), (l.filterMap id).length < l.length → ∃ t, t < l.length ∧ l[t]? = some none
  | [], h => by cases h
  | none :: r, h => ⟨0, Nat.succ_pos _, rfl⟩
  | some x :: r, h => by
    obtain ⟨t, ht, e⟩ := none_of r (by simpa using h)
    exact ⟨t + 1, Nat.succ_lt_succ ht, e⟩
end KM

end

section
namespace L2
open PySem PySem.Spec
/-! ### sets of texts, as they lie -/
abbrev setO (es : Array (Int × Value)) (ep : Nat) (t : SetTable) : Obj := { cls := .type "set", dict := none, data := .set es ep t }
structure SetIn (w : World) (es : Array (Int × Value)) (t : SetTable) (ks : List Str) : Prop where
  fit : t.fits es.size = true
  led : w.params.followText "set-order" = false → t.led = true
  pl : es.size ≠ 0 → t.plain = false
  els : ∀ e ∈ es.toList, ∃ k u, e = (hashStr w k, Value.str k u)
  keys : (es.toList.map fun e => PyProof.Rows.strOf e.2).Perm ks
def SetT (w : World) (h : Heap) (a : Addr) (ks : List Str) : Prop := ∃ es ep t, h.get? a = some (setO es ep t) ∧ SetIn w es t ks
section
variable {w : World} {es es' : Array (Int × Value)} {t t' : SetTable} {ks : List Str}
theorem SetIn.size (h : SetIn w es t ks) : es.size = ks.length := by
  have z := h.keys.length_eq
  rwa [List.length_map, Array.length_toList] at z
theorem SetIn.mem (prog : Program) (h : SetIn w es t ks) (k : Str) : (∃ e ∈ es.toList, (PySem.strKind prog w).is k e.2 = true) ↔ k ∈ ks := by
  rw [← h.keys.mem_iff, List.mem_map]
  constructor
  · rintro ⟨e, he, hp⟩
    obtain ⟨k', u, rfl⟩ := h.els e he
    obtain ⟨v, hv⟩ := Value.isStrOf_shape (x := k) (v := Value.str k' u) hp
    injection hv with hv
    exact ⟨_, he, hv⟩
  · rintro ⟨e, he, rfl⟩
    obtain ⟨k', u, rfl⟩ := h.els e he
    exact ⟨_, he, by simp [PySem.strKind, Value.isStrOf, PyProof.Rows.strOf]⟩
theorem SetIn.fresh : SetIn w #[] (.fresh 0 0 (!w.params.followText "set-order")) [] :=
  ⟨rfl, fun z => by show (!w.params.followText "set-order") = true; rw [z]; rfl, fun z => absurd rfl z, fun e he => (by cases he), .refl _⟩
theorem SetT.keep {h h' : Heap} {a : Addr} (t : SetT w h a ks) (k : ∀ o, h.get? a = some o → h'.get? a = some o) : SetT w h' a ks := by
  obtain ⟨es, ep, tb, ho, hi⟩ := t
  exact ⟨es, ep, tb, k _ ho, hi⟩
/-! ### flags of a table laid anew -/
end
section
variable {prog : Program} {w : World} {A : Around} {E : Value → Shared → Prop} {s : Shared} {a : Addr} {es : Array (Int × Value)} {ep : Nat} {t : SetTable} {ks : List Str}
set_option maxHeartbeats 1000000 in
/-! ### a table laid anew, and the merging of two -/
set_option maxHeartbeats 1000000 in
/-! ### the order of a walk -/
/-! ### a merge into an empty set, and into one that is not -/
set_option maxHeartbeats 1000000 in
set_option maxHeartbeats 1000000 in
end
end L2

end

section
namespace L2
open PySem PySem.Spec
section
variable {prog : Program} {w : World} {A : Around} {E : Value → Shared → Prop} {s : Shared} {a : Addr} {es : Array (Int × Value)} {ep : Nat} {t : SetTable} {ks : List Str}
set_option maxHeartbeats 1000000 in
set_option maxHeartbeats 1000000 in
/-! ### a | b -/
theorem SetT.ty {h : Heap} {g : Array GenState} {d : Drawn} {k : Nat} {os : OsState} (hT : SetT w h a ks) : (⟨h, g, d, k, os⟩ : Shared).TypeIs (.ref a) "set" := by
  obtain ⟨es, ep, t, ho, _⟩ := hT
  exact ⟨_, ho, rfl⟩
set_option maxHeartbeats 1000000 in
/-! ### what is in the union -/
end
end L2

end

section
namespace L2
open PySem PySem.Spec
/-! ### set(a list of texts) -/
section
variable {prog : Program} {w : World} {A : Around} {R : Result → Shared → Prop} {I : Addr} {fp wr : List Addr} {G : Array GenState → Array GenState → Prop} {n : Nat} {Pv : Nat → Value → Prop} {St : Nat → Shared → Prop}
end
section
variable {prog : Program} {w : World} {A : Around} {E : Value → Shared → Prop} {s : Shared}
set_option maxHeartbeats 3200000 in
set_option maxHeartbeats 3200000 in
end
end L2

end

section
namespace L2
open PySem PySem.Spec
/-! ### a walk through a set of texts -/
section
variable {prog : Program} {w : World} {A : Around} {E : Value → Shared → Prop} {s : Shared} {a I : Addr} {es : Array (Int × Value)} {ep : Nat} {t : SetTable} {ks : List Str}
set_option maxHeartbeats 1000000 in
set_option maxHeartbeats 1000000 in
end
end L2

end

section
namespace L2
open PySem PySem.Spec
section
variable {prog : Program} {w : World} {A : Around} {E : Value → Shared → Prop} {s : Shared} {a I p : Addr} {es : Array (Int × Value)} {ep : Nat} {t : SetTable} {ks : List Str}
set_option maxHeartbeats 1000000 in
set_option maxHeartbeats 1000000 in
/-! ### what comes next -/
end
end L2

end

section
namespace L2
open PySem PySem.Spec
section
variable {prog : Program} {w : World} {A : Around} {E : Value → Shared → Prop} {s : Shared} {a I p : Addr} {es : Array (Int × Value)} {ep : Nat} {t : SetTable} {ks : List Str}
set_option maxHeartbeats 1000000 in
end
end L2

end

section
namespace L2
open PySem PySem.Spec PyProof.Rows
section
variable {prog : Program} {w : World} {A : Around} {E : Value → Shared → Prop} {s : Shared} {a : Addr} {es : Array (Int × Value)} {ep : Nat} {t : SetTable} {ks : List Str}
set_option maxHeartbeats 1000000 in
/-! ### sorted(a set of texts) -/
set_option maxHeartbeats 1000000 in
end
end L2

end

section
namespace L2
open PySem PySem.W PySem.Spec PyProof.Rows
section
variable {X : Cx} {pos p p2 p3 q q2 q3 : Pos} {e1 e2 : Expr} {te1 te2 : TE}
set_option maxHeartbeats 1000000 in
end
end L2

end

section
namespace L2
open PySem PySem.W PySem.Spec PyProof.Rows
/-! ### try with two handlers without a name -/
/-! ### xs[lo:hi:step], a step ahead -/
section
variable {X : Cx} {e el eh es : Expr} {te tl th ts : TE} {p2 pos : Pos}
/-! ### sum(ints) -/
/-! ### (int, bool) != (int, bool) -/
end
end L2

end

section
namespace L2
open PySem PySem.W PySem.Spec PyProof.Rows
/-! ### C() where C has no __init__ of its own -/
structure Mk0 (K : PySem.W.Frag) (C : Addr) : Prop where
  makes : PySem.W.makesIn K C = true
  init : PySem.W.findIn K (.ref C) "__init__" = some (some (.builtin "object.__init__"))
  kp : PySem.W.keepIn K (.ref C) = true
section
variable {X : Cx} {C : Addr} {x : Str} {p pos : Pos}
theorem run_make0 {pins : List (Addr × Obj)} {σ : St} {H : Hp} {s : Shared} {Q : VK} (M : Mk0 X.K C) (I : Inv X pins σ H s) (h : ∀ x dx, H x = none → H dx = none → dx ≠ x → Q (.ref x) (upd (upd H dx (.own x)) x (.ins C dx []))) :
    wpAny (model X.prog X.w) X.A (call (.ref C) []) (EP X pins σ Q) X.xe s := by
  have hq := h (s.heap.objs.size + 1) s.heap.objs.size (I.hok.fresh (Nat.le_succ _)) (I.hok.fresh (Nat.le_refl _)) (Nat.ne_of_lt (Nat.lt_succ_self _))
  have I2 := Inv.made (C := C) I
  have Y := makes_of (M := model X.prog X.w) I.kIn M.makes
  refine wpAny_call (make_map0 I.kIn M.makes M.init (fun self => Looks.of_pure (oi_bind self)) ?_)
  have e2 : ((s.heap.push PySem.W.emptyDict).push (PySem.W.instObj C s.heap.objs.size)).get? (s.heap.objs.size + 1) = some (PySem.W.instObj C s.heap.objs.size) := by
    have := Heap.get?_push_size (s.heap.push PySem.W.emptyDict) (o := PySem.W.instObj C s.heap.objs.size) rfl
    rwa [Heap.size_push] at this
  have t1 : Looks (model X.prog X.w) ((s.heap.push PySem.W.emptyDict).push (PySem.W.instObj C s.heap.objs.size)) (typeOf (.ref (s.heap.objs.size + 1))) (.ref C) := (Looks.ld e2).andThen .now
  have t2 : Looks (model X.prog X.w) ((s.heap.push PySem.W.emptyDict).push (PySem.W.instObj C s.heap.objs.size)) (isInstance (.ref (s.heap.objs.size + 1)) (.type "object")) true := t1.andThen (Y.top.keeps fun b o e => Heap.get?_push_of_some _ (Heap.get?_push_of_some _ e))
  obtain ⟨hh, g, d, t, os⟩ := s
  refine codeAny_call_builtin oi_plain entry_oi (@check_slot (model X.prog X.w) _ _ _ "object.__init__" "object" "__init__" (.ref (hh.objs.size + 1)) [] [] _ oi_kind oi_split t2 (oi_args (.ref (hh.objs.size + 1))) ?_)
  rw [oi_run]
  exact wpAny_pure (And.intro rfl ⟨V.ref (hh.objs.size + 1), _, I2, rfl, hq⟩)
def tMake0 (C : Addr) : TE := fun _ H Q => ∀ x dx, H x = none → H dx = none → dx ≠ x → Q (.ref x) (upd (upd H dx (.own x)) x (.ins C dx []))
theorem pe_makeN0 (M : Mk0 X.K C) (hg : Gl X x) (hm : X.mg x = some (.ref C)) (hdb : (x == ("__debug__" : Str)) = false := by decide) : PE X (.Call (.Name x p) [] [] pos) (tMake0 C) := by
  intro pins s σ H Q I h
  refine wpAny_Call_Name_kw (ld_glob I hg hm ?_ hdb)
  exact PySem.W.callWith_K0 I.kIn M.kp (run_make0 M I h)
/-! ### list.remove(row) -/
/-! ### range(a, b, c), ahead -/
end
/-! ### lists of two lists of texts, == -/
section
variable {X : Cx}
end
end L2

end

section
namespace L2
open PySem PySem.W PySem.Spec PyProof.Rows
end L2

end

section
namespace L2
open PySem PySem.Spec PyProof.Rows
/-! ### signs in texts, kinds of signs -/
theorem mt_isalpha {X : Cx} : MtR X "str.isalpha" (fun x xs H Q => ∃ y, x = .str y ∧ xs = [] ∧ Q (.bl (Txt.isalpha y)) H) := by
  intro pins s σ H x xs u us Q I rx rs h
  obtain ⟨y, rfl, rfl, q⟩ := h
  obtain ⟨t, rfl⟩ := rx
  cases rs
  exact SC.isalpha (fin_bl I q rfl)
theorem mt_isdigit {X : Cx} : MtR X "str.isdigit" (fun x xs H Q => ∃ y, x = .str y ∧ xs = [] ∧ Q (.bl (Txt.isdigit y)) H) := by
  intro pins s σ H x xs u us Q I rx rs h
  obtain ⟨y, rfl, rfl, q⟩ := h
  obtain ⟨t, rfl⟩ := rx
  cases rs
  exact SC.isdigit (fin_bl I q rfl)
end L2

end

section
namespace L2
open PySem PySem.Spec
/-! ### how many unlike texts -/
def metT (val : Nat → Str) : Nat → List Str
  | 0 => []
  | i + 1 => if val i ∈ metT val i then metT val i else metT val i ++ [val i]
theorem metT_le (val : Nat → Str) : ∀ i, (metT val i).length ≤ i
  | 0 => Nat.le_refl _
  | i + 1 => by
    have ih := metT_le val i
    unfold metT
    split
    · omega
    · rw [List.length_append, List.length_singleton]; omega
theorem metT_mem (val : Nat → Str) (i : Nat) (k : Str) : (decide (k ∈ metT val i) || decide (k = val i)) = decide (k ∈ metT val (i + 1)) := by
  conv => rhs; unfold metT
  by_cases h : val i ∈ metT val i
  · rw [if_pos h]
    by_cases e : k = val i
    · subst e; simp [h]
    · simp [e]
  · rw [if_neg h]
    by_cases e : k = val i <;> simp [e]
theorem metT_len (val : Nat → Str) (i : Nat) : (if decide (val i ∈ metT val i) = true then (metT val i).length else (metT val i).length + 1) = (metT val (i + 1)).length := by
  conv => rhs; unfold metT
  by_cases h : val i ∈ metT val i
  · rw [if_pos h, if_pos (decide_eq_true h)]
  · rw [if_neg h, if_neg (by simpa using h), List.length_append]; rfl
section
variable {prog : Program} {w : World} {A : Around} {R : Result → Shared → Prop} {I : Addr} {fp wr : List Addr} {G : Array GenState → Array GenState → Prop} {n : Nat} {Pv : Nat → Value → Prop} {St : Nat → Shared → Prop}
abbrev TxtSet (prog : Program) (w : World) (h : Heap) (S : Addr) (val : Nat → Str) (i : Nat) : Prop := h.SetOf (PySem.strKind prog w) S (fun k => decide (k ∈ metT val i)) (metT val i).length
theorem TxtSet.keep {h h' : Heap} {S : Addr} {val : Nat → Str} {i : Nat} (t : TxtSet prog w h S val i) (k : ∀ o, h.get? S = some o → h'.get? S = some o) : TxtSet prog w h' S val i := by
  obtain ⟨o, es, ep, tb, ho, rest⟩ := t
  exact ⟨o, es, ep, tb, k o ho, rest⟩
theorem set_loopT (W : WalksS prog w A.in1 I fp wr G n Pv St) (S : Addr) (hSf : S ∉ fp) (val : Nat → Str) (hval : ∀ i v, Pv i v → ∃ t, v = .str (val i) t) (hb : n + 1 < scanBound) :
    ∀ (m i : Nat) (s : Shared), n - i = m → i ≤ n → St i s → TxtSet prog w s.heap S val i → (∀ s', Moved (S :: wr) G s s' → TxtSet prog w s'.heap S val n → R (.ok (.ret .none)) s') →
      codeAny (model prog w) A (.builtin "set.update.loop" ⟨[.ref S, .ref I], []⟩) R s := by
  have hSw : S ∉ wr := fun h => hSf (W.sub _ h)
  have up : ∀ b ∈ wr, b ∈ S :: wr := fun b h => List.mem_cons_of_mem _ h
  intro m
  induction m with
  | zero =>
    intro i s hm hi st hT hR
    obtain rfl : i = n := by omega
    refine codeAny_builtin PyProof.Rows.F.entry_set_update_loop ?_
    rw [Around.under_plainId PyProof.Rows.F.plain_set_update_loop _]
    refine wpAny_bind (m := pyNext (.ref I)) (W.done s _ _ st fun s' mv => ?_)
    exact wpAny_pure (hR s' (mv.mono up) (hT.keep fun o e => mv.heap S _ hSw e))
  | succ m ih =>
    intro i s hm hi st hT hR
    have hlt : i < n := by omega
    refine codeAny_builtin PyProof.Rows.F.entry_set_update_loop ?_
    rw [Around.under_plainId PyProof.Rows.F.plain_set_update_loop _]
    refine wpAny_bind (m := pyNext (.ref I)) (W.item i s _ _ hlt st fun v s' hP st' mv => ?_)
    obtain ⟨t, rfl⟩ := hval i v hP
    have hT' : TxtSet prog w s'.heap S val i := hT.keep fun o e => mv.heap S _ hSw e
    have his : (PySem.strKind prog w).is (val i) (.str (val i) t) = true := by simp [PySem.strKind, Value.isStrOf]
    refine wpAny_bind (m := holding [Value.str (val i) t] (setAdd S (.str (val i) t))) (wpAny_holding ?_)
    unfold setAdd
    refine wpAny_holding (wpAny_bind ((PySem.strKind prog w).pyHash (k := val i) his ?_))
    have room : (metT val i).length + 1 < scanBound := by have := metT_le val i; omega
    refine wpAny_setAddHashed_of (knd := PySem.strKind prog w) (s := { s' with toks := s'.toks + 1 }) his rfl hT' room fun h' sb hS2 => ?_
    have hT2 : TxtSet prog w h' S val (i + 1) := PyProof.Rows.SetOf_congr hS2 (fun k => metT_mem val i k) (metT_len val i)
    refine wpAny_pure ⟨plainId_quiet PyProof.Rows.F.plain_set_update_loop _, ih (i + 1) _ (by omega) hlt (W.frame _ s' _ _ st' (Nat.le_succ _) fun b hbf o e => ?_) hT2 fun s'' mv' hT3 => ?_⟩
    · rw [sb.2 b fun z : b = S => hSf (z ▸ hbf)]; exact e
    · refine hR s'' (Moved.trans W.gtrans ((mv.mono up).then_heap (Nat.le_succ _) fun b o hbn e => ?_) mv') hT3
      rw [sb.2 b fun z : b = S => hbn (by rw [z]; exact List.mem_cons_self)]; exact e
end
end L2

end

section
namespace L2
open PySem PySem.Spec
section
variable {prog : Program} {w : World} {A : Around} {E : Value → Shared → Prop} {s : Shared}
/-- the set as it is made -/
abbrev noSet (led : Bool) : Obj := { cls := .type "set", dict := none, data := .set #[] 0 (.fresh 0 0 led) }
abbrev setDone (prog : Program) (w : World) (s : Shared) (val : Nat → Str) (n : Nat) (r : Value) (s₂ : Shared) : Prop := r = .none ∧ ∃ h' tk, s₂ = { s with heap := h', toks := tk } ∧ TxtSet prog w h' s.heap.objs.size val n ∧ ∀ b o, b < s.heap.objs.size → s.heap.get? b = some o → h'.get? b = some o
def InitDone (prog : Program) (w : World) (A : Around) (E : Value → Shared → Prop) (s : Shared) (x : Value) (val : Nat → Str) (n : Nat) (led : Bool) : Prop :=
  wpAny (model prog w) A.in1.in1 (Builtin.«set.__init__» ⟨[.ref s.heap.objs.size, x], []⟩) (fun fin s' => match fin with
      | Fin.done f => wants (setDone prog w s val n) E (Except.ok f) s'
      | Fin.again c' => c'.quiet = true ∧ codeAny (model prog w) A.in1 c' (wants (setDone prog w s val n) E) s')
    (fun e s' => wants (setDone prog w s val n) E (Except.error e) s') { s with heap := s.heap.push (noSet led) }
set_option maxHeartbeats 3200000 in
/-- set(x), once its own init has been seen -/
theorem call_set_by {x : Value} {val : Nat → Str} {n : Nat} {Q : Value → Shared → Prop}
    (hin : ∀ led : Bool, InitDone prog w A E s x val n led)
    (h : ∀ h' tk, TxtSet prog w h' s.heap.objs.size val n → (∀ b o, b < s.heap.objs.size → s.heap.get? b = some o → h'.get? b = some o) → Q (.ref s.heap.objs.size) { s with heap := h', toks := tk }) :
    wpAny (model prog w) A (call (.type "set") [x]) Q E s := by
  obtain ⟨c, tl, hmro⟩ := F.called_set.mro
  have hmade := F.called_set.made
  have hsub := F.called_set.sub
  refine wpAny_call (codeAny_of_tree ?_)
  show wpAny _ _ (callAny (.type "set") _) _ _ _
  refine wpAny_pure ⟨Code.quiet_builtin _ (by decide +kernel), codeAny_builtin F.entry_type_call ?_⟩
  rw [Around.under_plain (weight_type_call_type "set" [x] []) rfl]
  have h1 := F.called_set.notType
  have h2 := F.called_set.canCreate
  have hct := F.typeCall_set_1 x
  repeat (any_goals (first | assumption | wp_step))
  refine codeAny_mono (PySem.code_set_new_1 x (E := E) (Q₁ := fun obj s₁ => ∃ led : Bool, obj = .ref s.heap.objs.size ∧ s₁ = { s with heap := s.heap.push (noSet led) }) fun led => ⟨led, rfl, rfl⟩) fun r s₁ hr => ?_
  cases r with
  | error e => exact hr
  | ok fl =>
    cases fl with
    | ret obj =>
      obtain ⟨led, rfl, rfl⟩ := hr
      have hS : (s.heap.push (noSet led)).get? s.heap.objs.size = some (noSet led) := Heap.get?_push_size _ rfl
      have hT : Shared.TypeIs { s with heap := s.heap.push (noSet led) } (.ref s.heap.objs.size) "set" := ⟨_, hS, rfl⟩
      have hli := F.called_set.init.lookup
      have hbi := F.called_set.init.bind (.ref s.heap.objs.size)
      repeat (any_goals (first | assumption | wp_step))
      refine codeAny_mono (codeAny_call_builtin (R := wants (setDone prog w s val n) E) F.called_set.init.plain F.entry_set_init (PySem.check_set_init_1 hT ?_)) fun r₂ s₂ hr₂ => ?_
      · exact hin led
      · cases r₂ with
        | error e => exact hr₂
        | ok fl₂ =>
          cases fl₂ with
          | ret r =>
            obtain ⟨rfl, h', tk, rfl, hS', hk'⟩ := hr₂
            repeat (any_goals (first | assumption | wp_step))
            exact h _ _ hS' hk'
          | _ => exact hr₂.elim
    | _ => exact hr.elim
set_option maxHeartbeats 3200000 in
theorem init_list {l : Addr} {items : Array Value} {val : Nat → Str} (hh : A.handled = none) (hl : s.heap.IsList l items) (hv : ∀ (i : Nat) (v : Value), items[i]? = some v → ∃ t, v = .str (val i) t) (hb : items.size + 1 < scanBound) (led : Bool) : InitDone prog w A E s (.ref l) val items.size led := by
  unfold InitDone
  obtain ⟨ol, hol, hcl, nl, hdl⟩ := hl
  obtain ⟨ocls, odict, odata, oslots⟩ := ol
  simp only at hcl hdl
  subst hcl; subst hdl
  have hS : (s.heap.push (noSet led)).get? s.heap.objs.size = some (noSet led) := Heap.get?_push_size _ rfl
  have hol' : (s.heap.push (noSet led)).get? l = some { cls := .type "list", dict := odict, data := .seq items nl, slots := oslots } := Heap.get?_push_of_some _ hol
  have hsls := F.sub_list_set
  have hslf := F.sub_list_frozenset
  have hne : (Value.type "list" == Value.type "dict") = false := by decide
  have hl1 : (s.heap.push (noSet led)).IsList l items := ⟨_, hol', rfl, nl, rfl⟩
  unfold Builtin.«set.__init__» noKeywords Builtin.Frozenset.updateFrom
  generalize hPI : pyIter = PI
  wp_walk
  subst hPI
  refine wpAny_pyIter_list hl1 ?_
  refine wpAny_bind (wpAny_runValue ?_)
  have hlS : l < s.heap.objs.size := Heap.lt_size hol
  have hh3 : A.in1.in1.in1.handled = none := by simp [hh]
  have hsz : (s.heap.push (noSet led)).objs.size = s.heap.objs.size + 1 := Heap.size_push ..
  have hne2 : l ≠ (s.heap.push (noSet led)).objs.size := by rw [hsz]; exact Nat.ne_of_lt (Nat.lt_succ_of_lt hlS)
  have hSf : s.heap.objs.size ∉ [(s.heap.push (noSet led)).objs.size, l] := fun z => by
    rw [hsz] at z
    rcases List.mem_cons.mp z with y | y
    · exact absurd y (Nat.ne_of_lt (Nat.lt_succ_self _))
    · exact absurd (List.mem_singleton.mp y) (Nat.ne_of_gt hlS)
  refine set_loopT ((Walks.list hh3 _ l hne2 items).toS) s.heap.objs.size hSf val hv hb items.size 0 _ (by omega) (Nat.zero_le _) ⟨⟨_, Heap.get?_push_size _ rfl, rfl, rfl⟩, hl1.push _⟩ ?_ ?_
  · exact PyProof.Rows.SetOf_congr ((PyProof.Rows.setObjOf_fresh (knd := PySem.strKind prog w) led).setOf (Heap.get?_push_of_some _ hS) (by unfold scanBound; omega)) (fun _ => rfl) rfl
  · intro s' hm hS'
    obtain ⟨h', g', d', tk', os'⟩ := s'
    have eg : g' = s.gens := hm.gens
    have ed : d' = s.drawn := hm.drawn
    have eo : os' = s.os := hm.os
    subst eg; subst ed; subst eo
    refine wpAny_pure ?_
    refine wpAny_pure (a := Fin.done (Flow.ret Value.none)) ⟨rfl, h', tk', rfl, hS', fun b o hbl e => ?_⟩
    refine hm.heap b o (fun z => ?_) (Heap.get?_push_of_some _ (Heap.get?_push_of_some _ e))
    rcases List.mem_cons.mp z with y | y
    · exact absurd y (Nat.ne_of_lt hbl)
    · rcases List.mem_cons.mp y with y | y
      · rw [hsz] at y; exact absurd y (Nat.ne_of_lt (Nat.lt_succ_of_lt hbl))
      · cases y
end
end L2

end

section
namespace L2
open PySem PySem.Spec
section
variable {prog : Program} {w : World} {A : Around} {E : Value → Shared → Prop} {s : Shared}
def signsOf (x : Str) (i : Nat) : Str := ⟨#[x.cps.getD i 0]⟩
set_option maxHeartbeats 3200000 in
theorem init_text {x : Str} {t : Tok} (hh : A.handled = none) (hb : x.cps.size + 1 < scanBound) (led : Bool) : InitDone prog w A E s (.str x t) (signsOf x) x.cps.size led := by
  unfold InitDone
  have hS : (s.heap.push (noSet led)).get? s.heap.objs.size = some (noSet led) := Heap.get?_push_size _ rfl
  have hsls := F.sub_str_set
  have hslf := F.sub_str_frozenset
  have hne : (Value.type "str" == Value.type "dict") = false := by decide
  unfold Builtin.«set.__init__» noKeywords Builtin.Frozenset.updateFrom
  generalize hPI : pyIter = PI
  wp_walk
  subst hPI
  have hsz : (s.heap.push (noSet led)).objs.size = s.heap.objs.size + 1 := Heap.size_push ..
  refine wpAny_pyIter_str (s := { s with heap := s.heap.push (noSet led) }) fun o St W st0 => ?_
  refine wpAny_bind (wpAny_runValue ?_)
  have hh3 : A.in1.in1.in1.handled = none := by simp [hh]
  have hSf : s.heap.objs.size ∉ [(s.heap.push (noSet led)).objs.size] := fun z => by
    rw [hsz] at z
    exact absurd (List.mem_singleton.mp z) (Nat.ne_of_lt (Nat.lt_succ_self _))
  refine set_loopT ((W _ hh3).toS) s.heap.objs.size hSf (signsOf x) (fun i v hv => ?_) hb x.cps.size 0 _ (by omega) (Nat.zero_le _) st0 ?_ ?_
  · obtain ⟨c, u, hc, rfl⟩ := hv
    refine ⟨u, ?_⟩
    unfold signsOf
    rw [Array.getD_eq_getD_getElem?, hc]; rfl
  · exact PyProof.Rows.SetOf_congr ((PyProof.Rows.setObjOf_fresh (knd := PySem.strKind prog w) led).setOf (Heap.get?_push_of_some _ hS) (by unfold scanBound; omega)) (fun _ => rfl) rfl
  · intro s' hm hS'
    obtain ⟨h', g', d', tk', os'⟩ := s'
    have eg : g' = s.gens := hm.gens
    have ed : d' = s.drawn := hm.drawn
    have eo : os' = s.os := hm.os
    subst eg; subst ed; subst eo
    refine wpAny_pure ?_
    refine wpAny_pure (a := Fin.done (Flow.ret Value.none)) ⟨rfl, h', tk', rfl, hS', fun b o' hbl e => ?_⟩
    refine hm.heap b o' (fun z => ?_) (Heap.get?_push_of_some _ (Heap.get?_push_of_some _ e))
    rcases List.mem_cons.mp z with y | y
    · exact absurd y (Nat.ne_of_lt hbl)
    · have y := List.mem_singleton.mp y
      rw [hsz] at y; exact absurd y (Nat.ne_of_lt (Nat.lt_succ_of_lt hbl))
theorem len_TxtSet {S : Addr} {val : Nat → Str} {i : Nat} {Q : Value → Shared → Prop} (hT : TxtSet prog w s.heap S val i) (h : Q (.int ((metT val i).length : Nat) (s.toks + 1)) { s with toks := s.toks + 1 + 1 }) : wpAny (model prog w) A (call (.builtin "len") [.ref S]) Q E s := by
  obtain ⟨o, es, ep, t, ho, hex, hd, _, _, hb, hf, hn⟩ := hT
  refine call_len_set ho hex hd hf (by unfold scanBound at hb; omega) ?_
  rw [hn]; exact h
end
section
variable {X : Cx} {pos p p2 pos2 : Pos} {e : Expr} {te : TE}
/-- a list of texts or a text, as the texts in it -/
def TextsOf (K : PySem.W.Frag) (H : Hp) (x : V) (val : Nat → Str) (n : Nat) : Prop := (∃ a, x = .ref a ∧ SqL K H a ((List.range n).map fun i => V.str (val i))) ∨ (∃ z, x = .str z ∧ n = z.cps.size ∧ val = signsOf z)
def tLenSet (K : PySem.W.Frag) (te : TE) : TE := fun σ H Q => te σ H fun x H1 => ∃ val n, TextsOf K H1 x val n ∧ n + 1 < scanBound ∧ Q (.int ((metT val n).length : Nat)) H1
theorem pe_lenset (hcm : X.calm = true) (hgl : Gl X "len") (hml : X.mg "len" = none) (hgs : Gl X "set") (hms : X.mg "set" = none) (he : PE X e te)
    (hs1 : starEach [.Call (.Name "set" p2) [e] [] pos2] X.env = [(false, eval (.Call (.Name "set" p2) [e] [] pos2) X.env)] := by rfl) (hs2 : starEach [e] X.env = [(false, eval e X.env)] := by rfl) :
    PE X (.Call (.Name "len" p) [.Call (.Name "set" p2) [e] [] pos2] [] pos) (tLenSet X.K te) := by
  intro pins s σ H Q I h
  refine wpAny_Call_Name_kw (ld_blt I hgl hml bo_len ?_ (by decide) (by decide))
  refine PyProof.Rows.callWith_builtin1 ?_ (hs1.trans rfl) rfl
  rw [hs1]
  show wpAny _ _ (spliced ((false, eval (.Call (.Name "set" p2) [e] [] pos2) X.env) :: [])) _ _ s
  refine Calls.spliced_cons (wpAny_Call_Name_kw (ld_blt I hgs hms (by decide +kernel : bootBuiltins "set" = some (.type "set")) ?_ (by decide) (by decide)))
  refine PyProof.Rows.callWith_type1 ?_ (hs2.trans rfl) rfl
  rw [hs2]
  show wpAny _ _ (spliced ((false, eval e X.env) :: [])) _ _ s
  refine Calls.spliced_cons (thn (he pins s σ H _ I h) fun u s1 ⟨x, H1, I1, r1, val, n, hx, hb, q⟩ => Calls.spliced_nil ?_)
  have fin : ∀ (h' : Heap) (tk : Nat), TxtSet X.prog X.w h' s1.heap.objs.size val n → (∀ b o, b < s1.heap.objs.size → s1.heap.get? b = some o → h'.get? b = some o) → wpAny (model X.prog X.w) X.A (spliced []) (fun vs s₁ => wpAny (model X.prog X.w) X.A (call (.builtin "len") (.ref s1.heap.objs.size :: vs)) (EP X pins σ Q) X.xe s₁) X.xe { s1 with heap := h', toks := tk } := fun h' tk hT hk => by
    refine Calls.spliced_nil (len_TxtSet (s := { s1 with heap := h', toks := tk }) hT ?_)
    exact ⟨.int _, H1, I1.kept (h' := h') (t' := tk + 1 + 1) fun b o eb => hk b o (Heap.lt_size eb) eb, ⟨_, rfl⟩, q⟩
  rcases hx with ⟨a, rfl, hq⟩ | ⟨z, rfl, rfl, rfl⟩
  · obtain rfl : u = Value.ref a := r1
    obtain ⟨its, rv, pl, hz⟩ := I1.list hq
    have hlen := rv.length
    rw [List.length_map, List.length_range] at hlen
    have hsz : its.toArray.size = n := by rw [List.size_toArray]; omega
    refine call_set_by (fun led => ?_) fin
    have hi := init_list (prog := X.prog) (w := X.w) (E := X.xe) (val := val) (I1.ok.hd hcm) pl.isList (fun i v hv => ?_) (by rw [hsz]; exact hb) led
    · rw [hsz] at hi; exact hi
    · have hv' : its[i]? = some v := by simpa using hv
      have hil : i < n := by rw [hlen]; exact (List.getElem?_eq_some_iff.mp hv').1
      obtain ⟨u, hu, ru⟩ := rv.get (i := i) (x := .str (val i)) (by rw [List.getElem?_map, List.getElem?_range hil]; rfl)
      rw [hv'] at hu; cases hu
      exact ru
  · obtain ⟨t, rfl⟩ := r1
    exact call_set_by (fun led => init_text (I1.ok.hd hcm) hb led) fin
end
end L2

end

section
namespace L2
open PySem PySem.W PySem.Spec PyProof.Rows
/-! ### C(..) that makes or refuses -/
def MakeOkE (P : Program) (w : World) (K : PySem.W.Frag) (mg : Str → Option Value) (base : Heap) (k : Nat) (x : Str) (C : Addr) (ps : List Str) (sp : Sp) : Prop :=
  ∃ f fd, Mk K C f ∧ FnOk P w K mg base (CXe P w) k f fd ps sp ∧ Binds K fd ps [] ∧ mg x = some (.ref C)
section
variable {X : Cx} {CX : CXT} {k k1 k2 k' : Nat} {f C : Addr} {fd : FuncData} {x : Str} {ps : List Str} {sp sp1 sp2 : Sp} {e : Expr} {es : List Expr} {t : TA} {p pos : Pos} {E : St → XK}
theorem run_makeC {pins : List (Addr × Obj)} {σ : St} {H : Hp} {s : Shared} {Q : VK} {us : List Value} {vs : List V} (M : Mk X.K C f) (F : FnOk X.prog X.w X.K X.mg X.base CX k f fd ps sp) (hr : Room (k + 1) X.A) (hb : Binds X.K fd ps []) (hx : PassesX CX X E) (I : Inv X pins σ H s) (r : Vals vs us)
    (hq : sp (.ref (s.heap.objs.size + 1) :: vs) (upd (upd H s.heap.objs.size (.own (s.heap.objs.size + 1))) (s.heap.objs.size + 1) (.ins C s.heap.objs.size [])) (fun v H2 => v = .non ∧ Q (.ref (s.heap.objs.size + 1)) H2) (E σ)) :
    wpAny (model X.prog X.w) X.A (call (.ref C) us) (EP X pins σ Q) X.xe s := by
  have I2 := Inv.made (C := C) I
  have r2 : Vals (V.ref (s.heap.objs.size + 1) :: vs) (Value.ref (s.heap.objs.size + 1) :: us) := .cons rfl r
  have hl : (Value.ref (s.heap.objs.size + 1) :: us ++ []).length = ps.length := by
    have e := r2.length
    rw [F.len _ _ _ _ hq] at e
    rw [List.append_nil]; exact e.symm
  have hb' := hb { s with heap := (s.heap.push PySem.W.emptyDict).push (PySem.W.instObj C s.heap.objs.size) } (Value.ref (s.heap.objs.size + 1) :: us) I2.kIn hl
  rw [List.append_nil] at hb'
  refine wpAny_call (make_map (f := f) I.kIn M.makes M.init (beq_iff_eq.mp M.fn) (codeAny_mono (F.run _ X.stack _ _ ⟨Value.ref (s.heap.objs.size + 1) :: us, []⟩ (Value.ref (s.heap.objs.size + 1) :: us) _ _ (E σ) (hr.make C us [])
    (I2.env0.make C us []) hb' r2 hq) fun r s' hq' => ?_))
  cases r with
  | error e => exact hx pins σ _ _ e s' I2 hq'
  | ok fl =>
    cases fl with
    | ret u =>
      obtain ⟨v, H', I3, rv, ev, q3⟩ := I2.after hq'
      subst ev
      exact ⟨rv, ⟨V.ref (s.heap.objs.size + 1), H', I3, rfl, q3⟩⟩
    | next => exact False.elim hq'
    | brk => exact False.elim hq'
    | cont => exact False.elim hq'
theorem pe_makeE2 (h : MakeOk X.prog X.w X.K X.mg X.base k1 x C ps sp1) (h' : MakeOkE X.prog X.w X.K X.mg X.base k2 x C ps sp2) (hr : Room k' X.A) (hx : PassesX (CXe X.prog X.w) X E) (ha : PA X (e :: es) t) (hk : k1 + 1 ≤ k' := by decide) (hk' : k2 + 1 ≤ k' := by decide) (hg : Gl X x := by rfl) (hdb : (x == ("__debug__" : Str)) = false := by decide +kernel)
    (he : starEach (e :: es) X.env = (false, eval e X.env) :: starEach es X.env := by rfl) (hpl : (backTo pos (starEach es X.env)).any (·.1) = false := by rfl) :
    PE X (.Call (.Name x p) (e :: es) [] pos) (fun σ H Q => t σ H fun vs H1 => ∀ y dx, H1 y = none → H1 dx = none → dx ≠ y → sp1 (.ref y :: vs) (upd (upd H1 dx (.own y)) y (.ins C dx [])) (fun v H2 => v = .non ∧ Q (.ref y) H2) E0 ∨ sp2 (.ref y :: vs) (upd (upd H1 dx (.own y)) y (.ins C dx [])) (fun v H2 => v = .non ∧ Q (.ref y) H2) (E σ)) := by
  obtain ⟨f, fd, M, F, hb, hm⟩ := h
  obtain ⟨f2, fd2, M2, F2, hb2, hm2⟩ := h'
  obtain rfl : f = f2 := by
    have e1 := M.init
    rw [M2.init] at e1
    injection e1 with z; injection z with z; injection z with z; exact z.symm
  intro pins s σ H Q I h
  refine wpAny_Call_Name_kw (ld_glob I hg hm ?_ hdb)
  refine PySem.W.callWith_K (h₀ := X.base) I.ok.mod.kin M.kp (thn (ha pos pins s σ H _ I h) fun us s1 ⟨vs, H1, I1, r, q⟩ => ⟨I1.kIn, ?_⟩) he hpl
  rcases q (s1.heap.objs.size + 1) s1.heap.objs.size (I1.hok.fresh (Nat.le_succ _)) (I1.hok.fresh (Nat.le_refl _)) (Nat.ne_of_lt (Nat.lt_succ_self _)) with q | q
  · exact run_makeC (E := fun _ => E0) M F (hr.mono hk) hb pass0 I1 r q
  · exact run_makeC M F2 (hr.mono hk') hb2 hx I1 r q
theorem PE.or {e : Expr} {t t' : TE} (h : PE X e t) (h' : PE X e t') : PE X e (fun σ H Q => t σ H Q ∨ t' σ H Q) := fun pins s σ H Q I q => q.elim (h pins s σ H Q I) (h' pins s σ H Q I)
end
/-! ### comprehensions over a text -/
theorem comp_strF {x : Str} {g : TG} {tc : TT} {te : TE} {Q : VK} {H : Hp} {D : Addr} {σ0 : St} (keep : Nat → Bool) (f : Nat → V) (S : St → Prop) (hz : x.cps.size ≤ sizeLine) (h0 : S σ0) (hD : H D = none)
    (ht : ∀ c, c ∈ x.cps.toList → ∀ σ1 H1, S σ1 → Same H H1 → ∀ (R : St → V → Hp → Prop) (R' : St → Hp → Prop), (∀ σ2, S σ2 → if keep c = true then R σ2 (f c) H1 else R' σ2 H1) → g (.str ⟨#[c]⟩) σ1 H1 fun σ2 H2 => tc σ2 H2 fun b H3 => if b = true then te σ2 H3 fun y H4 => R σ2 y H4 else R' σ2 H3)
    (hq : Q (.ref D) (upd H D (.lst ((x.cps.toList.filter keep).map f)))) :
    CompGo (Its x) g tc te Q σ0 H D := by
  have hn : x.cps.toList.length = x.cps.size := Array.length_toList
  refine ⟨fun i m σ1 H2 => i ≤ x.cps.size ∧ m = x.cps.size - i ∧ S σ1 ∧ H2 = upd H D (.lst (((x.cps.toList.take i).filter keep).map f)), ⟨x.cps.size, Nat.zero_le _, rfl, h0, rfl⟩, ?_⟩
  rintro i m σ1 H2 ⟨h1, rfl, h2, rfl⟩
  rcases Nat.lt_or_ge i x.cps.size with z | z
  · refine .inr ⟨z, ?_⟩
    rintro y H3 ⟨rfl, c, hc, rfl⟩
    have hc' : x.cps.toList[i]? = some c := by rw [Array.getElem?_toList]; exact hc
    refine ht c (List.mem_of_getElem? hc') σ1 _ h2 (same_new hD) (fun σ2 y H6 => ∃ ys m', H6 D = some (.lst ys) ∧ ys.length < sizeLine ∧ m' < x.cps.size - i ∧ (i + 1 ≤ x.cps.size ∧ m' = x.cps.size - (i + 1) ∧ S σ2 ∧ upd H6 D (.lst (ys ++ [y])) = upd H D (.lst (((x.cps.toList.take (i + 1)).filter keep).map f))))
      (fun σ2 H5 => ∃ m', m' < x.cps.size - i ∧ (i + 1 ≤ x.cps.size ∧ m' = x.cps.size - (i + 1) ∧ S σ2 ∧ H5 = upd H D (.lst (((x.cps.toList.take (i + 1)).filter keep).map f)))) fun σ2 q3 => ?_
    have et : x.cps.toList.take (i + 1) = x.cps.toList.take i ++ [c] := by rw [List.take_add_one, hc']; rfl
    by_cases hk : keep c = true
    · rw [if_pos hk]
      refine ⟨_, x.cps.size - (i + 1), upd_same, ?_, by omega, by omega, rfl, q3, ?_⟩
      · rw [List.length_map]
        have := List.length_filter_le keep (x.cps.toList.take i)
        rw [List.length_take] at this; omega
      · rw [upd_upd', et, List.filter_append, List.map_append, List.filter_cons_of_pos hk]; rfl
    · rw [if_neg hk]
      refine ⟨x.cps.size - (i + 1), by omega, by omega, rfl, q3, ?_⟩
      rw [et, List.filter_append, List.map_append, List.filter_cons_of_neg hk]; simp
  · have e : i = x.cps.size := by omega
    subst e
    rw [List.take_of_length_le (by omega)]
    exact .inl ⟨Nat.le_refl _, hq⟩
theorem comp_str {x : Str} {g : TG} {te : TE} {Q : VK} {H : Hp} {D : Addr} {σ0 : St} (f : Nat → V) (S : St → Prop) (hz : x.cps.size ≤ sizeLine) (h0 : S σ0) (hD : H D = none)
    (ht : ∀ c, c ∈ x.cps.toList → ∀ σ1 H1, S σ1 → Same H H1 → ∀ R : St → V → Hp → Prop, (∀ σ2, S σ2 → R σ2 (f c) H1) → g (.str ⟨#[c]⟩) σ1 H1 fun σ2 H2 => te σ2 H2 fun y H4 => R σ2 y H4)
    (hq : Q (.ref D) (upd H D (.lst (x.cps.toList.map f)))) :
    CompGo (Its x) g tYes te Q σ0 H D := by
  refine comp_strF (fun _ => true) f S hz h0 hD (fun c hc σ1 H1 hS hs R R' hR => ?_) (by rw [List.filter_eq_self.mpr fun _ _ => rfl]; exact hq)
  exact ht c hc σ1 H1 hS hs R fun σ2 h2 => by have := hR σ2 h2; rwa [if_pos rfl] at this
/-! ### a comprehension over a list whose elements may be anything new -/
theorem comp_listP {K : PySem.W.Frag} {a : Addr} {xs : List V} {g : TG} {te : TE} {Q : VK} {H : Hp} {D : Addr} {σ0 : St} (Pr : Nat → V → Hp → Prop) (S : St → Prop) (hm : ∀ i y H1 H2, (∀ b u, b ≠ D → H1 b = some u → H2 b = some u) → Pr i y H1 → Pr i y H2) (hz : xs.length ≤ 100000) (h0 : S σ0) (hD : H D = none) (hl : SqL K H a xs)
    (ht : ∀ i x, xs[i]? = some x → ∀ σ1 H1, S σ1 → Same H H1 → (∃ l, H1 D = some (.lst l)) → ∀ R : St → V → Hp → Prop, (∀ σ2 y H3, S σ2 → Same H1 H3 → (Closed H1 → Closed H3) → Pr i y H3 → R σ2 y H3) → g x σ1 H1 fun σ2 H2 => te σ2 H2 fun y H3 => R σ2 y H3)
    (hq : ∀ (ys : List V) (H' : Hp), ys.length = xs.length → Same H H' → (Closed H → Closed H') → H' D = some (.lst ys) → (∀ k y, ys[k]? = some y → Pr k y H') → Q (.ref D) H') :
    CompGo (Itl K a) g tYes te Q σ0 H D := by
  have clD : ∀ (H1 : Hp) (l l' : List V), H1 D = some (.lst l) → Closed H1 → Closed (upd H1 D (.lst l')) := fun H1 l l' h c b u e => by
    by_cases z : b = D
    · subst z; rw [upd_same] at e; cases e; trivial
    · rw [upd_ne z] at e
      have ow := c b u e
      clear e
      induction u with
      | ins C dx fs =>
        have x' : H1 dx = some (.own b) := ow
        show upd H1 D (.lst l') dx = some (.own b)
        rw [upd_ne fun z => by rw [z, h] at x'; cases x']
        exact x'
      | frz ob u ih => exact ih ow
      | _ => trivial
  refine ⟨fun i m σ1 H2 => i ≤ xs.length ∧ m = xs.length - i ∧ S σ1 ∧ Same H H2 ∧ (Closed H → Closed H2) ∧ ∃ ys : List V, ys.length = i ∧ H2 D = some (.lst ys) ∧ ∀ k y, ys[k]? = some y → Pr k y H2, ⟨xs.length, Nat.zero_le _, rfl, h0, same_new hD, fun c => closed_new c hD trivial, [], rfl, upd_same, fun k y h => nomatch h⟩, ?_⟩
  rintro i m σ1 H2 ⟨h1, rfl, h2, hs, hcl, ys, hy, hDv, hP⟩
  have hl2 := hs.seq hl
  rcases Nat.lt_or_ge i xs.length with z | z
  · refine .inr ⟨⟨xs, xs[i], hl2, List.getElem?_eq_getElem z⟩, ?_⟩
    rintro x H3 ⟨rfl, hx⟩
    have hx := hx xs hl2
    refine ht i x hx σ1 _ h2 hs ⟨_, hDv⟩ (fun σ2 y H6 => ∃ zs m', H6 D = some (.lst zs) ∧ zs.length < sizeLine ∧ m' < xs.length - i ∧ (i + 1 ≤ xs.length ∧ m' = xs.length - (i + 1) ∧ S σ2 ∧ Same H (upd H6 D (.lst (zs ++ [y]))) ∧ (Closed H → Closed (upd H6 D (.lst (zs ++ [y])))) ∧ ∃ ys : List V, ys.length = i + 1 ∧ upd H6 D (.lst (zs ++ [y])) D = some (.lst ys) ∧ ∀ k y', ys[k]? = some y' → Pr k y' (upd H6 D (.lst (zs ++ [y]))))) fun σ2 y H6 q3 hs6 hc6 hp6 => ?_
    have hD6 := hs6 _ _ hDv
    have up : ∀ b u, b ≠ D → H6 b = some u → upd H6 D (.lst (ys ++ [y])) b = some u := fun b u nb e => by rw [upd_ne nb]; exact e
    refine ⟨ys, xs.length - (i + 1), hD6, Nat.lt_of_lt_of_le (show ys.length < 100000 by omega) (by decide), by omega, by omega, rfl, q3, ?_, fun c => clD _ _ _ hD6 (hc6 (hcl c)), ys ++ [y], by rw [List.length_append, hy]; rfl, upd_same, ?_⟩
    · intro b u e
      rw [upd_ne (ne_of_none e hD)]
      exact hs6 b u (hs b u e)
    · intro k y' hk
      rcases Nat.lt_or_ge k ys.length with zk | zk
      · rw [List.getElem?_append_left zk] at hk
        exact hm k y' _ _ (fun b u nb e => up b u nb (hs6 b u e)) (hP k y' hk)
      · rw [List.getElem?_append_right zk] at hk
        have ek : k = ys.length := by
          rcases Nat.lt_or_ge (k - ys.length) 1 with w | w
          · omega
          · rw [List.getElem?_eq_none (by simpa using w)] at hk; cases hk
        subst ek
        rw [Nat.sub_self] at hk
        cases hk
        rw [hy]
        exact hm _ _ _ _ up hp6
  · have e : i = xs.length := by omega
    subst e
    exact .inl ⟨⟨xs, hl2, Nat.le_refl _⟩, hq ys H2 hy hs hcl hDv hP⟩
/-! ### what was reached: all is kept, and it is closed -/
structure Ext (H H' : Hp) : Prop where
  s : Same H H'
  c : Closed H → Closed H'
theorem Ext.refl (H : Hp) : Ext H H := ⟨Same.refl _, id⟩
theorem Ext.trans {A B C : Hp} (a : Ext A B) (b : Ext B C) : Ext A C := ⟨a.s.trans b.s, fun z => b.c (a.c z)⟩
theorem Ext.new {H : Hp} {p : Addr} {o : HO} (h : H p = none) (ho : OwnIn (upd H p o) p o) : Ext H (upd H p o) := ⟨same_new h, fun c => closed_new c h ho⟩
theorem Ext.lst {H : Hp} {p : Addr} {xs : List V} (h : H p = none) : Ext H (upd H p (.lst xs)) := .new h trivial
theorem Ext.tup {H : Hp} {p : Addr} {xs : List V} (h : H p = none) : Ext H (upd H p (.tup xs)) := .new h trivial
theorem Ext.exc {H : Hp} {p C : Addr} {d : Option Addr} (h : H p = none) : Ext H (upd H p (ExcO p C d)) := .new h trivial
theorem Ext.made {H : Hp} {x dx C : Addr} {fs : List (Str × V)} (h1 : H x = none) (h2 : H dx = none) (h3 : dx ≠ x) : Ext H (upd (upd H dx (.own x)) x (.ins C dx fs)) := by
  have hx : upd H dx (.own x) x = none := by rw [upd_ne (Ne.symm h3)]; exact h1
  refine ⟨(same_new h2).trans (same_new hx), fun c => closed_new (closed_new c h2 trivial) hx ?_⟩
  show upd (upd H dx (.own x)) x (.ins C dx fs) dx = some (.own x)
  rw [upd_ne h3]; exact upd_same
theorem Ext.sub {H H' : Hp} (e : Ext H H') : Sub H H' H' := .all (fun b o h => ⟨o, e.s b o h⟩) e.c
/-! ### texts -/
theorem len_toString {i : Int} {k : Nat} (hk : 1 ≤ k) (h : i.natAbs < 10 ^ k) : (Str.ofString (toString i)).length ≤ k + 1 := by
  rw [Str.ofString_eq_toList]
  show ((toString i).toList.map Char.toNat).toArray.size ≤ _
  rw [List.size_toArray, List.length_map]
  cases i with
  | ofNat m =>
    show (Nat.repr m).toList.length ≤ _
    rw [Nat.toList_repr]
    have := PyProof.Rows.digits10_le hk (show m < 10 ^ k from h)
    omega
  | negSucc m =>
    show ("-" ++ Nat.repr (m + 1)).toList.length ≤ _
    rw [String.toList_append, List.length_append, Nat.toList_repr]
    have := PyProof.Rows.digits10_le hk (show m + 1 < 10 ^ k from h)
    show 1 + _ ≤ _
    omega
theorem app_cps (x y : Str) : (x ++ y).cps.toList = x.cps.toList ++ y.cps.toList := Array.toList_append
theorem app_len (x y : Str) : (x ++ y).length = x.length + y.length := Array.size_append
/-- a text of at most n signs, all out of S -/
structure Tx (n : Nat) (S : List Nat) (x : Str) : Prop where
  n : x.length ≤ n
  s : ∀ c, c ∈ x.cps.toList → c ∈ S
theorem Tx.mono {n m : Nat} {S S' : List Nat} {x : Str} (h : Tx n S x) (hn : n ≤ m) (hs : ∀ c, c ∈ S → c ∈ S') : Tx m S' x := ⟨Nat.le_trans h.n hn, fun c hc => hs c (h.s c hc)⟩
theorem Tx.app {n m : Nat} {S : List Nat} {x y : Str} (h : Tx n S x) (h' : Tx m S y) : Tx (n + m) S (x ++ y) := ⟨by rw [app_len]; have := h.n; have := h'.n; omega, fun c hc => by
  rw [app_cps] at hc
  exact (List.mem_append.mp hc).elim (h.s c) (h'.s c)⟩
theorem Tx.one {S : List Nat} {c : Nat} (h : c ∈ S) : Tx 1 S ⟨#[c]⟩ := ⟨Nat.le_refl _, fun d hd => by rw [List.mem_singleton.mp hd]; exact h⟩
theorem Tx.slice {n : Nat} {S : List Nat} {x : Str} (h : Tx n S x) (lo hi : Option Int) : Tx n S (Txt.slice x lo hi) := by
  have e := KM.slice_cps x lo hi
  refine ⟨?_, fun c hc => h.s c ?_⟩
  · have e2 := congrArg List.length e
    rw [List.length_take, List.length_drop] at e2
    have e3 : (Txt.slice x lo hi).cps.toList.length = (Txt.slice x lo hi).length := Array.length_toList
    have e4 : x.cps.toList.length = x.length := Array.length_toList
    have := h.n
    omega
  · rw [e] at hc
    exact List.mem_of_mem_drop (List.mem_of_mem_take hc)
theorem slice_len_to (x : Str) (k : Nat) (h : k ≤ x.length) : (Txt.slice x none (some (k : Int))).length = k := by
  have e2 := congrArg List.length (KM.slice_cps x none (some (k : Int)))
  rw [HT.sIx_nat, HT.sIx_none, List.drop_zero, List.length_take] at e2
  have e3 : (Txt.slice x none (some (k : Int))).cps.toList.length = (Txt.slice x none (some (k : Int))).length := Array.length_toList
  have e4 : x.cps.toList.length = x.length := Array.length_toList
  omega
theorem slice_len_from (x : Str) (k : Nat) (h : k ≤ x.length) : (Txt.slice x (some (k : Int)) none).length = x.length - k := by
  have e2 := congrArg List.length (KM.slice_cps x (some (k : Int)) none)
  rw [HT.sIx_nat, HT.sIx_none, List.length_take, List.length_drop] at e2
  have e3 : (Txt.slice x (some (k : Int)) none).cps.toList.length = (Txt.slice x (some (k : Int)) none).length := Array.length_toList
  have e4 : x.cps.toList.length = x.length := Array.length_toList
  omega
theorem at_text {x : Str} {k : Nat} (h : k < x.length) : ∃ c, c ∈ x.cps.toList ∧ atI x.cps.toList ((k : Nat) : Int) = some c := by
  have h' : k < x.cps.toList.length := by rw [Array.length_toList]; exact h
  exact ⟨x.cps.toList[k], List.getElem_mem h', atI_nat (List.getElem?_eq_getElem h')⟩
/-- how many unlike texts -/
def dsN (ns : List Str) : Nat := (metT (fun i => ns.getD i Str.empty) ns.length).length
def dsT (s : Str) : Nat := (metT (signsOf s) s.cps.size).length
theorem dsN_le (ns : List Str) : dsN ns ≤ ns.length := metT_le ..
theorem dsT_le (s : Str) : dsT s ≤ s.length := metT_le ..
theorem names_range (ns : List Str) : ((List.range ns.length).map fun i => V.str (ns.getD i Str.empty)) = ns.map V.str := by
  apply List.ext_getElem
  · rw [List.length_map, List.length_range, List.length_map]
  · intro i h1 h2
    rw [List.length_map] at h2
    rw [List.getElem_map, List.getElem_map, List.getElem_range, List.getD_eq_getElem?_getD, List.getElem?_eq_getElem h2]; rfl
theorem texts_names {K : PySem.W.Frag} {H : Hp} {a : Addr} {ns : List Str} (h : SqL K H a (ns.map V.str)) : TextsOf K H (.ref a) (fun i => ns.getD i Str.empty) ns.length := .inl ⟨a, rfl, by rw [names_range]; exact h⟩
theorem texts_text {K : PySem.W.Frag} {H : Hp} (s : Str) : TextsOf K H (.str s) (signsOf s) s.cps.size := .inr ⟨s, rfl, rfl, rfl⟩
/-! ### what the forms ask of texts -/
def L26 : Str := "abcdefghijklmnopqrstuvwxyz"
def L62 : Str := "abcdefghijklmnopqrstuvwxyzABCDEFGHIJKLMNOPQRSTUVWXYZ0123456789"
def L68 : List Nat := L62.cps.toList ++ [95, 32, 45, 41, 10, 126]
def madeOf (t s : Str) : Bool := t.cps.toList.all fun c => decide (c ∈ s.cps.toList)
theorem alnum : ∀ c, c ∈ L68 → (Txt.isalpha ⟨#[c]⟩ || Txt.isdigit ⟨#[c]⟩) = decide (c ∈ L62.cps.toList) := by decide +kernel
theorem L62_len : L62.length = 62 := by decide +kernel
theorem L26_len : L26.length = 26 := by decide +kernel
def goodText (s : Str) : Bool := decide (s.length ≠ 0 ∧ s.length ≤ 60 ∧ dsT s = s.length) && madeOf s L62
def isName (n : Str) : Bool := decide (0 < n.length ∧ n.length ≤ 12) && madeOf n L26
def goodNames (ns : List Str) : Bool := decide (ns.length ≠ 0 ∧ ns.length ≤ 20 ∧ dsN ns = ns.length) && ns.all isName
theorem filter_all {α : Type} (l : List α) (p : α → Bool) : decide ((l.filter p).length = l.length) = l.all p := by
  rw [Bool.eq_iff_iff, decide_eq_true_eq, List.length_filter_eq_length_iff, List.all_eq_true]
theorem join_len_le (sep : Str) (ys : List Str) (B : Nat) (h : ∀ y ∈ ys, y.length ≤ B) : (Txt.join sep ys).length ≤ ys.length * (B + sep.length) := by
  have key : ∀ (ys : List Str) (acc : Array Nat), (∀ y ∈ ys, y.length ≤ B) → (ys.foldl (fun acc p => acc ++ sep.cps ++ p.cps) acc).size ≤ acc.size + ys.length * (B + sep.length) := by
    intro ys
    induction ys with
    | nil => intro acc _; simp
    | cons y r ih =>
      intro acc h
      rw [List.foldl_cons]
      have h1 := ih (acc ++ sep.cps ++ y.cps) fun z hz => h z (List.mem_cons_of_mem _ hz)
      have h2 : y.cps.size ≤ B := h y (List.mem_cons_self ..)
      rw [Array.size_append, Array.size_append] at h1
      rw [List.length_cons, Nat.succ_mul]
      have h3 : sep.length = sep.cps.size := rfl
      omega
  cases ys with
  | nil => exact Nat.zero_le _
  | cons y r =>
    show (r.foldl (fun acc p => acc ++ sep.cps ++ p.cps) y.cps).size ≤ _
    have h1 := key r y.cps fun z hz => h z (List.mem_cons_of_mem _ hz)
    have h2 : y.cps.size ≤ B := h y (List.mem_cons_self ..)
    rw [List.length_cons, Nat.succ_mul]
    omega
theorem log_small {i : Int} (h : i.natAbs < 10 ^ 60) : i.natAbs.log2 < 1920 := by
  by_cases z : i.natAbs = 0
  · rw [z]; decide
  · rw [Nat.log2_lt z]
    exact Nat.lt_trans h (by decide +kernel)
theorem str_nil (s : Str) : s = Str.ofString "" ↔ s.length = 0 := by
  have e : Str.ofString "" = ⟨#[]⟩ := by decide +kernel
  rw [e]
  constructor
  · rintro rfl; rfl
  · intro h
    obtain ⟨c⟩ := s
    have : c = #[] := Array.eq_empty_of_size_eq_zero h
    rw [this]
theorem upd_swap {H : Hp} {a b : Addr} {x y : HO} (h : a ≠ b) : upd (upd H a x) b y = upd (upd H b y) a x := by
  funext c
  by_cases h1 : c = b
  · subst h1
    rw [upd_same, upd_ne (Ne.symm h), upd_same]
  · rw [upd_ne h1]
    by_cases h2 : c = a
    · subst h2
      rw [upd_same, upd_same]
    · rw [upd_ne h2, upd_ne h2, upd_ne h1]
theorem slice_le (x : Str) (lo hi : Option Int) : (Txt.slice x lo hi).length ≤ x.length := by
  have e2 := congrArg List.length (KM.slice_cps x lo hi)
  rw [List.length_take, List.length_drop] at e2
  have e3 : (Txt.slice x lo hi).cps.toList.length = (Txt.slice x lo hi).length := Array.length_toList
  have e4 : x.cps.toList.length = x.length := Array.length_toList
  omega
theorem closed_lst {H : Hp} {D : Addr} {l l' : List V} (h : H D = some (.lst l)) (c : Closed H) : Closed (upd H D (.lst l')) := fun b u e => by
  by_cases z : b = D
  · subst z; rw [upd_same] at e; cases e; trivial
  · rw [upd_ne z] at e
    have ow := c b u e
    clear e
    induction u with
    | ins C dx fs =>
      have x' : H dx = some (.own b) := ow
      show upd H D (.lst l') dx = some (.own b)
      rw [upd_ne fun z => by rw [z, h] at x'; cases x']
      exact x'
    | frz ob u ih => exact ih ow
    | _ => trivial
theorem Ext.set {H H' : Hp} {D : Addr} {l l' : List V} (h0 : H D = none) (e : Ext H H') (h : H' D = some (.lst l)) : Ext H (upd H' D (.lst l')) :=
  ⟨fun b u q => by rw [upd_ne (ne_of_none q h0)]; exact e.s b u q, fun c => closed_lst h (e.c c)⟩
theorem ixN_nat {n k : Nat} (h : k < n) : ixN n ((k : Nat) : Int) = some k := by
  have : atI (List.range n) ((k : Nat) : Int) = some k := atI_nat (by rw [List.getElem?_range h])
  unfold atI at this
  rw [List.length_range] at this
  cases hx : ixN n ((k : Nat) : Int) with
  | none => rw [hx] at this; cases this
  | some j =>
    rw [hx, Option.bind_some] at this
    rw [List.getElem?_eq_some_iff] at this
    obtain ⟨_, z⟩ := this
    rw [List.getElem_range] at z
    rw [z]
end L2

end
namespace KR
open PySem L2 KM
def top (i : Nat) : Stmt := PySem.Challenge.pw_keyrise_k24_no_form.main.body.getD i (.Pass ⟨0, 0, 0, 0⟩)
abbrev s_law_cell_at : Stmt := top 40
abbrev s_law_kinds : Stmt := top 41
abbrev s_made_of : Stmt := top 25
abbrev s_is_name : Stmt := top 34
abbrev s_names_of : Stmt := top 35
abbrev s_Span_init : Stmt := inClass (top 28) 0
abbrev s_Letters_init : Stmt := inClass (top 29) 0
abbrev s_Record_init : Stmt := inClass (top 37) 0
abbrev s_Choice_init : Stmt := inClass (top 38) 0
abbrev s_Truth_shown : Stmt := inClass (top 27) 4
abbrev s_Span_shown : Stmt := inClass (top 28) 5
abbrev s_Letters_shown : Stmt := inClass (top 29) 6
abbrev s_shown_parts : Stmt := top 36
abbrev s_Record_shown : Stmt := inClass (top 37) 5
abbrev s_Choice_shown : Stmt := inClass (top 38) 5
abbrev s_law_signs : Stmt := top 42
abbrev s_law_names : Stmt := top 43
abbrev s_law_text : Stmt := top 46
abbrev s_law_parts : Stmt := top 47
abbrev s_law_good : Stmt := top 45
abbrev s_law : Stmt := top 49
abbrev s_law_named : Stmt := top 48
abbrev s_law_made : Stmt := top 44
theorem sc_law_cell_at : FnScope ["_law_script", "_law_k"] ["_law_script", "_law_k"] (defScope s_law_cell_at) := ⟨rfl, rfl, rfl, by decide +kernel, rfl, by decide +kernel, by decide +kernel⟩
theorem sc_law_kinds : FnScope ["_law_kept", "_law_kinds_here"] ["_law_kept"] (defScope s_law_kinds) := ⟨rfl, rfl, rfl, by decide +kernel, rfl, by decide +kernel, by decide +kernel⟩
theorem sc_made_of : FnScope ["text", "signs"] ["text", "signs"] (defScope s_made_of) := ⟨rfl, rfl, rfl, by decide +kernel, rfl, by decide +kernel, by decide +kernel⟩
theorem sc_is_name : FnScope ["name"] ["name"] (defScope s_is_name) := ⟨rfl, rfl, rfl, by decide +kernel, rfl, by decide +kernel, by decide +kernel⟩
theorem sc_names_of : FnScope ["parts", "names"] ["parts"] (defScope s_names_of) := ⟨rfl, rfl, rfl, by decide +kernel, rfl, by decide +kernel, by decide +kernel⟩
theorem sc_Span_init : FnScope ["self", "low", "high"] ["self", "low", "high"] (defScope s_Span_init) := ⟨rfl, rfl, rfl, by decide +kernel, rfl, by decide +kernel, by decide +kernel⟩
theorem sc_Letters_init : FnScope ["self", "signs"] ["self", "signs"] (defScope s_Letters_init) := ⟨rfl, rfl, rfl, by decide +kernel, rfl, by decide +kernel, by decide +kernel⟩
theorem sc_Record_init : FnScope ["self", "parts"] ["self", "parts"] (defScope s_Record_init) := ⟨rfl, rfl, rfl, by decide +kernel, rfl, by decide +kernel, by decide +kernel⟩
theorem sc_Choice_init : FnScope ["self", "cases"] ["self", "cases"] (defScope s_Choice_init) := ⟨rfl, rfl, rfl, by decide +kernel, rfl, by decide +kernel, by decide +kernel⟩
theorem sc_Truth_shown : FnScope ["self"] ["self"] (defScope s_Truth_shown) := ⟨rfl, rfl, rfl, by decide +kernel, rfl, by decide +kernel, by decide +kernel⟩
theorem sc_Span_shown : FnScope ["self"] ["self"] (defScope s_Span_shown) := ⟨rfl, rfl, rfl, by decide +kernel, rfl, by decide +kernel, by decide +kernel⟩
theorem sc_Letters_shown : FnScope ["self"] ["self"] (defScope s_Letters_shown) := ⟨rfl, rfl, rfl, by decide +kernel, rfl, by decide +kernel, by decide +kernel⟩
theorem sc_shown_parts : FnScope ["names", "forms"] ["names", "forms"] (defScope s_shown_parts) := ⟨rfl, rfl, rfl, by decide +kernel, rfl, by decide +kernel, by decide +kernel⟩
theorem sc_Record_shown : FnScope ["self"] ["self"] (defScope s_Record_shown) := ⟨rfl, rfl, rfl, by decide +kernel, rfl, by decide +kernel, by decide +kernel⟩
theorem sc_Choice_shown : FnScope ["self"] ["self"] (defScope s_Choice_shown) := ⟨rfl, rfl, rfl, by decide +kernel, rfl, by decide +kernel, by decide +kernel⟩
theorem sc_law_signs : FnScope ["_law_cell", "_law_rest", "_law_size", "_law_number", "_law_found", "_law_k", "_law_at"] ["_law_cell"] (defScope s_law_signs) := ⟨rfl, rfl, rfl, by decide +kernel, rfl, by decide +kernel, by decide +kernel⟩
theorem sc_law_names : FnScope ["_law_cell", "_law_many", "_law_some", "_law_size", "_law_at", "_law_step", "_law_number", "_law_first", "_law_stem", "_law_k"] ["_law_cell", "_law_many"] (defScope s_law_names) := ⟨rfl, rfl, rfl, by decide +kernel, rfl, by decide +kernel, by decide +kernel⟩
theorem sc_law_text : FnScope ["_law_script", "_law_cell", "_law_signs_here", "_law_way", "_law_at", "_law_sign"] ["_law_script"] (defScope s_law_text) := ⟨rfl, rfl, rfl, by decide +kernel, rfl, by decide +kernel, by decide +kernel⟩
theorem sc_law_parts : FnScope ["_law_script", "_law_cell", "_law_many", "_law_names_here", "_law_way", "_law_at", "_law_place", "_law_sign", "_law_old"] ["_law_script"] (defScope s_law_parts) := ⟨rfl, rfl, rfl, by decide +kernel, rfl, by decide +kernel, by decide +kernel⟩
theorem sc_law_good : FnScope ["_law_way", "_law_one", "_law_other", "_law_due", "_law_made_here", "_law_kept", "_law_told"] ["_law_way", "_law_one", "_law_other", "_law_due"] (defScope s_law_good) := ⟨rfl, rfl, rfl, by decide +kernel, rfl, by decide +kernel, by decide +kernel⟩
theorem sc_law : FnScope ["_law_script", "_law_low", "_law_cell", "_law_high", "_law_signs_here", "_law_good_here", "_law_parts_here"] ["_law_script"] (defScope s_law) := ⟨rfl, rfl, rfl, by decide +kernel, rfl, by decide +kernel, by decide +kernel⟩
theorem sc_law_named : FnScope ["_law_parts_here", "_law_names_here", "_law_many", "_law_name"] ["_law_parts_here"] (defScope s_law_named) := ⟨rfl, rfl, rfl, by decide +kernel, rfl, by decide +kernel, by decide +kernel⟩
theorem sc_law_made : FnScope ["_law_way", "_law_one", "_law_other", "_law_kept", "_law_made_here", "e"] ["_law_way", "_law_one", "_law_other"] (defScope s_law_made) := ⟨rfl, rfl, rfl, by decide +kernel, rfl, by decide +kernel, by decide +kernel⟩
/-- Python's own names are not given another meaning -/
structure NB (mg : Str → Option Value) : Prop where
  len_ : mg "len" = none
  range_ : mg "range" = none
  int_ : mg "int" = none
  str_ : mg "str" = none
  bool_ : mg "bool" = none
  tuple_ : mg "tuple" = none
  isinstance_ : mg "isinstance" = none
  list_ : mg "list" = none
  all_ : mg "all" = none
  zip_ : mg "zip" = none
  set_ : mg "set" = none
section
open PySem L2 KM
variable {P : Program} {w : World} {K : PySem.W.Frag} {mg : Str → Option Value} {base : Heap}
seal PE PT PW PA PS PSs PG PGs PI PTs PC PO

local macro_rules | `(tactic| walk_at "g1") => `(tactic| first
  | with_reducible exact True.intro
  | refine ⟨_, rfl, ?_⟩
  | refine ⟨_, _, rfl, rfl, ?_⟩
  | refine Or.inl ⟨_, _, rfl, rfl, ?_⟩
  | refine Or.inr ⟨_, _, rfl, rfl, ?_⟩
  | refine ⟨rfl, ?_⟩
  | refine ⟨(by first | omega | decide), ?_⟩)
local macro_rules | `(tactic| walk_at "g") => `(tactic| repeat walk_at "g1")
theorem iteD {p A B : Prop} [Decidable p] (h1 : p → A) (h2 : ¬ p → B) : if decide p = true then A else B := by
  by_cases h : p
  · rw [if_pos (decide_eq_true h)]; exact h1 h
  · rw [if_neg (by simpa using h)]; exact h2 h
theorem iteN {p A B : Prop} [Decidable p] (h : ¬ p) (h2 : B) : if decide p = true then A else B := by rw [if_neg (by simpa using h)]; exact h2
theorem iteY {p A B : Prop} [Decidable p] (h : p) (h2 : A) : if decide p = true then A else B := by rw [if_pos (decide_eq_true h)]; exact h2

/-! ### rows of signs -/
theorem small5 {n : Nat} (h : n ≤ 100000) : n ≤ sizeLine := Nat.le_trans h (by decide)
/-! ### the law's own helpers -/
def spCellAt (K : PySem.W.Frag) : Sp := fun vs H Q _ => ∃ (a : Addr) (ns : List Int) (k : Nat), vs = [.ref a, .int k] ∧ SqL K H a (ns.map V.int) ∧ ns.length ≤ 63 ∧ Q (.int (ns.getD k 0)) H
theorem ok_law_cell_at {f : Addr} {fd : FuncData} (nb : NB mg) (F : FunAt K mg "_law_cell_at" s_law_cell_at ["_law_script", "_law_k"] f fd) : DefOk P w K mg base 1 "_law_cell_at" ["_law_script", "_law_k"] (spCellAt K) := by
  refine F.ok sc_law_cell_at (fun vs H Q E h => ?_) (fun cdv A outer s H vs Q E hr h => ?_)
  · obtain ⟨a, ns, k, rfl, _⟩ := h; rfl
  obtain ⟨a, ns, k, rfl, hS, hl, q⟩ := h
  refine ⟨_, (pss_cons (ps_if (pt_cmpR oLt (pv 1) (pe_callB call_len rfl nb.len_ bo_len (pa_cons (pv 0) pa_nil)) (nomark _)) (pss_one (ps_ret (pe_ix iAll (pv 0) (pv 1) (fun _ _ => rfl)))) pss_nil)
    (pss_one (ps_ret pe_int))), ?_⟩
  refine ⟨_, rfl, _, rfl, _, _, rfl, .inl ⟨_, hS, rfl⟩, .inl ⟨_, _, rfl, rfl, _, rfl, ?_⟩⟩
  rw [List.length_map]
  refine iteD (fun c => ?_) (fun c => ?_)
  · have hk : k < ns.length := by omega
    refine ⟨_, rfl, _, rfl, .inl (.inl ⟨_, _, _, _, rfl, rfl, hS, atI_nat (by rw [List.getElem?_map, List.getElem?_eq_getElem hk]; rfl), H, .refl (Same.refl _), ?_⟩)⟩
    have e : ns.getD k 0 = ns[k] := by rw [List.getD_eq_getElem?_getD, List.getElem?_eq_getElem hk]; rfl
    rw [← e]
    exact q
  · have e : ns.getD k 0 = 0 := by rw [List.getD_eq_getElem?_getD, List.getElem?_eq_none (by omega)]; rfl
    rw [e] at q
    exact ⟨H, .refl (Same.refl _), q⟩

/-! ### what an error is -/
structure Cs where
  (n s w l f t a b tw k : Addr)
structure Nms (mg : Str → Option Value) (c : Cs) : Prop where
  gn : GlobV mg "NoFit" (.ref c.n)
  gs : GlobV mg "Short" (.ref c.s)
  gw : GlobV mg "Wrong" (.ref c.w)
  gl : GlobV mg "Left" (.ref c.l)
  gf : GlobV mg "NoForm" (.ref c.f)
  gt : GlobV mg "NoText" (.ref c.t)
  ga : GlobV mg "NotAhead" (.ref c.a)
  gb : GlobV mg "BadPage" (.ref c.b)
  g2 : GlobV mg "Twice" (.ref c.tw)
  gk : GlobV mg "Lacking" (.ref c.k)
structure Kits (K : PySem.W.Frag) (c : Cs) (C : Addr) (bs : List Bool) : Prop where
  xc : ExcC K C
  ks : ∃ b1 b2 b3 b4 b5 b6 b7 b8 b9 b10 : Bool, bs = [b1, b2, b3, b4, b5, b6, b7, b8, b9, b10, true] ∧ PySem.W.kitOne K (.ref C) (.ref c.n) = some b1 ∧ PySem.W.kitOne K (.ref C) (.ref c.s) = some b2 ∧ PySem.W.kitOne K (.ref C) (.ref c.w) = some b3 ∧ PySem.W.kitOne K (.ref C) (.ref c.l) = some b4 ∧
    PySem.W.kitOne K (.ref C) (.ref c.f) = some b5 ∧ PySem.W.kitOne K (.ref C) (.ref c.t) = some b6 ∧ PySem.W.kitOne K (.ref C) (.ref c.a) = some b7 ∧ PySem.W.kitOne K (.ref C) (.ref c.b) = some b8 ∧ PySem.W.kitOne K (.ref C) (.ref c.tw) = some b9 ∧ PySem.W.kitOne K (.ref C) (.ref c.k) = some b10 ∧ PySem.W.kitOne K (.ref C) (.type "ValueError") = some true
def spKindsG (K : PySem.W.Frag) (c : Cs) : Sp := fun vs H Q _ => ∃ v : V, vs = [v] ∧ ((v = .non ∧ ∀ p, H p = none → Q (.ref p) (upd H p (.lst ([] : List V)))) ∨
  (∃ a C d bs, v = .ref a ∧ H a = some (ExcO a C d) ∧ (d = none ∨ ∃ dx fs, d = some dx ∧ H dx = some (.xd fs)) ∧ Kits K c C bs ∧ ∀ p, H p = none → Q (.ref p) (upd H p (.lst (bs.map .bl)))))
theorem ok_law_kindsG {f : Addr} {c : Cs} {fd : FuncData} (nb : NB mg) (nbV : mg "ValueError" = none) (X : Nms mg c) (F : FunAt K mg "_law_kinds" s_law_kinds ["_law_kept"] f fd) : DefOk P w K mg base 1 "_law_kinds" ["_law_kept"] (spKindsG K c) := by
  obtain ⟨gc_NoFit, gc_Short, gc_Wrong, gc_Left, gc_NoForm, gc_NoText, gc_NotAhead, gc_BadPage, gc_Twice, gc_Lacking⟩ := X
  refine F.ok sc_law_kinds (fun vs H Q E h => ?_) (fun cdv A outer s H vs Q E hr h => ?_)
  · obtain ⟨v, rfl, _⟩ := h; rfl
  obtain ⟨v, rfl, hv⟩ := h
  refine ⟨_, (pss_cons (ps_if (pt_cmpR op_isN (pv 0) pe_non (nomark _)) (pss_one (ps_ret (pe_lst pa_nil))) pss_nil)
    (pss_cons (ps_set (i := 1) sc_law_kinds.nd rfl (by first | exact Or.inl rfl | exact Or.inr rfl) (pe_lst (pa_cons (pe_callB call_isinstX rfl nb.isinstance_ bo_isinstance (pa_cons (pv 0) (pa_cons (pe_globV gc_NoFit) pa_nil))) (pa_cons (pe_callB call_isinstX rfl nb.isinstance_ bo_isinstance (pa_cons (pv 0) (pa_cons (pe_globV gc_Short) pa_nil))) (pa_cons (pe_callB call_isinstX rfl nb.isinstance_ bo_isinstance (pa_cons (pv 0) (pa_cons (pe_globV gc_Wrong) pa_nil))) (pa_cons (pe_callB call_isinstX rfl nb.isinstance_ bo_isinstance (pa_cons (pv 0) (pa_cons (pe_globV gc_Left) pa_nil))) pa_nil))))))
    (pss_cons (ps_set (i := 1) sc_law_kinds.nd rfl (by first | exact Or.inl rfl | exact Or.inr rfl) (pe_op op_cat (pv 1) (pe_lst (pa_cons (pe_callB call_isinstX rfl nb.isinstance_ bo_isinstance (pa_cons (pv 0) (pa_cons (pe_globV gc_NoForm) pa_nil))) (pa_cons (pe_callB call_isinstX rfl nb.isinstance_ bo_isinstance (pa_cons (pv 0) (pa_cons (pe_globV gc_NoText) pa_nil))) (pa_cons (pe_callB call_isinstX rfl nb.isinstance_ bo_isinstance (pa_cons (pv 0) (pa_cons (pe_globV gc_NotAhead) pa_nil))) pa_nil))))))
    (pss_cons (ps_set (i := 1) sc_law_kinds.nd rfl (by first | exact Or.inl rfl | exact Or.inr rfl) (pe_op op_cat (pv 1) (pe_lst (pa_cons (pe_callB call_isinstX rfl nb.isinstance_ bo_isinstance (pa_cons (pv 0) (pa_cons (pe_globV gc_BadPage) pa_nil))) (pa_cons (pe_callB call_isinstX rfl nb.isinstance_ bo_isinstance (pa_cons (pv 0) (pa_cons (pe_globV gc_Twice) pa_nil))) (pa_cons (pe_callB call_isinstX rfl nb.isinstance_ bo_isinstance (pa_cons (pv 0) (pa_cons (pe_globV gc_Lacking) pa_nil))) pa_nil))))))
    (pss_one (ps_ret (pe_op op_cat (pv 1) (pe_lst (pa_cons (pe_callB call_isinstX rfl nb.isinstance_ bo_isinstance (pa_cons (pv 0) (pa_cons (pe_bltn (v := .ty "ValueError") rfl nbV bo_ValueError rfl) pa_nil))) pa_nil))))))))), ?_⟩
  rcases hv with ⟨rfl, q⟩ | ⟨a, C, d, bs, rfl, ha, hd, ⟨xc, b1, b2, b3, b4, b5, b6, b7, b8, b9, b10, rfl, k1, k2, k3, k4, k5, k6, k7, k8, k9, k10, kV⟩, q⟩
  · exact ⟨_, rfl, rfl, _, rfl, iteY rfl ⟨Nat.zero_le _, fun r hr2 => ⟨_, .new hr2 (same_new hr2) upd_same trivial, q r hr2⟩⟩⟩
  · have kr : ∀ {D : Addr} {b : Bool}, PySem.W.kitOne K (.ref C) (.ref D) = some b → ∀ cv, RelV (.ref D) cv → PySem.W.kitOne K (.ref C) cv = some b := fun {D b} h cv r => by
      obtain rfl : cv = .ref D := r
      exact h
    have kv : ∀ cv, RelV (.ty "ValueError") cv → PySem.W.kitOne K (.ref C) cv = some true := fun cv r => by
      obtain rfl : cv = .type "ValueError" := r
      exact kV
    have dS : ∀ {H' : Hp}, Same H H' → (d = none ∨ ∃ dx fs, d = some dx ∧ H' dx = some (.xd fs)) := fun {H'} hs => by
      rcases hd with z | ⟨dx, fs, z, e⟩
      · exact .inl z
      · exact .inr ⟨dx, fs, z, hs _ _ e⟩
    refine ⟨_, rfl, rfl, _, rfl, iteN (fun z => nomatch z) ?_⟩
    refine ⟨_, rfl, a, C, d, _, b1, rfl, ha, xc, hd, kr k1, ?_⟩
    refine ⟨_, rfl, a, C, d, _, b2, rfl, ha, xc, hd, kr k2, ?_⟩
    refine ⟨_, rfl, a, C, d, _, b3, rfl, ha, xc, hd, kr k3, ?_⟩
    refine ⟨_, rfl, a, C, d, _, b4, rfl, ha, xc, hd, kr k4, ?_⟩
    refine ⟨(by show 4 ≤ sizeLine; decide), fun r1 h1 => ?_⟩
    have s1' := same_new (o := HO.lst [V.bl b1, .bl b2, .bl b3, .bl b4]) h1
    have ha1 := s1' _ _ ha
    refine ⟨_, rfl, _, rfl, a, C, d, _, b5, rfl, ha1, xc, dS s1', kr k5, ?_⟩
    refine ⟨_, rfl, a, C, d, _, b6, rfl, ha1, xc, dS s1', kr k6, ?_⟩
    refine ⟨_, rfl, a, C, d, _, b7, rfl, ha1, xc, dS s1', kr k7, ?_⟩
    refine ⟨(by show 3 ≤ sizeLine; decide), fun r2 h2 => ?_⟩
    have s2' := same_new (o := HO.lst [V.bl b5, .bl b6, .bl b7]) h2
    refine ⟨r1, r2, _, _, rfl, rfl, s2' _ _ upd_same, upd_same, (by show 4 + 3 ≤ sizeLine; decide), fun r3 h3 => ?_⟩
    have s3' := same_new (o := HO.lst ([V.bl b1, .bl b2, .bl b3, .bl b4] ++ [V.bl b5, .bl b6, .bl b7])) h3
    have t3 := (s1'.trans s2').trans s3'
    have ha3 := t3 _ _ ha
    refine ⟨_, rfl, _, rfl, a, C, d, _, b8, rfl, ha3, xc, dS t3, kr k8, ?_⟩
    refine ⟨_, rfl, a, C, d, _, b9, rfl, ha3, xc, dS t3, kr k9, ?_⟩
    refine ⟨_, rfl, a, C, d, _, b10, rfl, ha3, xc, dS t3, kr k10, ?_⟩
    refine ⟨(by show 3 ≤ sizeLine; decide), fun r4 h4 => ?_⟩
    have s4' := same_new (o := HO.lst [V.bl b8, .bl b9, .bl b10]) h4
    refine ⟨r3, r4, _, _, rfl, rfl, s4' _ _ upd_same, upd_same, (by show 7 + 3 ≤ sizeLine; decide), fun r5 h5 => ?_⟩
    have s5' := same_new (o := HO.lst (([V.bl b1, .bl b2, .bl b3, .bl b4] ++ [V.bl b5, .bl b6, .bl b7]) ++ [V.bl b8, .bl b9, .bl b10])) h5
    have t5 := (t3.trans s4').trans s5'
    have ha5 := t5 _ _ ha
    refine ⟨_, rfl, _, rfl, a, C, d, _, true, rfl, ha5, xc, dS t5, kv, ?_⟩
    refine ⟨(by show 1 ≤ sizeLine; decide), fun r6 h6 => ?_⟩
    have s6' := same_new (o := HO.lst [V.bl true]) h6
    refine ⟨r5, r6, _, _, rfl, rfl, s6' _ _ upd_same, upd_same, (by show 10 + 1 ≤ sizeLine; decide), fun p hp => ?_⟩
    have sa := t5.trans s6'
    exact ⟨_, .new (sa.free hp) (sa.trans (same_new hp)) upd_same trivial, q p (sa.free hp)⟩

/-! ### texts and names, as the forms ask them -/
theorem one_ok : 1 ≤ sizeLine := by decide
def spMadeOf : Sp := fun vs H Q _ => ∃ t s : Str, vs = [.str t, .str s] ∧ t.length ≤ 1000 ∧ Q (.bl (madeOf t s)) H
theorem ok_made_of {f : Addr} {fd : FuncData} (nb : NB mg) (F : FunAt K mg "made_of" s_made_of ["text", "signs"] f fd) : DefOk P w K mg base 1 "made_of" ["text", "signs"] spMadeOf := by
  refine F.ok sc_made_of (fun vs H Q E h => ?_) (fun cdv A outer s H vs Q E hr h => ?_)
  · obtain ⟨_, _, rfl, _⟩ := h; rfl
  obtain ⟨t, sg, rfl, ht, q⟩ := h
  refine ⟨_, (pss_one (ps_ret (pe_callB (call_all rfl) rfl nb.all_ bo_all (pa_cons (pe_comp ["sign"] [(1, "signs")] rfl (by decide +kernel) ⟨rfl, .inl rfl, trivial⟩ (piAll (pv 0)) (fun _ _ _ _ _ => (pg_name (i := 0) (show (["sign", "signs"] : List Str).Nodup by decide +kernel) rfl (by first | exact Or.inl rfl | exact Or.inr rfl))) (fun _ _ _ _ _ => pts_nil) (fun _ _ _ _ _ => (pe_cmpR op_in_str (pv 0) (pv 1) (by with_unfolding_all rfl)))) pa_nil)))), ?_⟩
  refine .inr ⟨_, rfl, t, rfl, fun D hD => ?_⟩
  refine comp_str (fun c => .bl (decide (c ∈ sg.cps.toList))) (fun σ => ∃ z, σ = [z, some (.str sg)]) (small5 (by show t.length ≤ _; omega)) ⟨_, rfl⟩ hD ?_ ?_
  · rintro c hc σ1 H1 ⟨z, rfl⟩ hs R hR
    refine ⟨_, rfl, _, rfl, _, _, rfl, rfl, ?_⟩
    rw [StrLaws.found_one]
    exact hR _ ⟨_, rfl⟩
  · refine ⟨D, t.cps.toList.map fun c => decide (c ∈ sg.cps.toList), rfl, ?_, H, .refl (same_new hD), ?_⟩
    · rw [List.map_map]; exact SqL.of upd_same
    · rw [List.all_map]; exact q
def spIsName : Sp := fun vs H Q _ => ∃ n : Str, vs = [.str n] ∧ n.length ≤ 1000 ∧ Q (.bl (isName n)) H
theorem ok_is_name {f : Addr} {fd : FuncData} (nb : NB mg) (g_LONGEST_NAME : GlobV mg "LONGEST_NAME" (.int 12)) (g_SMALL_LETTERS : GlobV mg "SMALL_LETTERS" (.str L26)) (F : FunAt K mg "is_name" s_is_name ["name"] f fd) (D_made_of : DefOk P w K mg base 1 "made_of" ["text", "signs"] spMadeOf) : DefOk P w K mg base 2 "is_name" ["name"] spIsName := by
  refine F.ok sc_is_name (fun vs H Q E h => ?_) (fun cdv A outer s H vs Q E hr h => ?_)
  · obtain ⟨_, rfl, _⟩ := h; rfl
  obtain ⟨n, rfl, hn, q⟩ := h
  refine ⟨_, (pss_one (ps_ret (pe_and (pe_cmpR oLt pe_int (pe_callB call_len rfl nb.len_ bo_len (pa_cons (pv 0) pa_nil)) (nomark _)) (pe_and (pe_cmpR oLe (pe_callB call_len rfl nb.len_ bo_len (pa_cons (pv 0) pa_nil)) (pe_globV g_LONGEST_NAME) (nomark _)) (pe_one (pe_callD D_made_of hr (pa_cons (pv 0) (pa_cons (pe_globV g_SMALL_LETTERS) pa_nil)))))))), ?_⟩
  have ln : n.length ≤ sizeLine := small5 (by omega)
  unfold isName at q
  refine ⟨_, rfl, _, _, rfl, ⟨ln, rfl⟩, .inl ⟨_, _, rfl, rfl, _, rfl, ?_⟩⟩
  refine iteD (fun c1 => ?_) (fun c1 => ?_)
  · refine ⟨_, rfl, _, _, rfl, ⟨ln, rfl⟩, _, _, rfl, rfl, _, rfl, ?_⟩
    refine iteD (fun c2 => ?_) (fun c2 => ?_)
    · refine ⟨_, rfl, n, L26, rfl, hn, H, .refl (Same.refl _), ?_⟩
      rw [decide_eq_true ⟨by omega, by omega⟩, Bool.true_and] at q
      exact q
    · rw [decide_eq_false (fun z => c2 (by omega)), Bool.false_and] at q
      exact ⟨H, .refl (Same.refl _), q⟩
  · rw [decide_eq_false (fun z => c1 (by omega)), Bool.false_and] at q
    exact ⟨H, .refl (Same.refl _), q⟩
/-- a list of parts: tuples of a name and a form -/
structure Parts (H : Hp) (p : Addr) (ps : List (Addr × Str × Addr)) : Prop where
  l : H p = some (.lst (ps.map fun x => V.ref x.1))
  t : ∀ x, x ∈ ps → H x.1 = some (.tup [.str x.2.1, .ref x.2.2])
  n : ps.length ≤ 30
  b : ∀ x, x ∈ ps → x.2.1.length ≤ 100
def nms (ps : List (Addr × Str × Addr)) : List Str := ps.map fun x => x.2.1
def fms (ps : List (Addr × Str × Addr)) : List Addr := ps.map fun x => x.2.2
theorem Parts.same {H H' : Hp} {p : Addr} {ps : List (Addr × Str × Addr)} (h : Parts H p ps) (s : Same H H') : Parts H' p ps := ⟨s _ _ h.l, fun x hx => s _ _ (h.t x hx), h.n, h.b⟩
def spNamesOf : Sp := fun vs H Q _ => ∃ p ps, vs = [.ref p] ∧ Parts H p ps ∧ goodNames (nms ps) = true ∧ ∀ D, H D = none → Q (.ref D) (upd H D (.lst ((nms ps).map V.str)))
def spNamesBad (CF : Addr) : Sp := fun vs H _ E => ∃ p ps, vs = [.ref p] ∧ Parts H p ps ∧ goodNames (nms ps) = false ∧ E (.ref CF) none H
theorem ok_names_of {f : Addr} {fd : FuncData} (nb : NB mg) (g_MOST_PARTS : GlobV mg "MOST_PARTS" (.int 20)) (F : FunAt K mg "names_of" s_names_of ["parts"] f fd) (D_is_name : DefOk P w K mg base 2 "is_name" ["name"] spIsName) : DefOk P w K mg base 3 "names_of" ["parts"] spNamesOf := by
  refine F.ok sc_names_of (fun vs H Q E h => ?_) (fun cdv A outer s H vs Q E hr h => ?_)
  · obtain ⟨_, _, rfl, _⟩ := h; rfl
  obtain ⟨p, ps, rfl, hP, hg, q⟩ := h
  refine ⟨_, (pss_cons (ps_setComp (i := 1)  ["part"] [] sc_names_of.nd rfl rfl rfl (by decide +kernel) trivial (piAll (pv 0)) (fun _ _ _ _ _ => (pg_name (i := 0) (show (["part"] : List Str).Nodup by decide +kernel) rfl (by first | exact Or.inl rfl | exact Or.inr rfl))) (fun _ _ _ _ _ => pts_nil) (fun _ _ _ _ _ => (pe_ix iAll (pv 0) pe_int (fun _ _ => rfl))))
    (pss_cons (ps_if (PW.pt (pw_or (pt_cmpR oEq (pe_callB call_len rfl nb.len_ bo_len (pa_cons (pv 1) pa_nil)) pe_int (nomark _)) (pw_or1 (pt_cmpR oGt (pe_callB call_len rfl nb.len_ bo_len (pa_cons (pv 1) pa_nil)) (pe_globV g_MOST_PARTS) (nomark _))))) (pss_one ps_never) pss_nil)
    (pss_cons (ps_if (pt_cmpR oLt (pe_lenset rfl rfl nb.len_ rfl nb.set_ (pv 1)) (pe_callB call_len rfl nb.len_ bo_len (pa_cons (pv 1) pa_nil)) (nomark _)) (pss_one ps_never) pss_nil)
    (pss_cons (ps_if (pt_not (pt_truth (pe_callB (call_all rfl) rfl nb.all_ bo_all (pa_cons (pe_comp ["name"] [] rfl (by decide +kernel) trivial (piAll (pv 1)) (fun _ _ _ _ _ => (pg_name (i := 0) (show (["name"] : List Str).Nodup by decide +kernel) rfl (by first | exact Or.inl rfl | exact Or.inr rfl))) (fun _ _ _ _ _ => pts_nil) (fun _ _ _ _ _ => (pe_callD D_is_name hr (pa_cons (pv 0) pa_nil)))) pa_nil)) (fun _ => rfl))) (pss_one ps_never) pss_nil)
    (pss_one (ps_ret (pv 1))))))), ?_⟩
  refine .inl ⟨_, rfl, p, rfl, ⟨_, SqL.of hP.l⟩, fun D hD => ?_⟩
  refine comp_listI (K := K) (a := p) (xs := ps.map fun x => V.ref x.1) (fun i => V.str ((nms ps).getD i Str.empty)) (fun σ => ∃ z, σ = [z]) (by rw [List.length_map]; exact small5 (by have := hP.n; omega)) ⟨_, rfl⟩ hD (SqL.of hP.l) ?_ ?_
  · rintro i x hx σ1 H1 ⟨z, rfl⟩ hs1 R hR
    rw [List.getElem?_map] at hx
    obtain ⟨y, hy, rfl⟩ := Option.map_eq_some_iff.mp hx
    have hm := List.mem_of_getElem? hy
    have e : (nms ps).getD i Str.empty = y.2.1 := by unfold nms; rw [List.getD_eq_getElem?_getD, List.getElem?_map, hy]; rfl
    rw [e] at hR
    exact ⟨_, rfl, .inl (.inr ⟨_, _, _, _, rfl, rfl, SqT.of (hs1 _ _ (hP.t y hm)), atI_nat (j := 0) rfl, hR _ ⟨_, rfl⟩⟩)⟩
  have en : (List.range (ps.map fun x => V.ref x.1).length).map (fun i => V.str ((nms ps).getD i Str.empty)) = (nms ps).map V.str := by
    have h0 := names_range (nms ps)
    rw [show (ps.map fun x => V.ref x.1).length = (nms ps).length by unfold nms; rw [List.length_map, List.length_map]]
    exact h0
  rw [en]
  have hlN : (nms ps).length ≤ 30 := by unfold nms; rw [List.length_map]; exact hP.n
  have hSq : SqL K (upd H D (.lst ((nms ps).map V.str))) D ((nms ps).map V.str) := SqL.of upd_same
  have hds := dsN_le (nms ps)
  unfold goodNames at hg
  refine ⟨_, rfl, _, _, rfl, .inl ⟨_, hSq, rfl⟩, rfl, _, rfl, ?_⟩
  rw [List.length_map]
  simp only [Bool.and_eq_true, decide_eq_true_eq] at hg
  obtain ⟨⟨h0, h20, hd⟩, hall⟩ := hg
  refine iteN (fun z => h0 (by have := V.int.inj z; omega)) ⟨_, rfl, _, _, rfl, .inl ⟨_, hSq, rfl⟩, _, _, rfl, rfl, _, rfl, iteN (by rw [List.length_map]; omega) ?_⟩
  refine ⟨_, rfl, _, _, texts_names hSq, (by unfold scanBound; omega), _, rfl, _, _, rfl, .inl ⟨_, hSq, rfl⟩, .inl ⟨_, _, rfl, rfl, _, rfl, iteN (by rw [List.length_map]; show ¬ (((dsN (nms ps) : Nat) : Int) < _); omega) ?_⟩⟩
  refine .inl ⟨_, rfl, D, rfl, ⟨_, hSq⟩, fun D2 hD2 => ?_⟩
  have hD3 : upd H D (.lst ((nms ps).map V.str)) D = some (.lst ((nms ps).map V.str)) := upd_same
  refine comp_list (K := K) (a := D) (xs := (nms ps).map V.str) (fun x => match x with | .str n => .bl (isName n) | _ => .non) (fun σ => ∃ z, σ = [z]) (by rw [List.length_map]; exact small5 (by omega)) ⟨_, rfl⟩ hD2 hSq ?_ ?_
  · rintro x hx σ1 H1 ⟨z, rfl⟩ hs1 R hR
    obtain ⟨n, hn, rfl⟩ := List.mem_map.mp hx
    obtain ⟨y, hy, rfl⟩ := List.mem_map.mp hn
    have := hP.b y hy
    exact ⟨_, rfl, _, rfl, by omega, hR _ ⟨_, rfl⟩⟩
  · rw [List.map_map]
    refine ⟨D2, (nms ps).map isName, rfl, ?_, _, rfl, ?_⟩
    · rw [List.map_map]; exact SqL.of upd_same
    rw [List.all_map, show (id ∘ isName) = isName from rfl, hall]
    exact iteF ⟨_, rfl, _, .new (o := HO.lst ((nms ps).map V.str)) hD ((same_new hD).trans (same_new hD2)) (by rw [upd_ne (fun z => by rw [← z, hD3] at hD2; cases hD2)]; exact upd_same) trivial, q D hD⟩
theorem bad_names_of {f CF : Addr} {fd : FuncData} (nb : NB mg) (xi_NoForm : PySem.W.excIn K CF bmV "ValueError.__new__" = true) (gm_NoForm : mg "NoForm" = some (.ref CF)) (g_MOST_PARTS : GlobV mg "MOST_PARTS" (.int 20)) (F : FunAt K mg "names_of" s_names_of ["parts"] f fd) (D_is_name : DefOk P w K mg base 2 "is_name" ["name"] spIsName) : DefOkE P w K mg base 3 "names_of" ["parts"] (spNamesBad CF) := by
  refine F.okE sc_names_of (fun vs H Q E h => ?_) (fun cdv A outer s H vs Q E hr h => ?_)
  · obtain ⟨_, _, rfl, _⟩ := h; rfl
  obtain ⟨p, ps, rfl, hP, hg, q⟩ := h
  refine ⟨_, (pss_cons (ps_setComp (i := 1)  ["part"] [] sc_names_of.nd rfl rfl rfl (by decide +kernel) trivial (piAll (pv 0)) (fun _ _ _ _ _ => (pg_name (i := 0) (show (["part"] : List Str).Nodup by decide +kernel) rfl (by first | exact Or.inl rfl | exact Or.inr rfl))) (fun _ _ _ _ _ => pts_nil) (fun _ _ _ _ _ => (pe_ix iAll (pv 0) pe_int (fun _ _ => rfl))))
    (pss_cons (ps_if (PW.pt (pw_or (pt_cmpR oEq (pe_callB call_len rfl nb.len_ bo_len (pa_cons (pv 1) pa_nil)) pe_int (nomark _)) (pw_or1 (pt_cmpR oGt (pe_callB call_len rfl nb.len_ bo_len (pa_cons (pv 1) pa_nil)) (pe_globV g_MOST_PARTS) (nomark _))))) (pss_one (ps_raise throws_fn xi_NoForm gm_NoForm hr.hd (pa_cons pe_str pa_nil))) pss_nil)
    (pss_cons (ps_if (pt_cmpR oLt (pe_lenset rfl rfl nb.len_ rfl nb.set_ (pv 1)) (pe_callB call_len rfl nb.len_ bo_len (pa_cons (pv 1) pa_nil)) (nomark _)) (pss_one (ps_raise throws_fn xi_NoForm gm_NoForm hr.hd (pa_cons pe_str pa_nil))) pss_nil)
    (pss_cons (ps_if (pt_not (pt_truth (pe_callB (call_all rfl) rfl nb.all_ bo_all (pa_cons (pe_comp ["name"] [] rfl (by decide +kernel) trivial (piAll (pv 1)) (fun _ _ _ _ _ => (pg_name (i := 0) (show (["name"] : List Str).Nodup by decide +kernel) rfl (by first | exact Or.inl rfl | exact Or.inr rfl))) (fun _ _ _ _ _ => pts_nil) (fun _ _ _ _ _ => (pe_callD D_is_name hr (pa_cons (pv 0) pa_nil)))) pa_nil)) (fun _ => rfl))) (pss_one (ps_raise throws_fn xi_NoForm gm_NoForm hr.hd (pa_cons pe_str pa_nil))) pss_nil)
    (pss_one (ps_ret (pv 1))))))), ?_⟩
  refine .inl ⟨_, rfl, p, rfl, ⟨_, SqL.of hP.l⟩, fun D hD => ?_⟩
  refine comp_listI (K := K) (a := p) (xs := ps.map fun x => V.ref x.1) (fun i => V.str ((nms ps).getD i Str.empty)) (fun σ => ∃ z, σ = [z]) (by rw [List.length_map]; exact small5 (by have := hP.n; omega)) ⟨_, rfl⟩ hD (SqL.of hP.l) ?_ ?_
  · rintro i x hx σ1 H1 ⟨z, rfl⟩ hs1 R hR
    rw [List.getElem?_map] at hx
    obtain ⟨y, hy, rfl⟩ := Option.map_eq_some_iff.mp hx
    have hm := List.mem_of_getElem? hy
    have e : (nms ps).getD i Str.empty = y.2.1 := by unfold nms; rw [List.getD_eq_getElem?_getD, List.getElem?_map, hy]; rfl
    rw [e] at hR
    exact ⟨_, rfl, .inl (.inr ⟨_, _, _, _, rfl, rfl, SqT.of (hs1 _ _ (hP.t y hm)), atI_nat (j := 0) rfl, hR _ ⟨_, rfl⟩⟩)⟩
  have en : (List.range (ps.map fun x => V.ref x.1).length).map (fun i => V.str ((nms ps).getD i Str.empty)) = (nms ps).map V.str := by
    have h0 := names_range (nms ps)
    rw [show (ps.map fun x => V.ref x.1).length = (nms ps).length by unfold nms; rw [List.length_map, List.length_map]]
    exact h0
  rw [en]
  have hlN : (nms ps).length ≤ 30 := by unfold nms; rw [List.length_map]; exact hP.n
  have hSq : SqL K (upd H D (.lst ((nms ps).map V.str))) D ((nms ps).map V.str) := SqL.of upd_same
  have hds := dsN_le (nms ps)
  unfold goodNames at hg
  refine ⟨_, rfl, _, _, rfl, .inl ⟨_, hSq, rfl⟩, rfl, _, rfl, ?_⟩
  rw [List.length_map]
  refine iteD (fun z => ⟨one_ok, H, .refl (same_new hD), q⟩) (fun h0 => ⟨_, rfl, _, _, rfl, .inl ⟨_, hSq, rfl⟩, _, _, rfl, rfl, _, rfl, iteD (fun z => ⟨one_ok, H, .refl (same_new hD), q⟩) (fun h20 => ?_)⟩)
  rw [List.length_map] at h20
  refine ⟨_, rfl, _, _, texts_names hSq, (by unfold scanBound; omega), _, rfl, _, _, rfl, .inl ⟨_, hSq, rfl⟩, .inl ⟨_, _, rfl, rfl, _, rfl, iteD (fun z => ⟨one_ok, H, .refl (same_new hD), q⟩) (fun hd => ?_)⟩⟩
  rw [List.length_map] at hd
  have hd' : ¬ (((dsN (nms ps) : Nat) : Int) < (((nms ps).length : Nat) : Int)) := hd
  rw [decide_eq_true ⟨fun z => h0 (by rw [z]; rfl), by omega, by omega⟩, Bool.true_and] at hg
  refine .inl ⟨_, rfl, D, rfl, ⟨_, hSq⟩, fun D2 hD2 => ?_⟩
  have hD3 : upd H D (.lst ((nms ps).map V.str)) D = some (.lst ((nms ps).map V.str)) := upd_same
  refine comp_list (K := K) (a := D) (xs := (nms ps).map V.str) (fun x => match x with | .str n => .bl (isName n) | _ => .non) (fun σ => ∃ z, σ = [z]) (by rw [List.length_map]; exact small5 (by omega)) ⟨_, rfl⟩ hD2 hSq ?_ ?_
  · rintro x hx σ1 H1 ⟨z, rfl⟩ hs1 R hR
    obtain ⟨n, hn, rfl⟩ := List.mem_map.mp hx
    obtain ⟨y, hy, rfl⟩ := List.mem_map.mp hn
    have := hP.b y hy
    exact ⟨_, rfl, _, rfl, by omega, hR _ ⟨_, rfl⟩⟩
  · rw [List.map_map]
    refine ⟨D2, (nms ps).map isName, rfl, ?_, _, rfl, ?_⟩
    · rw [List.map_map]; exact SqL.of upd_same
    rw [List.all_map, show (id ∘ isName) = isName from rfl, hg]
    exact iteT ⟨one_ok, H, .refl ((same_new hD).trans (same_new hD2)), q⟩
/-! ### the classes Span, Letters, Record, Choice -/
structure SpanCls (K : PySem.W.Frag) (C : Addr) : Prop where
  cl : Cls K C
  nL : NoAttr K C "low"
  nH : NoAttr K C "high"
structure LetCls (K : PySem.W.Frag) (C : Addr) : Prop where
  cl : Cls K C
  nS : NoAttr K C "signs"
structure TwoCls (K : PySem.W.Frag) (C : Addr) : Prop where
  cl : Cls K C
  nN : NoAttr K C "names"
  nF : NoAttr K C "forms"
theorem lowhigh : ¬ (("low" : Str) = "high") := by decide +kernel
theorem namesforms : ¬ (("names" : Str) = "forms") := by decide +kernel
theorem put_low (v : V) : putF "low" v [] = ([("low", v)] : List (Str × V)) := rfl
theorem put_high (v w : V) : putF "high" w ([("low", v)] : List (Str × V)) = ([("low", v), ("high", w)] : List (Str × V)) := by simp only [putF, lowhigh, if_false]
theorem put_signs (v : V) : putF "signs" v [] = ([("signs", v)] : List (Str × V)) := rfl
theorem put_names (v : V) : putF "names" v [] = ([("names", v)] : List (Str × V)) := rfl
theorem put_forms (v w : V) : putF "forms" w ([("names", v)] : List (Str × V)) = ([("names", v), ("forms", w)] : List (Str × V)) := by simp only [putF, namesforms, if_false]
theorem look1 (k : Str) (v : V) (r : List (Str × V)) : ((k, v) :: r).lookup k = some v := by simp [List.lookup]
theorem look2 (k k2 : Str) (v w : V) (h : (k2 == k) = false) : ([(k, v), (k2, w)] : List (Str × V)).lookup k2 = some w := by simp [List.lookup, h]
theorem highlow : (("high" : Str) == "low") = false := by decide +kernel
theorem formsnames : (("forms" : Str) == "names") = false := by decide +kernel
def spanF (a b : Int) : List (Str × V) := [("low", .int a), ("high", .int b)]
def letF (s : Str) : List (Str × V) := [("signs", .str s)]
def twoF (l1 l2 : Addr) : List (Str × V) := [("names", .ref l1), ("forms", .ref l2)]
def spSpanInit (C : Addr) : Sp := fun vs H Q _ => ∃ (p dx : Addr) (a b : Int), vs = [.ref p, .int a, .int b] ∧ H p = some (.ins C dx []) ∧ a ≤ b ∧ Q .non (upd H p (.ins C dx (spanF a b)))
def spSpanBad (CF C : Addr) : Sp := fun vs H _ E => ∃ (p dx : Addr) (a b : Int), vs = [.ref p, .int a, .int b] ∧ H p = some (.ins C dx []) ∧ b < a ∧ E (.ref CF) none H
theorem ok_span_init {f C : Addr} {fd : FuncData} (T : SpanCls K C) (F : Fun K "__init__" "Span.__init__" s_Span_init f fd) : FnOk P w K mg base CX0 1 f fd ["self", "low", "high"] (spSpanInit C) := by
  refine F.ok sc_Span_init (fun vs H Q E h => ?_) (fun cdv A outer s H vs Q E hr h => ?_)
  · obtain ⟨_, _, _, _, rfl, _⟩ := h; rfl
  obtain ⟨p, dx, a, b, rfl, hp, hab, q⟩ := h
  refine ⟨_, (pss_cons (ps_if (pt_cmpR oGt (pv 1) (pv 2) (nomark _)) (pss_one ps_never) pss_nil)
    (pss_cons (ps_fld (pv 0) (pv 1) rfl)
    (pss_one (ps_fld (pv 0) (pv 2) rfl)))), ?_⟩
  refine ⟨_, rfl, _, rfl, _, _, rfl, rfl, _, rfl, iteN (by omega) ?_⟩
  refine ⟨_, rfl, _, rfl, p, C, dx, _, rfl, hp, T.cl, T.nL, (by show 0 < 1000; decide), ?_⟩
  rw [put_low]
  refine ⟨_, rfl, _, rfl, p, C, dx, _, rfl, upd_same, T.cl, T.nH, (by show 1 < 1000; decide), ?_⟩
  rw [put_high, upd_upd']
  exact q
theorem bad_span_init {f C CF : Addr} {fd : FuncData} (xi_NoForm : PySem.W.excIn K CF bmV "ValueError.__new__" = true) (gm_NoForm : mg "NoForm" = some (.ref CF)) (T : SpanCls K C) (F : Fun K "__init__" "Span.__init__" s_Span_init f fd) : FnOk P w K mg base (CXe P w) 1 f fd ["self", "low", "high"] (spSpanBad CF C) := by
  refine F.okE sc_Span_init (fun vs H Q E h => ?_) (fun cdv A outer s H vs Q E hr h => ?_)
  · obtain ⟨_, _, _, _, rfl, _⟩ := h; rfl
  obtain ⟨p, dx, a, b, rfl, hp, hab, q⟩ := h
  refine ⟨_, (pss_cons (ps_if (pt_cmpR oGt (pv 1) (pv 2) (nomark _)) (pss_one (ps_raise throws_fn xi_NoForm gm_NoForm hr.hd (pa_cons pe_str pa_nil))) pss_nil)
    (pss_cons (ps_fld (pv 0) (pv 1) rfl)
    (pss_one (ps_fld (pv 0) (pv 2) rfl)))), ?_⟩
  exact ⟨_, rfl, _, rfl, _, _, rfl, rfl, _, rfl, iteY (by omega) ⟨one_ok, H, .refl (Same.refl _), q⟩⟩
def spLetInit (C : Addr) : Sp := fun vs H Q _ => ∃ (p dx : Addr) (s : Str), vs = [.ref p, .str s] ∧ H p = some (.ins C dx []) ∧ s.length ≤ 1000 ∧ goodText s = true ∧ Q .non (upd H p (.ins C dx (letF s)))
def spLetBad (CF C : Addr) : Sp := fun vs H _ E => ∃ (p dx : Addr) (s : Str), vs = [.ref p, .str s] ∧ H p = some (.ins C dx []) ∧ s.length ≤ 1000 ∧ goodText s = false ∧ E (.ref CF) none H
theorem ok_let_init {f C : Addr} {fd : FuncData} (nb : NB mg) (g_MOST_SIGNS : GlobV mg "MOST_SIGNS" (.int 60)) (g_LETTERS_AND_FIGURES : GlobV mg "LETTERS_AND_FIGURES" (.str L62)) (T : LetCls K C) (F : Fun K "__init__" "Letters.__init__" s_Letters_init f fd) (D_made_of : DefOk P w K mg base 1 "made_of" ["text", "signs"] spMadeOf) : FnOk P w K mg base CX0 2 f fd ["self", "signs"] (spLetInit C) := by
  refine F.ok sc_Letters_init (fun vs H Q E h => ?_) (fun cdv A outer s H vs Q E hr h => ?_)
  · obtain ⟨_, _, _, rfl, _⟩ := h; rfl
  obtain ⟨p, dx, t, rfl, hp, ht, hg, q⟩ := h
  refine ⟨_, (pss_cons (ps_if (PW.pt (pw_or (pt_cmpR oEq (pv 1) pe_str (nomark _)) (pw_or1 (pt_cmpR oGt (pe_callB call_len rfl nb.len_ bo_len (pa_cons (pv 1) pa_nil)) (pe_globV g_MOST_SIGNS) (nomark _))))) (pss_one ps_never) pss_nil)
    (pss_cons (ps_if (pt_cmpR oLt (pe_lenset rfl rfl nb.len_ rfl nb.set_ (pv 1)) (pe_callB call_len rfl nb.len_ bo_len (pa_cons (pv 1) pa_nil)) (nomark _)) (pss_one ps_never) pss_nil)
    (pss_cons (ps_if (pt_not (pt_truth (pe_callD D_made_of hr (pa_cons (pv 1) (pa_cons (pe_globV g_LETTERS_AND_FIGURES) pa_nil))) (fun _ => rfl))) (pss_one ps_never) pss_nil)
    (pss_one (ps_fld (pv 0) (pv 1) rfl))))), ?_⟩
  have ln : t.length ≤ sizeLine := small5 (by omega)
  have hds := dsT_le t
  unfold goodText at hg
  simp only [Bool.and_eq_true, decide_eq_true_eq] at hg
  obtain ⟨⟨h0, h60, hd⟩, hall⟩ := hg
  refine ⟨_, rfl, rfl, _, rfl, iteN (fun z => h0 ((str_nil t).mp (V.str.inj z))) ⟨_, rfl, _, _, rfl, ⟨ln, rfl⟩, _, _, rfl, rfl, _, rfl, iteN (by omega) ?_⟩⟩
  refine ⟨_, rfl, _, _, texts_text t, (by unfold scanBound; show t.length + 1 < _; omega), _, rfl, _, _, rfl, ⟨ln, rfl⟩, .inl ⟨_, _, rfl, rfl, _, rfl, iteN (by show ¬ (((dsT t : Nat) : Int) < _); omega) ?_⟩⟩
  refine ⟨_, rfl, t, L62, rfl, by omega, _, rfl, ?_⟩
  rw [hall]
  refine iteF ⟨_, rfl, _, rfl, p, C, dx, _, rfl, hp, T.cl, T.nS, (by show 0 < 1000; decide), ?_⟩
  rw [put_signs]
  exact q
theorem bad_let_init {f C CF : Addr} {fd : FuncData} (nb : NB mg) (xi_NoForm : PySem.W.excIn K CF bmV "ValueError.__new__" = true) (gm_NoForm : mg "NoForm" = some (.ref CF)) (g_MOST_SIGNS : GlobV mg "MOST_SIGNS" (.int 60)) (g_LETTERS_AND_FIGURES : GlobV mg "LETTERS_AND_FIGURES" (.str L62)) (T : LetCls K C) (F : Fun K "__init__" "Letters.__init__" s_Letters_init f fd) (D_made_of : DefOk P w K mg base 1 "made_of" ["text", "signs"] spMadeOf) : FnOk P w K mg base (CXe P w) 2 f fd ["self", "signs"] (spLetBad CF C) := by
  refine F.okE sc_Letters_init (fun vs H Q E h => ?_) (fun cdv A outer s H vs Q E hr h => ?_)
  · obtain ⟨_, _, _, rfl, _⟩ := h; rfl
  obtain ⟨p, dx, t, rfl, hp, ht, hg, q⟩ := h
  refine ⟨_, (pss_cons (ps_if (PW.pt (pw_or (pt_cmpR oEq (pv 1) pe_str (nomark _)) (pw_or1 (pt_cmpR oGt (pe_callB call_len rfl nb.len_ bo_len (pa_cons (pv 1) pa_nil)) (pe_globV g_MOST_SIGNS) (nomark _))))) (pss_one (ps_raise throws_fn xi_NoForm gm_NoForm hr.hd (pa_cons pe_str pa_nil))) pss_nil)
    (pss_cons (ps_if (pt_cmpR oLt (pe_lenset rfl rfl nb.len_ rfl nb.set_ (pv 1)) (pe_callB call_len rfl nb.len_ bo_len (pa_cons (pv 1) pa_nil)) (nomark _)) (pss_one (ps_raise throws_fn xi_NoForm gm_NoForm hr.hd (pa_cons pe_str pa_nil))) pss_nil)
    (pss_cons (ps_if (pt_not (pt_truth (pe_callD D_made_of hr (pa_cons (pv 1) (pa_cons (pe_globV g_LETTERS_AND_FIGURES) pa_nil))) (fun _ => rfl))) (pss_one (ps_raise throws_fn xi_NoForm gm_NoForm hr.hd (pa_cons pe_str pa_nil))) pss_nil)
    (pss_one (ps_fld (pv 0) (pv 1) rfl))))), ?_⟩
  have ln : t.length ≤ sizeLine := small5 (by omega)
  have hds := dsT_le t
  have R : 1 ≤ sizeLine ∧ eSub H E (.ref CF) none H := ⟨one_ok, H, .refl (Same.refl _), q⟩
  unfold goodText at hg
  refine ⟨_, rfl, rfl, _, rfl, iteD (fun z => R) (fun h0 => ⟨_, rfl, _, _, rfl, ⟨ln, rfl⟩, _, _, rfl, rfl, _, rfl, iteD (fun z => R) (fun h60 => ?_)⟩)⟩
  refine ⟨_, rfl, _, _, texts_text t, (by unfold scanBound; show t.length + 1 < _; omega), _, rfl, _, _, rfl, ⟨ln, rfl⟩, .inl ⟨_, _, rfl, rfl, _, rfl, iteD (fun z => R) (fun hd => ?_)⟩⟩
  have hd' : ¬ (((dsT t : Nat) : Int) < ((t.length : Nat) : Int)) := hd
  rw [decide_eq_true ⟨fun z => h0 (by rw [(str_nil t).mpr z]), by omega, by omega⟩, Bool.true_and] at hg
  refine ⟨_, rfl, t, L62, rfl, by omega, _, rfl, ?_⟩
  rw [hg]
  exact iteT R

theorem Parts.keep {H H' : Hp} {p o C dx : Addr} {fs : List (Str × V)} {ps : List (Addr × Str × Addr)} (h : Parts H p ps) (ho : H o = some (.ins C dx fs)) (s : ∀ b u, b ≠ o → H b = some u → H' b = some u) : Parts H' p ps :=
  ⟨s _ _ (fun z => by have := h.l; rw [z, ho] at this; cases this) h.l, fun x hx => s _ _ (fun z => by have := h.t x hx; rw [z, ho] at this; cases this) (h.t x hx), h.n, h.b⟩
def spTwoInit (C : Addr) : Sp := fun vs H Q _ => ∃ (o dx p : Addr) (ps : List (Addr × Str × Addr)), vs = [.ref o, .ref p] ∧ H o = some (.ins C dx []) ∧ Parts H p ps ∧ goodNames (nms ps) = true ∧
  ∀ l1 l2, H l1 = none → H l2 = none → l1 ≠ l2 → Q .non (upd (upd (upd H l1 (.lst ((nms ps).map V.str))) l2 (.lst ((fms ps).map V.ref))) o (.ins C dx (twoF l1 l2)))
def spTwoBad (CF C : Addr) : Sp := fun vs H _ E => ∃ (o dx p : Addr) (ps : List (Addr × Str × Addr)), vs = [.ref o, .ref p] ∧ H o = some (.ins C dx []) ∧ Parts H p ps ∧ goodNames (nms ps) = false ∧ E (.ref CF) none H
theorem ok_rec_init {f C : Addr} {fd : FuncData} (nb : NB mg) (T : TwoCls K C) (F : Fun K "__init__" "Record.__init__" s_Record_init f fd) (D_names_of : DefOk P w K mg base 3 "names_of" ["parts"] spNamesOf) : FnOk P w K mg base CX0 4 f fd ["self", "parts"] (spTwoInit C) := by
  refine F.ok sc_Record_init (fun vs H Q E h => ?_) (fun cdv A outer s H vs Q E hr h => ?_)
  · obtain ⟨_, _, _, _, rfl, _⟩ := h; rfl
  obtain ⟨o, dx, p, ps, rfl, ho, hP, hg, q⟩ := h
  refine ⟨_, (pss_cons (ps_fld (pv 0) (pe_callD D_names_of hr (pa_cons (pv 1) pa_nil)) rfl)
    (pss_one (ps_fld (pv 0) (pe_comp ["part"] [] rfl (by decide +kernel) trivial (piAll (pv 1)) (fun _ _ _ _ _ => (pg_name (i := 0) (show (["part"] : List Str).Nodup by decide +kernel) rfl (by first | exact Or.inl rfl | exact Or.inr rfl))) (fun _ _ _ _ _ => pts_nil) (fun _ _ _ _ _ => (pe_ix iAll (pv 0) pe_int (fun _ _ => rfl)))) rfl))), ?_⟩
  refine ⟨_, rfl, p, ps, rfl, hP, hg, fun l1 h1 => ?_⟩
  have n1 : l1 ≠ o := (ne_of_none ho h1).symm
  refine ⟨_, rfl, o, C, dx, _, rfl, (by rw [upd_ne (Ne.symm n1)]; exact ho), T.cl, T.nN, (by show 0 < 1000; decide), ?_⟩
  rw [put_names]
  have k1 : ∀ b u, b ≠ o → H b = some u → upd (upd H l1 (.lst ((nms ps).map V.str))) o (.ins C dx [("names", .ref l1)]) b = some u := fun b u nb e => by rw [upd_ne nb, upd_ne (ne_of_none e h1)]; exact e
  have hP1 := hP.keep ho k1
  refine .inl ⟨_, rfl, p, rfl, ⟨_, SqL.of hP1.l⟩, fun l2 h2 => ?_⟩
  have n2 : l2 ≠ o := fun z => by rw [z, upd_same] at h2; cases h2
  have n12 : l1 ≠ l2 := fun z => by rw [upd_ne n2, ← z, upd_same] at h2; cases h2
  have h20 : H l2 = none := by rw [upd_ne n2, upd_ne (Ne.symm n12)] at h2; exact h2
  refine comp_listI (K := K) (a := p) (xs := ps.map fun x => V.ref x.1) (fun i => V.ref ((fms ps).getD i 0)) (fun σ => ∃ z, σ = [z]) (by rw [List.length_map]; exact small5 (by have := hP.n; omega)) ⟨_, rfl⟩ h2 (SqL.of hP1.l) ?_ ?_
  · rintro i x hx σ1 H1 ⟨z, rfl⟩ hs1 R hR
    rw [List.getElem?_map] at hx
    obtain ⟨y, hy, rfl⟩ := Option.map_eq_some_iff.mp hx
    have hm := List.mem_of_getElem? hy
    have e : (fms ps).getD i 0 = y.2.2 := by unfold fms; rw [List.getD_eq_getElem?_getD, List.getElem?_map, hy]; rfl
    rw [e] at hR
    exact ⟨_, rfl, .inl (.inr ⟨_, _, _, _, rfl, rfl, SqT.of (hs1 _ _ (hP1.t y hm)), atI_nat (j := 1) rfl, hR _ ⟨_, rfl⟩⟩)⟩
  have en : (List.range (ps.map fun x => V.ref x.1).length).map (fun i => V.ref ((fms ps).getD i 0)) = (fms ps).map V.ref := by
    apply List.ext_getElem
    · unfold fms; simp
    · intro i g1 g2
      have g3 : i < ps.length := by simpa [fms] using g2
      have g4 : i < (fms ps).length := by simpa using g2
      rw [List.getElem_map, List.getElem_map, List.getElem_range, List.getD_eq_getElem?_getD, List.getElem?_eq_getElem g4]; rfl
  rw [en]
  refine ⟨_, rfl, o, C, dx, _, rfl, (by rw [upd_ne (Ne.symm n2)]; exact upd_same), T.cl, T.nF, (by show 1 < 1000; decide), ?_⟩
  rw [put_forms, upd_swap (Ne.symm n2), upd_upd']
  exact q l1 l2 h1 h20 n12
theorem ok_cho_init {f C : Addr} {fd : FuncData} (nb : NB mg) (T : TwoCls K C) (F : Fun K "__init__" "Choice.__init__" s_Choice_init f fd) (D_names_of : DefOk P w K mg base 3 "names_of" ["parts"] spNamesOf) : FnOk P w K mg base CX0 4 f fd ["self", "cases"] (spTwoInit C) := by
  refine F.ok sc_Choice_init (fun vs H Q E h => ?_) (fun cdv A outer s H vs Q E hr h => ?_)
  · obtain ⟨_, _, _, _, rfl, _⟩ := h; rfl
  obtain ⟨o, dx, p, ps, rfl, ho, hP, hg, q⟩ := h
  refine ⟨_, (pss_cons (ps_fld (pv 0) (pe_callD D_names_of hr (pa_cons (pv 1) pa_nil)) rfl)
    (pss_one (ps_fld (pv 0) (pe_comp ["case"] [] rfl (by decide +kernel) trivial (piAll (pv 1)) (fun _ _ _ _ _ => (pg_name (i := 0) (show (["case"] : List Str).Nodup by decide +kernel) rfl (by first | exact Or.inl rfl | exact Or.inr rfl))) (fun _ _ _ _ _ => pts_nil) (fun _ _ _ _ _ => (pe_ix iAll (pv 0) pe_int (fun _ _ => rfl)))) rfl))), ?_⟩
  refine ⟨_, rfl, p, ps, rfl, hP, hg, fun l1 h1 => ?_⟩
  have n1 : l1 ≠ o := (ne_of_none ho h1).symm
  refine ⟨_, rfl, o, C, dx, _, rfl, (by rw [upd_ne (Ne.symm n1)]; exact ho), T.cl, T.nN, (by show 0 < 1000; decide), ?_⟩
  rw [put_names]
  have k1 : ∀ b u, b ≠ o → H b = some u → upd (upd H l1 (.lst ((nms ps).map V.str))) o (.ins C dx [("names", .ref l1)]) b = some u := fun b u nb e => by rw [upd_ne nb, upd_ne (ne_of_none e h1)]; exact e
  have hP1 := hP.keep ho k1
  refine .inl ⟨_, rfl, p, rfl, ⟨_, SqL.of hP1.l⟩, fun l2 h2 => ?_⟩
  have n2 : l2 ≠ o := fun z => by rw [z, upd_same] at h2; cases h2
  have n12 : l1 ≠ l2 := fun z => by rw [upd_ne n2, ← z, upd_same] at h2; cases h2
  have h20 : H l2 = none := by rw [upd_ne n2, upd_ne (Ne.symm n12)] at h2; exact h2
  refine comp_listI (K := K) (a := p) (xs := ps.map fun x => V.ref x.1) (fun i => V.ref ((fms ps).getD i 0)) (fun σ => ∃ z, σ = [z]) (by rw [List.length_map]; exact small5 (by have := hP.n; omega)) ⟨_, rfl⟩ h2 (SqL.of hP1.l) ?_ ?_
  · rintro i x hx σ1 H1 ⟨z, rfl⟩ hs1 R hR
    rw [List.getElem?_map] at hx
    obtain ⟨y, hy, rfl⟩ := Option.map_eq_some_iff.mp hx
    have hm := List.mem_of_getElem? hy
    have e : (fms ps).getD i 0 = y.2.2 := by unfold fms; rw [List.getD_eq_getElem?_getD, List.getElem?_map, hy]; rfl
    rw [e] at hR
    exact ⟨_, rfl, .inl (.inr ⟨_, _, _, _, rfl, rfl, SqT.of (hs1 _ _ (hP1.t y hm)), atI_nat (j := 1) rfl, hR _ ⟨_, rfl⟩⟩)⟩
  have en : (List.range (ps.map fun x => V.ref x.1).length).map (fun i => V.ref ((fms ps).getD i 0)) = (fms ps).map V.ref := by
    apply List.ext_getElem
    · unfold fms; simp
    · intro i g1 g2
      have g3 : i < ps.length := by simpa [fms] using g2
      have g4 : i < (fms ps).length := by simpa using g2
      rw [List.getElem_map, List.getElem_map, List.getElem_range, List.getD_eq_getElem?_getD, List.getElem?_eq_getElem g4]; rfl
  rw [en]
  refine ⟨_, rfl, o, C, dx, _, rfl, (by rw [upd_ne (Ne.symm n2)]; exact upd_same), T.cl, T.nF, (by show 1 < 1000; decide), ?_⟩
  rw [put_forms, upd_swap (Ne.symm n2), upd_upd']
  exact q l1 l2 h1 h20 n12
theorem bad_rec_init {f C CF : Addr} {fd : FuncData} (nb : NB mg) (T : TwoCls K C) (F : Fun K "__init__" "Record.__init__" s_Record_init f fd) (DB_names_of : DefOkE P w K mg base 3 "names_of" ["parts"] (spNamesBad CF)) : FnOk P w K mg base (CXe P w) 4 f fd ["self", "parts"] (spTwoBad CF C) := by
  refine F.okE sc_Record_init (fun vs H Q E h => ?_) (fun cdv A outer s H vs Q E hr h => ?_)
  · obtain ⟨_, _, _, _, rfl, _⟩ := h; rfl
  obtain ⟨o, dx, p, ps, rfl, ho, hP, hg, q⟩ := h
  refine ⟨_, (pss_cons (ps_fld (pv 0) (pe_callE DB_names_of hr passes_fn.x (pa_cons (pv 1) pa_nil)) rfl)
    (pss_one (ps_fld (pv 0) (pe_comp ["part"] [] rfl (by decide +kernel) trivial (piAll (pv 1)) (fun _ _ _ _ _ => (pg_name (i := 0) (show (["part"] : List Str).Nodup by decide +kernel) rfl (by first | exact Or.inl rfl | exact Or.inr rfl))) (fun _ _ _ _ _ => pts_nil) (fun _ _ _ _ _ => (pe_ix iAll (pv 0) pe_int (fun _ _ => rfl)))) rfl))), ?_⟩
  exact ⟨_, rfl, p, ps, rfl, hP, hg, H, .refl (Same.refl _), q⟩
theorem bad_cho_init {f C CF : Addr} {fd : FuncData} (nb : NB mg) (T : TwoCls K C) (F : Fun K "__init__" "Choice.__init__" s_Choice_init f fd) (DB_names_of : DefOkE P w K mg base 3 "names_of" ["parts"] (spNamesBad CF)) : FnOk P w K mg base (CXe P w) 4 f fd ["self", "cases"] (spTwoBad CF C) := by
  refine F.okE sc_Choice_init (fun vs H Q E h => ?_) (fun cdv A outer s H vs Q E hr h => ?_)
  · obtain ⟨_, _, _, _, rfl, _⟩ := h; rfl
  obtain ⟨o, dx, p, ps, rfl, ho, hP, hg, q⟩ := h
  refine ⟨_, (pss_cons (ps_fld (pv 0) (pe_callE DB_names_of hr passes_fn.x (pa_cons (pv 1) pa_nil)) rfl)
    (pss_one (ps_fld (pv 0) (pe_comp ["case"] [] rfl (by decide +kernel) trivial (piAll (pv 1)) (fun _ _ _ _ _ => (pg_name (i := 0) (show (["case"] : List Str).Nodup by decide +kernel) rfl (by first | exact Or.inl rfl | exact Or.inr rfl))) (fun _ _ _ _ _ => pts_nil) (fun _ _ _ _ _ => (pe_ix iAll (pv 0) pe_int (fun _ _ => rfl)))) rfl))), ?_⟩
  exact ⟨_, rfl, p, ps, rfl, hP, hg, H, .refl (Same.refl _), q⟩
/-! ### forms as texts -/
def shS (a b : Int) : Str := (((Str.ofString "span(" ++ Str.ofString (toString a)) ++ Str.ofString ", ") ++ Str.ofString (toString b)) ++ Str.ofString ")"
def shL (s : Str) : Str := (Str.ofString "letters(" ++ s) ++ Str.ofString ")"
def shP (ns : List Str) : Str := Txt.join (Str.ofString ", ") (ns.map fun n => (n ++ Str.ofString " ") ++ Str.ofString "truth")
def shT (w : Str) (ns : List Str) : Str := (w ++ shP ns) ++ Str.ofString ")"
def isTr (CT : Addr) (H : Hp) (f : Addr) : Prop := ∃ d, H f = some (.ins CT d [])
def spTruthShown (CT : Addr) : Sp := fun vs H Q _ => ∃ f, vs = [.ref f] ∧ isTr CT H f ∧ Q (.str (Str.ofString "truth")) H
def spSpanShown (C : Addr) : Sp := fun vs H Q _ => ∃ (o dx : Addr) (a b : Int), vs = [.ref o] ∧ H o = some (.ins C dx (spanF a b)) ∧ a.natAbs < 10 ^ 60 ∧ b.natAbs < 10 ^ 60 ∧ Q (.str (shS a b)) H
def spLetShown (C : Addr) : Sp := fun vs H Q _ => ∃ (o dx : Addr) (s : Str), vs = [.ref o] ∧ H o = some (.ins C dx (letF s)) ∧ s.length ≤ 100 ∧ Q (.str (shL s)) H
structure TwoAt (C CT : Addr) (H : Hp) (o l1 l2 : Addr) (ns : List Str) (fs : List Addr) : Prop where
  o : ∃ dx, H o = some (.ins C dx (twoF l1 l2))
  a : H l1 = some (.lst (ns.map V.str))
  b : H l2 = some (.lst (fs.map V.ref))
  n : ns.length = fs.length
  m : ns.length ≤ 30
  s : ∀ n, n ∈ ns → n.length ≤ 100
  f : ∀ f, f ∈ fs → isTr CT H f
def spTwoShown (C CT : Addr) (wd : Str) : Sp := fun vs H Q _ => ∃ o l1 l2 ns fs, vs = [.ref o] ∧ TwoAt C CT H o l1 l2 ns fs ∧ Q (.str (shT wd ns)) H
def spShownParts (CT : Addr) : Sp := fun vs H Q _ => ∃ (l1 l2 : Addr) (ns : List Str) (fs : List Addr), vs = [.ref l1, .ref l2] ∧ H l1 = some (.lst (ns.map V.str)) ∧ H l2 = some (.lst (fs.map V.ref)) ∧ ns.length = fs.length ∧ ns.length ≤ 30 ∧ (∀ n, n ∈ ns → n.length ≤ 100) ∧ (∀ f, f ∈ fs → isTr CT H f) ∧ Q (.str (shP ns)) H
theorem ok_truth_shown {f CT : Addr} {fd : FuncData} (F : Fun K "shown" "Truth.shown" s_Truth_shown f fd) : FnOk P w K mg base CX0 1 f fd ["self"] (spTruthShown CT) := by
  refine F.okK sc_Truth_shown (fun vs H Q E h => ?_) (fun cdv A outer s H vs Q E hr h => ?_)
  · obtain ⟨_, rfl, _⟩ := h; rfl
  obtain ⟨o, rfl, hT, q⟩ := h
  exact ⟨_, (pss_one (ps_ret pe_str)), H, .refl (Same.refl _), q⟩
theorem ok_span_shown {f C : Addr} {fd : FuncData} (nb : NB mg) (T : SpanCls K C) (F : Fun K "shown" "Span.shown" s_Span_shown f fd) : FnOk P w K mg base CX0 1 f fd ["self"] (spSpanShown C) := by
  refine F.okK sc_Span_shown (fun vs H Q E h => ?_) (fun cdv A outer s H vs Q E hr h => ?_)
  · obtain ⟨_, _, _, _, rfl, _⟩ := h; rfl
  obtain ⟨o, dx, a, b, rfl, ho, ha, hb, q⟩ := h
  refine ⟨_, (pss_one (ps_ret (pe_op oAdd (pe_op oAdd (pe_op oAdd (pe_op oAdd pe_str (pe_callTy call_str_int rfl nb.str_ bo_str (pa_cons (pe_fld (pv 0) rfl) pa_nil))) pe_str) (pe_callTy call_str_int rfl nb.str_ bo_str (pa_cons (pe_fld (pv 0) rfl) pa_nil))) pe_str))), ?_⟩
  have la := len_toString (by decide) ha
  have lb := len_toString (by decide) hb
  have l1 : (Str.ofString "span(").length = 5 := by decide +kernel
  have l2 : (Str.ofString ", ").length = 2 := by decide +kernel
  have l3 : (Str.ofString ")").length = 1 := by decide +kernel
  refine ⟨_, rfl, o, C, dx, _, _, rfl, ho, T.cl, T.nL, look1 .., _, rfl, log_small ha, .inr ⟨_, _, rfl, rfl, small5 (by omega), ?_⟩⟩
  refine .inr ⟨_, _, rfl, rfl, small5 (by rw [app_len]; omega), ?_⟩
  refine ⟨_, rfl, o, C, dx, _, _, rfl, ho, T.cl, T.nH, look2 _ _ _ _ highlow, _, rfl, log_small hb, .inr ⟨_, _, rfl, rfl, small5 (by rw [app_len, app_len]; omega), ?_⟩⟩
  exact .inr ⟨_, _, rfl, rfl, small5 (by rw [app_len, app_len, app_len]; omega), H, .refl (Same.refl _), q⟩
theorem ok_let_shown {f C : Addr} {fd : FuncData} (T : LetCls K C) (F : Fun K "shown" "Letters.shown" s_Letters_shown f fd) : FnOk P w K mg base CX0 1 f fd ["self"] (spLetShown C) := by
  refine F.okK sc_Letters_shown (fun vs H Q E h => ?_) (fun cdv A outer s H vs Q E hr h => ?_)
  · obtain ⟨_, _, _, rfl, _⟩ := h; rfl
  obtain ⟨o, dx, t, rfl, ho, ht, q⟩ := h
  refine ⟨_, (pss_one (ps_ret (pe_op oAdd (pe_op oAdd pe_str (pe_fld (pv 0) rfl)) pe_str))), ?_⟩
  have l1 : (Str.ofString "letters(").length = 8 := by decide +kernel
  have l3 : (Str.ofString ")").length = 1 := by decide +kernel
  refine ⟨_, rfl, o, C, dx, _, _, rfl, ho, T.cl, T.nS, look1 .., .inr ⟨_, _, rfl, rfl, small5 (by omega), ?_⟩⟩
  exact .inr ⟨_, _, rfl, rfl, small5 (by rw [app_len]; omega), H, .refl (Same.refl _), q⟩
theorem ok_shown_parts {f CT : Addr} {fd : FuncData} (nb : NB mg) (c_C : Cls K CT) (F : FunAt K mg "shown_parts" s_shown_parts ["names", "forms"] f fd) (M_shown : MethOk P w K mg base 1 CT "shown" ["self"] (spTruthShown CT)) : DefOk P w K mg base 2 "shown_parts" ["names", "forms"] (spShownParts CT) := by
  refine F.ok sc_shown_parts (fun vs H Q E h => ?_) (fun cdv A outer s H vs Q E hr h => ?_)
  · obtain ⟨_, _, _, _, rfl, _⟩ := h; rfl
  obtain ⟨a1, a2, ns, fs, rfl, h1, h2, hn, hm, hs, hf, q⟩ := h
  refine ⟨_, (pss_one (ps_ret (pe_bm PySem.F.plainAttrs_str PySem.F.slot_str_join PySem.F.type_str_join mt_join pe_str (pa_cons (pe_comp ["name", "form"] [] rfl (by decide +kernel) trivial (pi_zip rfl nb.zip_ (pa_cons (pv 0) (pa_cons (pv 1) pa_nil))) (fun _ _ _ _ _ => (pg_tup rfl (pgs_cons (pg_name (i := 0) (show (["name", "form"] : List Str).Nodup by decide +kernel) rfl (by first | exact Or.inl rfl | exact Or.inr rfl)) (pgs_cons (pg_name (i := 1) (show (["name", "form"] : List Str).Nodup by decide +kernel) rfl (by first | exact Or.inl rfl | exact Or.inr rfl)) pgs_nil)))) (fun _ _ _ _ _ => pts_nil) (fun _ _ _ _ _ => (pe_op oAdd (pe_op oAdd (pv 0) pe_str) (pe_methD0 M_shown c_C hr (pv 1))))) pa_nil)))), ?_⟩
  have l1 : (Str.ofString " ").length = 1 := by decide +kernel
  have l2 : (Str.ofString "truth").length = 5 := by decide +kernel
  have l3 : (Str.ofString ", ").length = 2 := by decide +kernel
  refine ⟨rfl, _, rfl, _, rfl, a1, a2, _, _, rfl, SqL.of h1, SqL.of h2, fun D hD => ?_⟩
  refine comp_zip (fun i => V.str ((ns.getD i Str.empty ++ Str.ofString " ") ++ Str.ofString "truth")) (fun σ => ∃ z1 z2, σ = [z1, z2]) (by rw [List.length_map, List.length_map]; omega) ⟨_, _, rfl⟩ hD (SqL.of h1) (SqL.of h2) ?_ ?_
  · rintro i x y hx hy σ1 H1 T ⟨z1, z2, rfl⟩ hs1 hT R hR
    rw [List.getElem?_map] at hx hy
    obtain ⟨nm, hnm, rfl⟩ := Option.map_eq_some_iff.mp hx
    obtain ⟨fm, hfm, rfl⟩ := Option.map_eq_some_iff.mp hy
    have e : ns.getD i Str.empty = nm := by rw [List.getD_eq_getElem?_getD, hnm]; rfl
    rw [e] at hR
    have hb := hs nm (List.mem_of_getElem? hnm)
    obtain ⟨d, hd⟩ := hf fm (List.mem_of_getElem? hfm)
    have hd1 := (hs1.trans (same_new (o := HO.tup [V.str nm, V.ref fm]) hT)) _ _ hd
    refine ⟨T, _, rfl, SqT.of upd_same, rfl, _, _, rfl, _, _, rfl, rfl, ?_⟩
    refine ⟨_, rfl, .inr ⟨_, _, rfl, rfl, small5 (by omega), ?_⟩⟩
    refine ⟨_, rfl, fm, d, _, rfl, hd1, rfl, fm, rfl, ⟨d, hd1⟩, .inr ⟨_, _, rfl, rfl, small5 (by rw [app_len]; omega), ?_⟩⟩
    exact hR _ _ ⟨_, _, rfl⟩ (Same.refl _)
  · intro H' hs' hD'
    have e : (List.range (min (ns.map V.str).length (fs.map V.ref).length)).map (fun i => V.str ((ns.getD i Str.empty ++ Str.ofString " ") ++ Str.ofString "truth")) = (ns.map fun n => (n ++ Str.ofString " ") ++ Str.ofString "truth").map V.str := by
      rw [List.length_map, List.length_map, ← hn, Nat.min_self, List.map_map]
      have := congrArg (List.map fun x => match x with | V.str n => V.str ((n ++ Str.ofString " ") ++ Str.ofString "truth") | _ => V.non) (names_range ns)
      rw [List.map_map, List.map_map] at this
      exact this
    rw [e] at hD'
    have hB : ∀ y ∈ (ns.map fun n => (n ++ Str.ofString " ") ++ Str.ofString "truth"), y.length ≤ 106 := fun y hy => by
      obtain ⟨n, hn', rfl⟩ := List.mem_map.mp hy
      have := hs n hn'
      rw [app_len, app_len]; omega
    have hsum := StrLaws.sumLen_le _ hB
    rw [List.length_map] at hsum
    refine ⟨_, D, _, rfl, rfl, SqL.of hD', (by rw [List.length_map, l3]; omega), H, .refl hs', q⟩
theorem shP_len {ns : List Str} (hm : ns.length ≤ 30) (hs : ∀ n, n ∈ ns → n.length ≤ 100) : (shP ns).length ≤ 30 * 108 := by
  have l1 : (Str.ofString " ").length = 1 := by decide +kernel
  have l2 : (Str.ofString "truth").length = 5 := by decide +kernel
  have l3 : (Str.ofString ", ").length = 2 := by decide +kernel
  have h := join_len_le (Str.ofString ", ") (ns.map fun n => (n ++ Str.ofString " ") ++ Str.ofString "truth") 106 fun y hy => by
    obtain ⟨n, hn', rfl⟩ := List.mem_map.mp hy
    have := hs n hn'
    rw [app_len, app_len]; omega
  rw [List.length_map, l3] at h
  exact Nat.le_trans h (Nat.mul_le_mul_right _ hm)
theorem ok_rec_shown {f C CT : Addr} {fd : FuncData} (T : TwoCls K C) (F : Fun K "shown" "Record.shown" s_Record_shown f fd) (D_shown_parts : DefOk P w K mg base 2 "shown_parts" ["names", "forms"] (spShownParts CT)) : FnOk P w K mg base CX0 3 f fd ["self"] (spTwoShown C CT (Str.ofString "record(")) := by
  refine F.okK sc_Record_shown (fun vs H Q E h => ?_) (fun cdv A outer s H vs Q E hr h => ?_)
  · obtain ⟨_, _, _, _, _, rfl, _⟩ := h; rfl
  obtain ⟨o, a1, a2, ns, fs, rfl, ⟨⟨dx, ho⟩, h1, h2, hn, hm, hs, hf⟩, q⟩ := h
  refine ⟨_, (pss_one (ps_ret (pe_op oAdd (pe_op oAdd pe_str (pe_callD D_shown_parts hr (pa_cons (pe_fld (pv 0) rfl) (pa_cons (pe_fld (pv 0) rfl) pa_nil)))) pe_str))), ?_⟩
  have l0 : (Str.ofString "record(").length = 7 := by decide +kernel
  have l3 : (Str.ofString ")").length = 1 := by decide +kernel
  have lp := shP_len hm hs
  refine ⟨_, rfl, o, C, dx, _, _, rfl, ho, T.cl, T.nN, look1 .., _, rfl, o, C, dx, _, _, rfl, ho, T.cl, T.nF, look2 _ _ _ _ formsnames, a1, a2, ns, fs, rfl, h1, h2, hn, hm, hs, hf, .inr ⟨_, _, rfl, rfl, small5 (by omega), ?_⟩⟩
  exact .inr ⟨_, _, rfl, rfl, small5 (by rw [app_len]; omega), H, .refl (Same.refl _), q⟩
theorem ok_cho_shown {f C CT : Addr} {fd : FuncData} (T : TwoCls K C) (F : Fun K "shown" "Choice.shown" s_Choice_shown f fd) (D_shown_parts : DefOk P w K mg base 2 "shown_parts" ["names", "forms"] (spShownParts CT)) : FnOk P w K mg base CX0 3 f fd ["self"] (spTwoShown C CT (Str.ofString "choice(")) := by
  refine F.okK sc_Choice_shown (fun vs H Q E h => ?_) (fun cdv A outer s H vs Q E hr h => ?_)
  · obtain ⟨_, _, _, _, _, rfl, _⟩ := h; rfl
  obtain ⟨o, a1, a2, ns, fs, rfl, ⟨⟨dx, ho⟩, h1, h2, hn, hm, hs, hf⟩, q⟩ := h
  refine ⟨_, (pss_one (ps_ret (pe_op oAdd (pe_op oAdd pe_str (pe_callD D_shown_parts hr (pa_cons (pe_fld (pv 0) rfl) (pa_cons (pe_fld (pv 0) rfl) pa_nil)))) pe_str))), ?_⟩
  have l0 : (Str.ofString "choice(").length = 7 := by decide +kernel
  have l3 : (Str.ofString ")").length = 1 := by decide +kernel
  have lp := shP_len hm hs
  refine ⟨_, rfl, o, C, dx, _, _, rfl, ho, T.cl, T.nN, look1 .., _, rfl, o, C, dx, _, _, rfl, ho, T.cl, T.nF, look2 _ _ _ _ formsnames, a1, a2, ns, fs, rfl, h1, h2, hn, hm, hs, hf, .inr ⟨_, _, rfl, rfl, small5 (by omega), ?_⟩⟩
  exact .inr ⟨_, _, rfl, rfl, small5 (by rw [app_len]; omega), H, .refl (Same.refl _), q⟩

/-! ### the law's texts -/
theorem atI_modG {α : Type} (f : α → V) (xs : List α) (c m : Int) (hm : m = xs.length) (h : 0 < xs.length) : ∃ n, n ∈ xs ∧ atI (xs.map f) (c % m) = some (f n) := by
  subst hm
  have h1 := Int.emod_nonneg c (b := (xs.length : Int)) (by omega)
  have h2 := Int.emod_lt_of_pos c (b := (xs.length : Int)) (by omega)
  obtain ⟨k, hk⟩ := Int.eq_ofNat_of_zero_le h1
  rw [hk]
  have hk2 : k < xs.length := by omega
  exact ⟨xs[k], List.getElem_mem hk2, atI_nat (by rw [List.getElem?_map, List.getElem?_eq_getElem hk2]; rfl)⟩
theorem mod_nat (c : Int) (n : Nat) (h : 0 < n) : ∃ k : Nat, k < n ∧ c % ((n : Nat) : Int) = ((k : Nat) : Int) := by
  have h1 := Int.emod_nonneg c (b := (n : Int)) (by omega)
  have h2 := Int.emod_lt_of_pos c (b := (n : Int)) (by omega)
  obtain ⟨k, hk⟩ := Int.eq_ofNat_of_zero_le h1
  exact ⟨k, by omega, hk⟩
theorem tx62 : Tx 62 L62.cps.toList L62 := ⟨by rw [L62_len]; exact Nat.le_refl _, fun c h => h⟩
theorem tx0 (S : List Nat) : Tx 0 S (Str.ofString "") := ⟨by decide +kernel, fun c h => by rw [show (Str.ofString "").cps.toList = [] by decide +kernel] at h; cases h⟩
def spSigns : Sp := fun vs H Q _ => ∃ c : Int, vs = [.int c] ∧ ∀ s, Tx 60 L62.cps.toList s → Q (.str s) H
theorem ok_law_signs {f : Addr} {fd : FuncData} (nb : NB mg) (F : FunAt K mg "_law_signs" s_law_signs ["_law_cell"] f fd) : DefOk P w K mg base 1 "_law_signs" ["_law_cell"] spSigns := by
  refine F.ok sc_law_signs (fun vs H Q E h => ?_) (fun cdv A outer s H vs Q E hr h => ?_)
  · obtain ⟨_, rfl, _⟩ := h; rfl
  obtain ⟨c, rfl, q⟩ := h
  refine ⟨_, (pss_cons (ps_set (i := 1) sc_law_signs.nd rfl (by first | exact Or.inl rfl | exact Or.inr rfl) pe_str)
    (pss_cons (ps_set (i := 2) sc_law_signs.nd rfl (by first | exact Or.inl rfl | exact Or.inr rfl) (pe_op oAdd pe_int (pe_op op_mod (pv 0) (pe_ix iAll (pe_lst (pa_cons pe_int (pa_cons pe_int (pa_cons pe_int (pa_cons pe_int pa_nil))))) (pe_op op_mod (pe_op op_fdiv (pv 0) pe_int) pe_int) (fun _ _ => rfl)))))
    (pss_cons (ps_set (i := 3) sc_law_signs.nd rfl (by first | exact Or.inl rfl | exact Or.inr rfl) (pe_op op_fdiv (pv 0) pe_int))
    (pss_cons (ps_set (i := 4) sc_law_signs.nd rfl (by first | exact Or.inl rfl | exact Or.inr rfl) pe_str)
    (pss_cons (ps_for PassesOwn.never rfl (pi_range1 rfl nb.range_ (pa_cons (pv 2) pa_nil)) (pg_name (i := 5) sc_law_signs.nd rfl (by first | exact Or.inl rfl | exact Or.inr rfl))
      (pss_cons (ps_set (i := 6) sc_law_signs.nd rfl (by first | exact Or.inl rfl | exact Or.inr rfl) (pe_op op_mod (pv 3) (pe_callB call_len rfl nb.len_ bo_len (pa_cons (pv 1) pa_nil))))
      (pss_cons (ps_set (i := 3) sc_law_signs.nd rfl (by first | exact Or.inl rfl | exact Or.inr rfl) (pe_op op_fdiv (pv 3) (pe_callB call_len rfl nb.len_ bo_len (pa_cons (pv 1) pa_nil))))
      (pss_cons (ps_set (i := 4) sc_law_signs.nd rfl (by first | exact Or.inl rfl | exact Or.inr rfl) (pe_op oAdd (pv 4) (pe_ix iAll (pv 1) (pv 6) (fun _ _ => rfl))))
      (pss_one (ps_set (i := 1) sc_law_signs.nd rfl (by first | exact Or.inl rfl | exact Or.inr rfl) (pe_op oAdd (pe_slice slAll (pv 1) po_none (po_some (pv 6))) (pe_slice slAll (pv 1) (po_some (pe_op oAdd (pv 6) pe_int)) po_none))))))))
    (pss_one (ps_ret (pv 4)))))))), ?_⟩
  refine ⟨_, rfl, (by show 4 ≤ sizeLine; decide), fun g hg => ?_⟩
  obtain ⟨x, hx, hx1⟩ := atI_modG V.int [2, 3, 7, 60] (c / 60) 4 rfl (by show 0 < 4; decide)
  have hxb : 0 < x ∧ x ≤ 60 := by
    have : ∀ y ∈ ([2, 3, 7, 60] : List Int), 0 < y ∧ y ≤ 60 := by decide
    exact this x hx
  refine ⟨_, rfl, _, _, rfl, rfl, ⟨by decide, by decide⟩, _, _, rfl, rfl, (by show (0 : Int) < 4; decide), .inl (.inl ⟨_, _, _, _, rfl, rfl, SqL.of upd_same, hx1, _, _, rfl, rfl, hxb.1, .inl ⟨_, _, rfl, rfl, ?_⟩⟩)⟩
  have v0 := Int.emod_nonneg c (show x ≠ 0 by omega)
  have v1 := Int.emod_lt_of_pos c hxb.1
  generalize c % x = m at v0 v1 ⊢
  obtain ⟨n, rfl⟩ := Int.eq_ofNat_of_zero_le v0
  refine ⟨_, rfl, _, _, rfl, rfl, ⟨by decide, by decide⟩, ?_⟩
  refine ⟨_, rfl, _, rfl, by omega, by omega, ?_⟩
  have en : (1 + ((n : Nat) : Int)).toNat = n + 1 := by omega
  rw [en]
  refine for_range (fun i σ H2 => Same H H2 ∧ ∃ (rest found : Str) (num : Int) (z1 z2 z3 : Option V), σ = [some (.int c), some (.str rest), z3, some (.int num), some (.str found), z1, z2] ∧ rest.length = 62 - i ∧ Tx 62 L62.cps.toList rest ∧ Tx i L62.cps.toList found) ?_ ?_ ?_
  · exact ⟨same_new hg, L62, Str.ofString "", c / 240, none, none, _, rfl, L62_len, tx62, tx0 _⟩
  · rintro i σ H2 hi ⟨hs, rest, found, num, z1, z2, z3, rfl, hl, tr, tf⟩
    have lr : rest.length ≤ sizeLine := small5 (by omega)
    obtain ⟨k, hk, ek⟩ := mod_nat num rest.length (by omega)
    obtain ⟨sg, hsg, hat⟩ := at_text hk
    have b1 := slice_len_to rest k (by omega)
    have b2 := slice_len_from rest (k + 1) (by omega)
    have hf := tf.n
    refine ⟨_, rfl, _, rfl, _, _, rfl, ⟨lr, rfl⟩, _, _, rfl, rfl, (by omega), ?_⟩
    dsimp only
    rw [ek]
    refine ⟨_, rfl, _, rfl, _, _, rfl, ⟨lr, rfl⟩, _, _, rfl, rfl, ⟨by omega, by omega⟩, ?_⟩
    refine ⟨_, rfl, _, rfl, _, rfl, .inr ⟨_, _, _, rfl, rfl, lr, hat, .inr ⟨_, _, rfl, rfl, small5 (by show _ + 1 ≤ _; omega), ?_⟩⟩⟩
    refine ⟨_, rfl, _, rfl, _, rfl, .inr ⟨_, rfl, lr, _, rfl, _, rfl, .inl ⟨_, _, rfl, rfl, _, rfl, .inr ⟨_, rfl, lr, .inr ⟨_, _, rfl, rfl, ?_, ?_⟩⟩⟩⟩⟩
    · have e1 : ((k : Nat) : Int) + 1 = ((k + 1 : Nat) : Int) := by omega
      rw [b1, e1, b2]; exact small5 (by omega)
    · have e1 : ((k : Nat) : Int) + 1 = ((k + 1 : Nat) : Int) := by omega
      rw [e1]
      refine ⟨hs, _, _, _, _, _, _, rfl, ?_, ?_, ?_⟩
      · rw [app_len, b1, b2]; omega
      · refine ⟨by rw [app_len, b1, b2]; omega, ?_⟩
        exact ((tr.slice none (some (k : Int))).app (tr.slice (some ((k + 1 : Nat) : Int)) none)).s
      · exact tf.app (Tx.one (tr.s _ hsg))
  · rintro σ H2 ⟨hs, rest, found, num, z1, z2, z3, rfl, hl, tr, tf⟩
    exact ⟨_, rfl, H, .refl hs, q _ (tf.mono (by omega) fun c h => h)⟩
def spNames : Sp := fun vs H Q _ => ∃ (c : Int) (m : Nat), vs = [.int c, .int ((m : Nat) : Int)] ∧ m ≤ 22 ∧ ∀ (D : Addr) (ns : List Str), H D = none → ns.length = m → (∀ n, n ∈ ns → n.length ≤ 30) → Q (.ref D) (upd H D (.lst (ns.map V.str)))
theorem strs_of_vals : ∀ (ys : List V), (∀ y ∈ ys, ∃ n : Str, y = .str n ∧ n.length ≤ 30) → ∃ ns : List Str, ys = ns.map V.str ∧ ns.length = ys.length ∧ ∀ n, n ∈ ns → n.length ≤ 30
  | [], _ => ⟨[], rfl, rfl, fun n h => nomatch h⟩
  | y :: r, h => by
    obtain ⟨n, rfl, hn⟩ := h y (List.mem_cons_self ..)
    obtain ⟨ns, rfl, hl, hb⟩ := strs_of_vals r fun z hz => h z (List.mem_cons_of_mem _ hz)
    exact ⟨n :: ns, rfl, by rw [List.length_cons, hl]; rfl, fun z hz => (List.mem_cons.mp hz).elim (fun e => by rw [e]; exact hn) (hb z)⟩
theorem ok_law_names {f : Addr} {fd : FuncData} (nb : NB mg) (F : FunAt K mg "_law_names" s_law_names ["_law_cell", "_law_many"] f fd) : DefOk P w K mg base 1 "_law_names" ["_law_cell", "_law_many"] spNames := by
  refine F.ok sc_law_names (fun vs H Q E h => ?_) (fun cdv A outer s H vs Q E hr h => ?_)
  · obtain ⟨_, _, rfl, _⟩ := h; rfl
  obtain ⟨c, m, rfl, hm, q⟩ := h
  refine ⟨_, (pss_cons (ps_set (i := 2) sc_law_names.nd rfl (by first | exact Or.inl rfl | exact Or.inr rfl) pe_str)
    (pss_cons (ps_set (i := 3) sc_law_names.nd rfl (by first | exact Or.inl rfl | exact Or.inr rfl) (pe_op op_mod (pv 0) pe_int))
    (pss_cons (ps_set (i := 4) sc_law_names.nd rfl (by first | exact Or.inl rfl | exact Or.inr rfl) (pe_op op_mod (pe_op op_fdiv (pv 0) pe_int) (pe_op oAdd (pv 3) pe_int)))
    (pss_cons (ps_set (i := 5) sc_law_names.nd rfl (by first | exact Or.inl rfl | exact Or.inr rfl) (pe_ix iAll (pe_lst (pa_cons pe_int (pa_cons pe_int (pa_cons pe_int (pa_cons pe_int (pa_cons pe_int (pa_cons pe_int pa_nil))))))) (pe_op op_mod (pe_op op_fdiv (pe_op op_fdiv (pv 0) pe_int) (pe_op oAdd (pv 3) pe_int)) pe_int) (fun _ _ => rfl)))
    (pss_cons (ps_set (i := 6) sc_law_names.nd rfl (by first | exact Or.inl rfl | exact Or.inr rfl) (pe_op op_fdiv (pe_op op_fdiv (pv 0) pe_int) (pe_op oAdd (pv 3) pe_int)))
    (pss_cons (ps_set (i := 7) sc_law_names.nd rfl (by first | exact Or.inl rfl | exact Or.inr rfl) (pe_op op_mod (pv 6) pe_int))
    (pss_cons (ps_set (i := 8) sc_law_names.nd rfl (by first | exact Or.inl rfl | exact Or.inr rfl) pe_str)
    (pss_cons (ps_for PassesOwn.never rfl (pi_range1 rfl nb.range_ (pa_cons (pv 3) pa_nil)) (pg_name (i := 9) sc_law_names.nd rfl (by first | exact Or.inl rfl | exact Or.inr rfl))
      (pss_cons (ps_set (i := 6) sc_law_names.nd rfl (by first | exact Or.inl rfl | exact Or.inr rfl) (pe_op op_fdiv (pv 6) pe_int))
      (pss_one (ps_set (i := 8) sc_law_names.nd rfl (by first | exact Or.inl rfl | exact Or.inr rfl) (pe_op oAdd (pv 8) (pe_ix iAll (pv 2) (pe_op op_mod (pv 6) pe_int) (fun _ _ => rfl)))))))
    (pss_one (ps_ret (pe_comp ["_law_k"] [(8, "_law_stem"), (4, "_law_at"), (2, "_law_some"), (7, "_law_first"), (5, "_law_step")] rfl (by decide +kernel) ⟨rfl, .inl rfl, rfl, .inl rfl, rfl, .inl rfl, rfl, .inl rfl, rfl, .inl rfl, trivial⟩ (pi_range1 rfl nb.range_ (pa_cons (pv 1) pa_nil)) (fun _ _ _ _ _ => (pg_name (i := 0) (show (["_law_k", "_law_stem", "_law_at", "_law_some", "_law_first", "_law_step"] : List Str).Nodup by decide +kernel) rfl (by first | exact Or.inl rfl | exact Or.inr rfl))) (fun _ _ _ _ _ => pts_nil) (fun _ _ _ _ _ => (pe_op oAdd (pe_op oAdd (pe_slice slAll (pv 1) po_none (po_some (pv 2))) (pe_ix iAll (pv 3) (pe_op op_mod (pe_op oAdd (pv 4) (pe_op oMul (pv 0) (pv 5))) pe_int) (fun _ _ => rfl))) (pe_slice slAll (pv 1) (po_some (pv 2)) po_none)))))))))))))), ?_⟩
  obtain ⟨sz, hsz, esz'⟩ := mod_nat c 12 (by decide)
  have esz : c % 12 = ((sz : Nat) : Int) := esz'
  obtain ⟨a, ha, ea'⟩ := mod_nat (c / 12) (sz + 1) (by omega)
  have ea : c / 12 % (((sz : Nat) : Int) + 1) = ((a : Nat) : Int) := ea'
  refine ⟨_, rfl, _, _, rfl, rfl, (by show (0 : Int) < 12; decide), ?_⟩
  dsimp only
  rw [esz]
  refine ⟨_, rfl, _, _, rfl, rfl, ⟨by decide, by decide⟩, _, rfl, .inl ⟨_, _, rfl, rfl, _, _, rfl, rfl, (by omega), ?_⟩⟩
  dsimp only
  rw [ea]
  refine ⟨(by show 6 ≤ sizeLine; decide), fun g hg => ?_⟩
  obtain ⟨x, hx, hx1⟩ := atI_modG V.int [1, 3, 5, 7, 9, 11] (c / 12 / (((sz : Nat) : Int) + 1)) 6 rfl (by show 0 < 6; decide)
  have hxb : 0 < x ∧ x ≤ 11 := by
    have : ∀ y ∈ ([1, 3, 5, 7, 9, 11] : List Int), 0 < y ∧ y ≤ 11 := by decide
    exact this x hx
  refine ⟨_, rfl, _, _, rfl, rfl, ⟨by decide, by decide⟩, _, rfl, .inl ⟨_, _, rfl, rfl, _, _, rfl, rfl, ⟨by omega, by omega⟩, _, _, rfl, rfl, (by show (0 : Int) < 6; decide), .inl (.inl ⟨_, _, _, _, rfl, rfl, SqL.of upd_same, hx1, ?_⟩)⟩⟩
  refine ⟨_, rfl, _, _, rfl, rfl, ⟨by decide, by decide⟩, _, rfl, .inl ⟨_, _, rfl, rfl, _, _, rfl, rfl, ⟨by omega, by omega⟩, ?_⟩⟩
  refine ⟨_, rfl, _, _, rfl, rfl, (by show (0 : Int) < 26; decide), ?_⟩
  refine ⟨_, rfl, _, rfl, by omega, by omega, ?_⟩
  have en : (((sz : Nat) : Int)).toNat = sz := by omega
  rw [en]
  have l26 : L26.length ≤ sizeLine := by rw [L26_len]; exact small5 (by decide)
  refine for_range (fun i σ H2 => Same H H2 ∧ ∃ (stem : Str) (num fst : Int) (z1 z2 : Option V), σ = [some (.int c), some (.int ((m : Nat) : Int)), some (.str L26), z2, some (.int ((a : Nat) : Int)), some (.int x), some (.int num), some (.int fst), some (.str stem), z1] ∧ stem.length ≤ i) ?_ ?_ ?_
  · exact ⟨same_new hg, Str.ofString "", _, _, none, _, rfl, by decide +kernel⟩
  · rintro i σ H2 hi ⟨hs, stem, num, fst, z1, z2, rfl, hl⟩
    obtain ⟨k, hk, ek'⟩ := mod_nat (num / 26) 26 (by decide)
    have ek : num / 26 % 26 = ((k : Nat) : Int) := ek'
    obtain ⟨sg, hsg, hat⟩ := at_text (x := L26) (k := k) (by rw [L26_len]; exact hk)
    refine ⟨_, rfl, _, _, rfl, rfl, ⟨by decide, by decide⟩, ?_⟩
    refine ⟨_, rfl, _, rfl, _, rfl, _, _, rfl, rfl, (by show (0 : Int) < 26; decide), .inr ⟨_, _, _, rfl, rfl, l26, (by rw [ek]; exact hat), .inr ⟨_, _, rfl, rfl, small5 (by show _ + 1 ≤ _; omega), ?_⟩⟩⟩
    exact ⟨hs, _, _, _, _, _, rfl, by rw [app_len]; show _ + 1 ≤ _; omega⟩
  · rintro σ H2 ⟨hs, stem, num, fst, z1, z2, rfl, hl⟩
    have ls : stem.length ≤ sizeLine := small5 (by omega)
    refine ⟨_, rfl, _, rfl, by omega, by omega, fun D hD => ?_⟩
    have em : (((m : Nat) : Int)).toNat = m := by omega
    rw [em]
    refine comp_rangeP (fun y => ∃ n : Str, y = .str n ∧ n.length ≤ 30) (fun σ => ∃ z, σ = [z, some (.str stem), some (.int ((a : Nat) : Int)), some (.str L26), some (.int fst), some (.int x)]) (by omega) ⟨_, rfl⟩ hD ?_ ?_
    · rintro i hi σ1 H1 ⟨z, rfl⟩ hs1 R hR
      obtain ⟨k, hk, ek'⟩ := mod_nat (fst + (0 + ((i : Nat) : Int)) * x) 26 (by decide)
      have ek : (fst + (0 + ((i : Nat) : Int)) * x) % 26 = ((k : Nat) : Int) := ek'
      obtain ⟨sg, hsg, hat⟩ := at_text (x := L26) (k := k) (by rw [L26_len]; exact hk)
      have b1 := slice_le stem none (some ((a : Nat) : Int))
      have b2 := slice_le stem (some ((a : Nat) : Int)) none
      have e1 : (⟨#[sg]⟩ : Str).length = 1 := rfl
      refine ⟨_, rfl, _, rfl, _, rfl, .inr ⟨_, rfl, ls, ?_⟩⟩
      refine ⟨_, rfl, _, rfl, _, rfl, _, rfl, .inl ⟨_, _, rfl, rfl, .inr ⟨by omega, by omega⟩, .inl ⟨_, _, rfl, rfl, _, _, rfl, rfl, (by show (0 : Int) < 26; decide), .inr ⟨_, _, _, rfl, rfl, l26, (by rw [ek]; exact hat), .inr ⟨_, _, rfl, rfl, small5 (by omega), ?_⟩⟩⟩⟩⟩
      refine ⟨_, rfl, _, rfl, _, rfl, .inr ⟨_, rfl, ls, .inr ⟨_, _, rfl, rfl, small5 (by rw [app_len]; omega), ?_⟩⟩⟩
      exact hR _ _ _ ⟨_, rfl⟩ (Same.refl _) ⟨_, rfl, by rw [app_len, app_len]; omega⟩
    · intro ys H' hl' hp hs' hD'
      obtain ⟨ns, rfl, hnl, hb⟩ := strs_of_vals ys hp
      have hD0 := hs.free hD
      exact ⟨_, .new hD0 (hs.trans hs') hD' trivial, q D ns hD0 (by omega) hb⟩
theorem tL68 : ∀ c, c ∈ L62.cps.toList → c ∈ L68 := fun c h => List.mem_append_left _ h
def spText24 (K : PySem.W.Frag) : Sp := fun vs H Q _ => ∃ (a : Addr) (ns : List Int), vs = [.ref a] ∧ SqL K H a (ns.map V.int) ∧ ns.length ≤ 63 ∧ ∀ s, Tx 243 L68 s → Q (.str s) H
set_option maxHeartbeats 4000000 in
theorem ok_law_text {f : Addr} {fd : FuncData} (nb : NB mg) (F : FunAt K mg "_law_text" s_law_text ["_law_script"] f fd) (D_law_cell_at : DefOk P w K mg base 1 "_law_cell_at" ["_law_script", "_law_k"] (spCellAt K)) (D_law_signs : DefOk P w K mg base 1 "_law_signs" ["_law_cell"] spSigns) : DefOk P w K mg base 2 "_law_text" ["_law_script"] (spText24 K) := by
  refine F.ok sc_law_text (fun vs H Q E h => ?_) (fun cdv A outer s H vs Q E hr h => ?_)
  · obtain ⟨_, _, rfl, _⟩ := h; rfl
  obtain ⟨a, ns, rfl, hS, hl, q⟩ := h
  refine ⟨_, (pss_cons (ps_set (i := 1) sc_law_text.nd rfl (by first | exact Or.inl rfl | exact Or.inr rfl) (pe_callD D_law_cell_at hr (pa_cons (pv 0) (pa_cons pe_int pa_nil))))
    (pss_cons (ps_set (i := 2) sc_law_text.nd rfl (by first | exact Or.inl rfl | exact Or.inr rfl) (pe_callD D_law_signs hr (pa_cons (pv 1) pa_nil)))
    (pss_cons (ps_if (pt_cmpR oEq (pe_op op_mod (pv 1) pe_int) pe_int (nomark _)) (pss_one (ps_set (i := 2) sc_law_text.nd rfl (by first | exact Or.inl rfl | exact Or.inr rfl) (pe_slice slAll (pv 2) po_none (po_some (pe_op op_mod (pe_op op_fdiv (pv 1) pe_int) pe_int))))) pss_nil)
    (pss_cons (ps_set (i := 3) sc_law_text.nd rfl (by first | exact Or.inl rfl | exact Or.inr rfl) (pe_callD D_law_cell_at hr (pa_cons (pv 0) (pa_cons pe_int pa_nil))))
    (pss_cons (ps_set (i := 4) sc_law_text.nd rfl (by first | exact Or.inl rfl | exact Or.inr rfl) (pe_op op_mod (pe_op op_fdiv (pv 3) pe_int) (pe_op oAdd (pe_callB call_len rfl nb.len_ bo_len (pa_cons (pv 2) pa_nil)) pe_int)))
    (pss_cons (ps_if (pt_cmpR oEq (pe_op op_mod (pv 3) pe_int) pe_int (nomark _)) (pss_cons (ps_set (i := 5) sc_law_text.nd rfl (by first | exact Or.inl rfl | exact Or.inr rfl) (pe_ix iAll (pe_lst (pa_cons pe_str (pa_cons pe_str (pa_cons pe_str (pa_cons pe_str (pa_cons pe_str (pa_cons pe_str pa_nil))))))) (pe_op op_mod (pe_op op_fdiv (pv 3) pe_int) pe_int) (fun _ _ => rfl)))
      (pss_one (ps_set (i := 2) sc_law_text.nd rfl (by first | exact Or.inl rfl | exact Or.inr rfl) (pe_op oAdd (pe_op oAdd (pe_slice slAll (pv 2) po_none (po_some (pv 4))) (pv 5)) (pe_slice slAll (pv 2) (po_some (pv 4)) po_none))))) pss_nil)
    (pss_cons (ps_if (PW.pt (pw_and (pt_cmpR oEq (pe_op op_mod (pv 3) pe_int) pe_int (nomark _)) (pw_and1 (pt_cmpR oGt (pe_callB call_len rfl nb.len_ bo_len (pa_cons (pv 2) pa_nil)) pe_int (nomark _))))) (pss_cons (ps_set (i := 5) sc_law_text.nd rfl (by first | exact Or.inl rfl | exact Or.inr rfl) (pe_ix iAll (pv 2) (pe_op op_mod (pe_op op_fdiv (pv 3) pe_int) (pe_callB call_len rfl nb.len_ bo_len (pa_cons (pv 2) pa_nil))) (fun _ _ => rfl)))
      (pss_one (ps_set (i := 2) sc_law_text.nd rfl (by first | exact Or.inl rfl | exact Or.inr rfl) (pe_op oAdd (pe_op oAdd (pe_slice slAll (pv 2) po_none (po_some (pv 4))) (pv 5)) (pe_slice slAll (pv 2) (po_some (pv 4)) po_none))))) pss_nil)
    (pss_cons (ps_if (pt_cmpR oEq (pe_op op_mod (pv 3) pe_int) pe_int (nomark _)) (pss_one (ps_set (i := 2) sc_law_text.nd rfl (by first | exact Or.inl rfl | exact Or.inr rfl) (pe_slice slAll pe_str po_none (po_some (pe_op oAdd pe_int (pe_op op_mod (pe_op op_fdiv (pv 3) pe_int) pe_int)))))) pss_nil)
    (pss_one (ps_ret (pv 2))))))))))), ?_⟩
  refine ⟨_, rfl, a, ns, 2, rfl, hS, hl, ?_⟩
  generalize ns.getD 2 0 = c
  refine ⟨_, rfl, c, rfl, fun sg tg => ?_⟩
  have tg := tg.mono (Nat.le_refl _) tL68
  have hs := Same.refl H
  have lsg : sg.length ≤ sizeLine := small5 (by have := tg.n; omega)
  refine ⟨_, rfl, _, _, rfl, rfl, (by show (0 : Int) < 5; decide), rfl, _, rfl, iteD (fun c0 => ?_) (fun c0 => ?_)⟩
  · refine ⟨_, rfl, _, rfl, _, _, rfl, rfl, ⟨by decide, by decide⟩, _, _, rfl, rfl, (by show (0 : Int) < 3; decide), _, rfl, .inr ⟨_, rfl, lsg, ?_⟩⟩
    have tg := tg.slice none (some (c / 5 % 3))
    dsimp only
    generalize Txt.slice sg none (some (c / 5 % 3)) = sg2 at tg ⊢
    generalize sg2 = sg at tg ⊢
    refine ⟨_, rfl, a, ns, 3, rfl, hS, hl, ?_⟩
    generalize ns.getD 3 0 = w
    have lsg : sg.length ≤ sizeLine := small5 (by have := tg.n; omega)
    refine ⟨_, rfl, _, _, rfl, rfl, ⟨by decide, by decide⟩, _, rfl, _, _, rfl, ⟨lsg, rfl⟩, .inl ⟨_, _, rfl, rfl, _, _, rfl, rfl, (by omega), ?_⟩⟩
    dsimp only
    generalize w / 7 % (((sg.length : Nat) : Int) + 1) = av
    refine ⟨_, rfl, _, _, rfl, rfl, (by show (0 : Int) < 7; decide), rfl, _, rfl, iteD (fun c1 => ?_) (fun c1 => ?_)⟩
    · obtain ⟨x, hx, hx1⟩ := atI_modG V.str [Str.ofString "_", Str.ofString " ", Str.ofString "-", Str.ofString ")", Str.ofString "\n", Str.ofString "~"] (w / 500) 6 rfl (by decide)
      have tsg : Tx 1 L68 x := by
        have : ∀ y ∈ [Str.ofString "_", Str.ofString " ", Str.ofString "-", Str.ofString ")", Str.ofString "\n", Str.ofString "~"], y.length ≤ 1 ∧ ∀ c ∈ y.cps.toList, c ∈ L68 := by decide +kernel
        exact ⟨(this x hx).1, (this x hx).2⟩
      refine ⟨(by show 6 ≤ sizeLine; decide), fun g hg => ⟨_, rfl, _, _, rfl, rfl, ⟨by decide, by decide⟩, _, _, rfl, rfl, (by show (0 : Int) < 6; decide), .inl (.inl ⟨_, _, _, _, rfl, rfl, SqL.of upd_same, hx1, ?_⟩)⟩⟩
      have hs := same_new (H := H) (o := HO.lst ([Str.ofString "_", Str.ofString " ", Str.ofString "-", Str.ofString ")", Str.ofString "\n", Str.ofString "~"].map V.str)) hg
      have b1 := fun v => (tg.slice none (some v)).n
      have b2 := fun v => (tg.slice (some v) none).n
      have b3 := tsg.n
      refine ⟨_, rfl, _, rfl, _, rfl, .inr ⟨_, rfl, lsg, _, rfl, .inr ⟨_, _, rfl, rfl, small5 (Nat.le_trans (Nat.add_le_add (b1 _) b3) (by decide)), _, rfl, _, rfl, _, rfl, .inr ⟨_, rfl, lsg, .inr ⟨_, _, rfl, rfl, small5 (by rw [app_len]; exact Nat.le_trans (Nat.add_le_add (Nat.add_le_add (b1 _) b3) (b2 _)) (by decide)), ?_⟩⟩⟩⟩⟩
      have tg := ((tg.slice none (some av)).app tsg).app (tg.slice (some av) none)
      dsimp only
      generalize ((Txt.slice sg none (some av) ++ x) ++ Txt.slice sg (some av) none) = sg2 at tg ⊢
      have lsg : sg2.length ≤ sizeLine := small5 (by have := tg.n; omega)
      generalize sg2 = sg at tg lsg ⊢
      refine ⟨_, rfl, _, _, rfl, rfl, (by show (0 : Int) < 7; decide), rfl, _, rfl, iteD (fun c2 => ?_) (fun c2 => ?_)⟩
      · refine ⟨_, rfl, _, _, rfl, ⟨lsg, rfl⟩, _, _, rfl, rfl, _, rfl, iteD (fun c4 => ?_) (fun c4 => ?_)⟩
        · obtain ⟨k, hk, ek⟩ := mod_nat (w / 500) sg.length (by omega)
          obtain ⟨ch, hch, hat⟩ := at_text hk
          refine ⟨_, rfl, _, rfl, _, _, rfl, rfl, ⟨by decide, by decide⟩, _, rfl, _, _, rfl, ⟨lsg, rfl⟩, _, _, rfl, rfl, (by omega), .inr ⟨_, _, _, rfl, rfl, lsg, (by rw [ek]; exact hat), ?_⟩⟩
          have tsg := Tx.one (tg.s _ hch)
          have b1 := fun v => (tg.slice none (some v)).n
          have b2 := fun v => (tg.slice (some v) none).n
          have b3 := tsg.n
          refine ⟨_, rfl, _, rfl, _, rfl, .inr ⟨_, rfl, lsg, _, rfl, .inr ⟨_, _, rfl, rfl, small5 (Nat.le_trans (Nat.add_le_add (b1 _) b3) (by decide)), _, rfl, _, rfl, _, rfl, .inr ⟨_, rfl, lsg, .inr ⟨_, _, rfl, rfl, small5 (by rw [app_len]; exact Nat.le_trans (Nat.add_le_add (Nat.add_le_add (b1 _) b3) (b2 _)) (by decide)), ?_⟩⟩⟩⟩⟩
          have tg := ((tg.slice none (some av)).app tsg).app (tg.slice (some av) none)
          refine ⟨_, rfl, _, _, rfl, rfl, (by show (0 : Int) < 7; decide), rfl, _, rfl, iteD (fun c3 => ?_) (fun c3 => ?_)⟩
          · refine ⟨_, rfl, _, _, rfl, rfl, ⟨by decide, by decide⟩, _, _, rfl, rfl, (by show (0 : Int) < 5; decide), .inl ⟨_, _, rfl, rfl, _, rfl, .inr ⟨_, rfl, (by show L62.length ≤ _; rw [L62_len]; exact small5 (by decide)), ?_⟩⟩⟩
            exact ⟨_, rfl, H, .refl hs, q _ ((tx62.slice ..).mono (by decide) tL68)⟩
          · exact ⟨_, rfl, H, .refl hs, q _ tg⟩
        · have tg := tg.mono (show 121 ≤ 243 by decide) fun _ h => h
          refine ⟨_, rfl, _, _, rfl, rfl, (by show (0 : Int) < 7; decide), rfl, _, rfl, iteD (fun c3 => ?_) (fun c3 => ?_)⟩
          · refine ⟨_, rfl, _, _, rfl, rfl, ⟨by decide, by decide⟩, _, _, rfl, rfl, (by show (0 : Int) < 5; decide), .inl ⟨_, _, rfl, rfl, _, rfl, .inr ⟨_, rfl, (by show L62.length ≤ _; rw [L62_len]; exact small5 (by decide)), ?_⟩⟩⟩
            exact ⟨_, rfl, H, .refl hs, q _ ((tx62.slice ..).mono (by decide) tL68)⟩
          · exact ⟨_, rfl, H, .refl hs, q _ tg⟩
      · have tg := tg.mono (show 121 ≤ 243 by decide) fun _ h => h
        refine ⟨_, rfl, _, _, rfl, rfl, (by show (0 : Int) < 7; decide), rfl, _, rfl, iteD (fun c3 => ?_) (fun c3 => ?_)⟩
        · refine ⟨_, rfl, _, _, rfl, rfl, ⟨by decide, by decide⟩, _, _, rfl, rfl, (by show (0 : Int) < 5; decide), .inl ⟨_, _, rfl, rfl, _, rfl, .inr ⟨_, rfl, (by show L62.length ≤ _; rw [L62_len]; exact small5 (by decide)), ?_⟩⟩⟩
          exact ⟨_, rfl, H, .refl hs, q _ ((tx62.slice ..).mono (by decide) tL68)⟩
        · exact ⟨_, rfl, H, .refl hs, q _ tg⟩
    · have tg := tg.mono (show 60 ≤ 121 by decide) fun _ h => h
      refine ⟨_, rfl, _, _, rfl, rfl, (by show (0 : Int) < 7; decide), rfl, _, rfl, iteD (fun c2 => ?_) (fun c2 => ?_)⟩
      · refine ⟨_, rfl, _, _, rfl, ⟨lsg, rfl⟩, _, _, rfl, rfl, _, rfl, iteD (fun c4 => ?_) (fun c4 => ?_)⟩
        · obtain ⟨k, hk, ek⟩ := mod_nat (w / 500) sg.length (by omega)
          obtain ⟨ch, hch, hat⟩ := at_text hk
          refine ⟨_, rfl, _, rfl, _, _, rfl, rfl, ⟨by decide, by decide⟩, _, rfl, _, _, rfl, ⟨lsg, rfl⟩, _, _, rfl, rfl, (by omega), .inr ⟨_, _, _, rfl, rfl, lsg, (by rw [ek]; exact hat), ?_⟩⟩
          have tsg := Tx.one (tg.s _ hch)
          have b1 := fun v => (tg.slice none (some v)).n
          have b2 := fun v => (tg.slice (some v) none).n
          have b3 := tsg.n
          refine ⟨_, rfl, _, rfl, _, rfl, .inr ⟨_, rfl, lsg, _, rfl, .inr ⟨_, _, rfl, rfl, small5 (Nat.le_trans (Nat.add_le_add (b1 _) b3) (by decide)), _, rfl, _, rfl, _, rfl, .inr ⟨_, rfl, lsg, .inr ⟨_, _, rfl, rfl, small5 (by rw [app_len]; exact Nat.le_trans (Nat.add_le_add (Nat.add_le_add (b1 _) b3) (b2 _)) (by decide)), ?_⟩⟩⟩⟩⟩
          have tg := ((tg.slice none (some av)).app tsg).app (tg.slice (some av) none)
          refine ⟨_, rfl, _, _, rfl, rfl, (by show (0 : Int) < 7; decide), rfl, _, rfl, iteD (fun c3 => ?_) (fun c3 => ?_)⟩
          · refine ⟨_, rfl, _, _, rfl, rfl, ⟨by decide, by decide⟩, _, _, rfl, rfl, (by show (0 : Int) < 5; decide), .inl ⟨_, _, rfl, rfl, _, rfl, .inr ⟨_, rfl, (by show L62.length ≤ _; rw [L62_len]; exact small5 (by decide)), ?_⟩⟩⟩
            exact ⟨_, rfl, H, .refl hs, q _ ((tx62.slice ..).mono (by decide) tL68)⟩
          · exact ⟨_, rfl, H, .refl hs, q _ tg⟩
        · have tg := tg.mono (show 121 ≤ 243 by decide) fun _ h => h
          refine ⟨_, rfl, _, _, rfl, rfl, (by show (0 : Int) < 7; decide), rfl, _, rfl, iteD (fun c3 => ?_) (fun c3 => ?_)⟩
          · refine ⟨_, rfl, _, _, rfl, rfl, ⟨by decide, by decide⟩, _, _, rfl, rfl, (by show (0 : Int) < 5; decide), .inl ⟨_, _, rfl, rfl, _, rfl, .inr ⟨_, rfl, (by show L62.length ≤ _; rw [L62_len]; exact small5 (by decide)), ?_⟩⟩⟩
            exact ⟨_, rfl, H, .refl hs, q _ ((tx62.slice ..).mono (by decide) tL68)⟩
          · exact ⟨_, rfl, H, .refl hs, q _ tg⟩
      · have tg := tg.mono (show 121 ≤ 243 by decide) fun _ h => h
        refine ⟨_, rfl, _, _, rfl, rfl, (by show (0 : Int) < 7; decide), rfl, _, rfl, iteD (fun c3 => ?_) (fun c3 => ?_)⟩
        · refine ⟨_, rfl, _, _, rfl, rfl, ⟨by decide, by decide⟩, _, _, rfl, rfl, (by show (0 : Int) < 5; decide), .inl ⟨_, _, rfl, rfl, _, rfl, .inr ⟨_, rfl, (by show L62.length ≤ _; rw [L62_len]; exact small5 (by decide)), ?_⟩⟩⟩
          exact ⟨_, rfl, H, .refl hs, q _ ((tx62.slice ..).mono (by decide) tL68)⟩
        · exact ⟨_, rfl, H, .refl hs, q _ tg⟩
  · skip
    refine ⟨_, rfl, a, ns, 3, rfl, hS, hl, ?_⟩
    generalize ns.getD 3 0 = w
    have lsg : sg.length ≤ sizeLine := small5 (by have := tg.n; omega)
    refine ⟨_, rfl, _, _, rfl, rfl, ⟨by decide, by decide⟩, _, rfl, _, _, rfl, ⟨lsg, rfl⟩, .inl ⟨_, _, rfl, rfl, _, _, rfl, rfl, (by omega), ?_⟩⟩
    dsimp only
    generalize w / 7 % (((sg.length : Nat) : Int) + 1) = av
    refine ⟨_, rfl, _, _, rfl, rfl, (by show (0 : Int) < 7; decide), rfl, _, rfl, iteD (fun c1 => ?_) (fun c1 => ?_)⟩
    · obtain ⟨x, hx, hx1⟩ := atI_modG V.str [Str.ofString "_", Str.ofString " ", Str.ofString "-", Str.ofString ")", Str.ofString "\n", Str.ofString "~"] (w / 500) 6 rfl (by decide)
      have tsg : Tx 1 L68 x := by
        have : ∀ y ∈ [Str.ofString "_", Str.ofString " ", Str.ofString "-", Str.ofString ")", Str.ofString "\n", Str.ofString "~"], y.length ≤ 1 ∧ ∀ c ∈ y.cps.toList, c ∈ L68 := by decide +kernel
        exact ⟨(this x hx).1, (this x hx).2⟩
      refine ⟨(by show 6 ≤ sizeLine; decide), fun g hg => ⟨_, rfl, _, _, rfl, rfl, ⟨by decide, by decide⟩, _, _, rfl, rfl, (by show (0 : Int) < 6; decide), .inl (.inl ⟨_, _, _, _, rfl, rfl, SqL.of upd_same, hx1, ?_⟩)⟩⟩
      have hs := same_new (H := H) (o := HO.lst ([Str.ofString "_", Str.ofString " ", Str.ofString "-", Str.ofString ")", Str.ofString "\n", Str.ofString "~"].map V.str)) hg
      have b1 := fun v => (tg.slice none (some v)).n
      have b2 := fun v => (tg.slice (some v) none).n
      have b3 := tsg.n
      refine ⟨_, rfl, _, rfl, _, rfl, .inr ⟨_, rfl, lsg, _, rfl, .inr ⟨_, _, rfl, rfl, small5 (Nat.le_trans (Nat.add_le_add (b1 _) b3) (by decide)), _, rfl, _, rfl, _, rfl, .inr ⟨_, rfl, lsg, .inr ⟨_, _, rfl, rfl, small5 (by rw [app_len]; exact Nat.le_trans (Nat.add_le_add (Nat.add_le_add (b1 _) b3) (b2 _)) (by decide)), ?_⟩⟩⟩⟩⟩
      have tg := ((tg.slice none (some av)).app tsg).app (tg.slice (some av) none)
      dsimp only
      generalize ((Txt.slice sg none (some av) ++ x) ++ Txt.slice sg (some av) none) = sg2 at tg ⊢
      have lsg : sg2.length ≤ sizeLine := small5 (by have := tg.n; omega)
      generalize sg2 = sg at tg lsg ⊢
      refine ⟨_, rfl, _, _, rfl, rfl, (by show (0 : Int) < 7; decide), rfl, _, rfl, iteD (fun c2 => ?_) (fun c2 => ?_)⟩
      · refine ⟨_, rfl, _, _, rfl, ⟨lsg, rfl⟩, _, _, rfl, rfl, _, rfl, iteD (fun c4 => ?_) (fun c4 => ?_)⟩
        · obtain ⟨k, hk, ek⟩ := mod_nat (w / 500) sg.length (by omega)
          obtain ⟨ch, hch, hat⟩ := at_text hk
          refine ⟨_, rfl, _, rfl, _, _, rfl, rfl, ⟨by decide, by decide⟩, _, rfl, _, _, rfl, ⟨lsg, rfl⟩, _, _, rfl, rfl, (by omega), .inr ⟨_, _, _, rfl, rfl, lsg, (by rw [ek]; exact hat), ?_⟩⟩
          have tsg := Tx.one (tg.s _ hch)
          have b1 := fun v => (tg.slice none (some v)).n
          have b2 := fun v => (tg.slice (some v) none).n
          have b3 := tsg.n
          refine ⟨_, rfl, _, rfl, _, rfl, .inr ⟨_, rfl, lsg, _, rfl, .inr ⟨_, _, rfl, rfl, small5 (Nat.le_trans (Nat.add_le_add (b1 _) b3) (by decide)), _, rfl, _, rfl, _, rfl, .inr ⟨_, rfl, lsg, .inr ⟨_, _, rfl, rfl, small5 (by rw [app_len]; exact Nat.le_trans (Nat.add_le_add (Nat.add_le_add (b1 _) b3) (b2 _)) (by decide)), ?_⟩⟩⟩⟩⟩
          have tg := ((tg.slice none (some av)).app tsg).app (tg.slice (some av) none)
          refine ⟨_, rfl, _, _, rfl, rfl, (by show (0 : Int) < 7; decide), rfl, _, rfl, iteD (fun c3 => ?_) (fun c3 => ?_)⟩
          · refine ⟨_, rfl, _, _, rfl, rfl, ⟨by decide, by decide⟩, _, _, rfl, rfl, (by show (0 : Int) < 5; decide), .inl ⟨_, _, rfl, rfl, _, rfl, .inr ⟨_, rfl, (by show L62.length ≤ _; rw [L62_len]; exact small5 (by decide)), ?_⟩⟩⟩
            exact ⟨_, rfl, H, .refl hs, q _ ((tx62.slice ..).mono (by decide) tL68)⟩
          · exact ⟨_, rfl, H, .refl hs, q _ tg⟩
        · have tg := tg.mono (show 121 ≤ 243 by decide) fun _ h => h
          refine ⟨_, rfl, _, _, rfl, rfl, (by show (0 : Int) < 7; decide), rfl, _, rfl, iteD (fun c3 => ?_) (fun c3 => ?_)⟩
          · refine ⟨_, rfl, _, _, rfl, rfl, ⟨by decide, by decide⟩, _, _, rfl, rfl, (by show (0 : Int) < 5; decide), .inl ⟨_, _, rfl, rfl, _, rfl, .inr ⟨_, rfl, (by show L62.length ≤ _; rw [L62_len]; exact small5 (by decide)), ?_⟩⟩⟩
            exact ⟨_, rfl, H, .refl hs, q _ ((tx62.slice ..).mono (by decide) tL68)⟩
          · exact ⟨_, rfl, H, .refl hs, q _ tg⟩
      · have tg := tg.mono (show 121 ≤ 243 by decide) fun _ h => h
        refine ⟨_, rfl, _, _, rfl, rfl, (by show (0 : Int) < 7; decide), rfl, _, rfl, iteD (fun c3 => ?_) (fun c3 => ?_)⟩
        · refine ⟨_, rfl, _, _, rfl, rfl, ⟨by decide, by decide⟩, _, _, rfl, rfl, (by show (0 : Int) < 5; decide), .inl ⟨_, _, rfl, rfl, _, rfl, .inr ⟨_, rfl, (by show L62.length ≤ _; rw [L62_len]; exact small5 (by decide)), ?_⟩⟩⟩
          exact ⟨_, rfl, H, .refl hs, q _ ((tx62.slice ..).mono (by decide) tL68)⟩
        · exact ⟨_, rfl, H, .refl hs, q _ tg⟩
    · have tg := tg.mono (show 60 ≤ 121 by decide) fun _ h => h
      refine ⟨_, rfl, _, _, rfl, rfl, (by show (0 : Int) < 7; decide), rfl, _, rfl, iteD (fun c2 => ?_) (fun c2 => ?_)⟩
      · refine ⟨_, rfl, _, _, rfl, ⟨lsg, rfl⟩, _, _, rfl, rfl, _, rfl, iteD (fun c4 => ?_) (fun c4 => ?_)⟩
        · obtain ⟨k, hk, ek⟩ := mod_nat (w / 500) sg.length (by omega)
          obtain ⟨ch, hch, hat⟩ := at_text hk
          refine ⟨_, rfl, _, rfl, _, _, rfl, rfl, ⟨by decide, by decide⟩, _, rfl, _, _, rfl, ⟨lsg, rfl⟩, _, _, rfl, rfl, (by omega), .inr ⟨_, _, _, rfl, rfl, lsg, (by rw [ek]; exact hat), ?_⟩⟩
          have tsg := Tx.one (tg.s _ hch)
          have b1 := fun v => (tg.slice none (some v)).n
          have b2 := fun v => (tg.slice (some v) none).n
          have b3 := tsg.n
          refine ⟨_, rfl, _, rfl, _, rfl, .inr ⟨_, rfl, lsg, _, rfl, .inr ⟨_, _, rfl, rfl, small5 (Nat.le_trans (Nat.add_le_add (b1 _) b3) (by decide)), _, rfl, _, rfl, _, rfl, .inr ⟨_, rfl, lsg, .inr ⟨_, _, rfl, rfl, small5 (by rw [app_len]; exact Nat.le_trans (Nat.add_le_add (Nat.add_le_add (b1 _) b3) (b2 _)) (by decide)), ?_⟩⟩⟩⟩⟩
          have tg := ((tg.slice none (some av)).app tsg).app (tg.slice (some av) none)
          refine ⟨_, rfl, _, _, rfl, rfl, (by show (0 : Int) < 7; decide), rfl, _, rfl, iteD (fun c3 => ?_) (fun c3 => ?_)⟩
          · refine ⟨_, rfl, _, _, rfl, rfl, ⟨by decide, by decide⟩, _, _, rfl, rfl, (by show (0 : Int) < 5; decide), .inl ⟨_, _, rfl, rfl, _, rfl, .inr ⟨_, rfl, (by show L62.length ≤ _; rw [L62_len]; exact small5 (by decide)), ?_⟩⟩⟩
            exact ⟨_, rfl, H, .refl hs, q _ ((tx62.slice ..).mono (by decide) tL68)⟩
          · exact ⟨_, rfl, H, .refl hs, q _ tg⟩
        · have tg := tg.mono (show 121 ≤ 243 by decide) fun _ h => h
          refine ⟨_, rfl, _, _, rfl, rfl, (by show (0 : Int) < 7; decide), rfl, _, rfl, iteD (fun c3 => ?_) (fun c3 => ?_)⟩
          · refine ⟨_, rfl, _, _, rfl, rfl, ⟨by decide, by decide⟩, _, _, rfl, rfl, (by show (0 : Int) < 5; decide), .inl ⟨_, _, rfl, rfl, _, rfl, .inr ⟨_, rfl, (by show L62.length ≤ _; rw [L62_len]; exact small5 (by decide)), ?_⟩⟩⟩
            exact ⟨_, rfl, H, .refl hs, q _ ((tx62.slice ..).mono (by decide) tL68)⟩
          · exact ⟨_, rfl, H, .refl hs, q _ tg⟩
      · have tg := tg.mono (show 121 ≤ 243 by decide) fun _ h => h
        refine ⟨_, rfl, _, _, rfl, rfl, (by show (0 : Int) < 7; decide), rfl, _, rfl, iteD (fun c3 => ?_) (fun c3 => ?_)⟩
        · refine ⟨_, rfl, _, _, rfl, rfl, ⟨by decide, by decide⟩, _, _, rfl, rfl, (by show (0 : Int) < 5; decide), .inl ⟨_, _, rfl, rfl, _, rfl, .inr ⟨_, rfl, (by show L62.length ≤ _; rw [L62_len]; exact small5 (by decide)), ?_⟩⟩⟩
          exact ⟨_, rfl, H, .refl hs, q _ ((tx62.slice ..).mono (by decide) tL68)⟩
        · exact ⟨_, rfl, H, .refl hs, q _ tg⟩

/-! ### the law's parts -/
def NamesAt (H : Hp) (D : Addr) (ns : List Str) (m b : Nat) : Prop := H D = some (.lst (ns.map V.str)) ∧ ns.length = m ∧ ∀ n, n ∈ ns → n.length ≤ b
theorem NamesAt.at {H : Hp} {D : Addr} {ns : List Str} {m b k : Nat} (h : NamesAt H D ns m b) (hk : k < m) : ∃ n : Str, n.length ≤ b ∧ n ∈ ns ∧ atI (ns.map V.str) ((k : Nat) : Int) = some (.str n) := by
  have hk' : k < ns.length := by rw [h.2.1]; exact hk
  exact ⟨ns[k], h.2.2 _ (List.getElem_mem hk'), List.getElem_mem hk', atI_nat (by rw [List.getElem?_map, List.getElem?_eq_getElem hk']; rfl)⟩
theorem NamesAt.set {H : Hp} {D : Addr} {ns : List Str} {m b k : Nat} {n : Str} (h : NamesAt H D ns m b) (hn : n.length ≤ b) : NamesAt (upd H D (.lst ((ns.map V.str).set k (.str n)))) D (ns.set k n) m b := by
  refine ⟨by rw [upd_same, List.map_set], by rw [List.length_set]; exact h.2.1, fun x hx => ?_⟩
  rcases List.mem_or_eq_of_mem_set hx with z | z
  · exact h.2.2 x z
  · rw [z]; exact hn
theorem NamesAt.mono {H : Hp} {D : Addr} {ns : List Str} {m b b' : Nat} (h : NamesAt H D ns m b) (hb : b ≤ b') : NamesAt H D ns m b' := ⟨h.1, h.2.1, fun n hn => Nat.le_trans (h.2.2 n hn) hb⟩
def spLawParts (K : PySem.W.Frag) (CT : Addr) : Sp := fun vs H Q _ => ∃ (a : Addr) (ns : List Int), vs = [.ref a] ∧ SqL K H a (ns.map V.int) ∧ ns.length ≤ 63 ∧ ∀ p ps H', Ext H H' → Parts H' p ps → (∀ f, f ∈ fms ps → isTr CT H' f) → Q (.ref p) H'
/-- tuples of a name and a new Truth() -/
def PrT (CT D : Addr) (ns : List Str) : Nat → V → Hp → Prop := fun i y H => ∃ T o d, y = .ref T ∧ T ≠ D ∧ o ≠ D ∧ H T = some (.tup [.str (ns.getD i Str.empty), .ref o]) ∧ H o = some (.ins CT d [])
theorem prT_parts {CT D : Addr} {ns : List Str} {H : Hp} : ∀ (ys : List V), ys.length = ns.length → (∀ k y, ys[k]? = some y → PrT CT D ns k y H) →
    ∃ ps : List (Addr × Str × Addr), ys = ps.map (fun x => V.ref x.1) ∧ nms ps = ns ∧ (∀ x, x ∈ ps → H x.1 = some (.tup [.str x.2.1, .ref x.2.2]) ∧ isTr CT H x.2.2) := by
  induction ns with
  | nil =>
    intro ys hl h
    have : ys = [] := List.length_eq_zero_iff.mp hl
    subst this
    exact ⟨[], rfl, rfl, fun x hx => nomatch hx⟩
  | cons n r ih =>
    intro ys hl h
    cases ys with
    | nil => cases hl
    | cons y ys =>
      obtain ⟨T, o, d, rfl, _, _, hT, ho⟩ := h 0 y rfl
      obtain ⟨ps, rfl, rfl, hp⟩ := ih ys (Nat.succ.inj hl) fun k z hz => h (k + 1) z hz
      refine ⟨(T, n, o) :: ps, rfl, rfl, fun x hx => ?_⟩
      rcases List.mem_cons.mp hx with e | e
      · subst e; exact ⟨hT, d, ho⟩
      · exact hp x e
set_option maxHeartbeats 4000000 in
theorem ok_law_parts {f CT : Addr} {fd : FuncData} (nb : NB mg) (M0_Truth : Mk0 K CT) (m_Truth : mg "Truth" = some (.ref CT)) (F : FunAt K mg "_law_parts" s_law_parts ["_law_script"] f fd) (D_law_cell_at : DefOk P w K mg base 1 "_law_cell_at" ["_law_script", "_law_k"] (spCellAt K)) (D_law_names : DefOk P w K mg base 1 "_law_names" ["_law_cell", "_law_many"] spNames) : DefOk P w K mg base 2 "_law_parts" ["_law_script"] (spLawParts K CT) := by
  refine F.ok sc_law_parts (fun vs H Q E h => ?_) (fun cdv A outer s H vs Q E hr h => ?_)
  · obtain ⟨_, _, rfl, _⟩ := h; rfl
  obtain ⟨a, ns, rfl, hS, hl, q⟩ := h
  refine ⟨_, (pss_cons (ps_set (i := 1) sc_law_parts.nd rfl (by first | exact Or.inl rfl | exact Or.inr rfl) (pe_callD D_law_cell_at hr (pa_cons (pv 0) (pa_cons pe_int pa_nil))))
    (pss_cons (ps_set (i := 2) sc_law_parts.nd rfl (by first | exact Or.inl rfl | exact Or.inr rfl) (pe_op op_mod (pv 1) (pe_ix iAll (pe_lst (pa_cons pe_int (pa_cons pe_int (pa_cons pe_int pa_nil)))) (pe_op op_mod (pe_op op_fdiv (pv 1) pe_int) pe_int) (fun _ _ => rfl))))
    (pss_cons (ps_set (i := 3) sc_law_parts.nd rfl (by first | exact Or.inl rfl | exact Or.inr rfl) (pe_callD D_law_names hr (pa_cons (pe_callD D_law_cell_at hr (pa_cons (pv 0) (pa_cons pe_int pa_nil))) (pa_cons (pv 2) pa_nil))))
    (pss_cons (ps_set (i := 4) sc_law_parts.nd rfl (by first | exact Or.inl rfl | exact Or.inr rfl) (pe_callD D_law_cell_at hr (pa_cons (pv 0) (pa_cons pe_int pa_nil))))
    (pss_cons (ps_if (pt_cmpR oGt (pv 2) pe_int (nomark _)) (pss_cons (ps_set (i := 5) sc_law_parts.nd rfl (by first | exact Or.inl rfl | exact Or.inr rfl) (pe_op op_mod (pe_op op_fdiv (pv 4) pe_int) (pv 2)))
      (pss_cons (ps_if (pt_cmpR oEq (pe_op op_mod (pv 4) pe_int) pe_int (nomark _)) (pss_one (ps_asg (pe_ix iAll (pv 3) (pe_op op_mod (pe_op op_fdiv (pv 4) pe_int) (pv 2)) (fun _ _ => rfl)) (pg_sub (pv 3) (pv 5) set_list))) pss_nil)
      (pss_cons (ps_if (pt_cmpR oEq (pe_op op_mod (pv 4) pe_int) pe_int (nomark _)) (pss_one (ps_asg (pe_ix iAll (pe_lst (pa_cons pe_str (pa_cons pe_str (pa_cons pe_str pa_nil)))) (pe_op op_mod (pe_op op_fdiv (pv 4) pe_int) pe_int) (fun _ _ => rfl)) (pg_sub (pv 3) (pv 5) set_list))) pss_nil)
      (pss_one (ps_if (pt_cmpR oEq (pe_op op_mod (pv 4) pe_int) pe_int (nomark _)) (pss_cons (ps_set (i := 6) sc_law_parts.nd rfl (by first | exact Or.inl rfl | exact Or.inr rfl) (pe_op op_mod (pe_op op_fdiv (pv 4) pe_int) (pe_op oAdd (pe_callB call_len rfl nb.len_ bo_len (pa_cons (pe_ix iAll (pv 3) (pv 5) (fun _ _ => rfl)) pa_nil)) pe_int)))
        (pss_cons (ps_set (i := 7) sc_law_parts.nd rfl (by first | exact Or.inl rfl | exact Or.inr rfl) (pe_ix iAll (pe_lst (pa_cons pe_str (pa_cons pe_str (pa_cons pe_str (pa_cons pe_str pa_nil))))) (pe_op op_mod (pe_op op_fdiv (pv 4) pe_int) pe_int) (fun _ _ => rfl)))
        (pss_cons (ps_set (i := 8) sc_law_parts.nd rfl (by first | exact Or.inl rfl | exact Or.inr rfl) (pe_ix iAll (pv 3) (pv 5) (fun _ _ => rfl)))
        (pss_one (ps_asg (pe_op oAdd (pe_op oAdd (pe_slice slAll (pv 8) po_none (po_some (pv 6))) (pv 7)) (pe_slice slAll (pe_slice slAll (pv 8) (po_some (pv 6)) po_none) po_none (po_some (pe_op oSub pe_int (pv 6))))) (pg_sub (pv 3) (pv 5) set_list)))))) pss_nil))))) pss_nil)
    (pss_one (ps_ret (pe_comp ["_law_name"] [] rfl (by decide +kernel) trivial (piAll (pv 3)) (fun _ _ _ _ _ => (pg_name (i := 0) (show (["_law_name"] : List Str).Nodup by decide +kernel) rfl (by first | exact Or.inl rfl | exact Or.inr rfl))) (fun _ _ _ _ _ => pts_nil) (fun _ _ _ _ _ => (pe_tup (pa_cons (pv 0) (pa_cons (pe_makeN0 M0_Truth rfl m_Truth) pa_nil)))))))))))), ?_⟩
  refine ⟨_, rfl, a, ns, 4, rfl, hS, hl, ?_⟩
  generalize ns.getD 4 0 = c
  refine ⟨_, rfl, (by show 3 ≤ sizeLine; decide), fun g hg => ?_⟩
  obtain ⟨x, hx, hx1⟩ := atI_modG V.int [3, 6, 23] (c / 23) 3 rfl (by show 0 < 3; decide)
  have hxb : 0 < x ∧ x ≤ 23 := by
    have : ∀ y ∈ ([3, 6, 23] : List Int), 0 < y ∧ y ≤ 23 := by decide
    exact this x hx
  refine ⟨_, rfl, _, _, rfl, rfl, ⟨by decide, by decide⟩, _, _, rfl, rfl, (by show (0 : Int) < 3; decide), .inl (.inl ⟨_, _, _, _, rfl, rfl, SqL.of upd_same, hx1, _, _, rfl, rfl, hxb.1, ?_⟩)⟩
  have v0 := Int.emod_nonneg c (show x ≠ 0 by omega)
  have v1 := Int.emod_lt_of_pos c hxb.1
  dsimp only
  generalize c % x = mm at v0 v1 ⊢
  obtain ⟨mN, rfl⟩ := Int.eq_ofNat_of_zero_le v0
  have hm22 : mN ≤ 22 := by omega
  have Eg := Ext.lst (xs := [V.int 3, V.int 6, V.int 23]) hg
  refine ⟨_, rfl, a, ns, 5, rfl, Eg.s.seq hS, hl, _, rfl, _, mN, rfl, hm22, fun D nn hD hnl hnb => ?_⟩
  have hD0 : H D = none := Eg.s.free hD
  have E2 := Ext.lst (xs := nn.map V.str) hD
  have hE := Eg.trans E2
  refine ⟨_, rfl, a, ns, 6, rfl, hE.s.seq hS, hl, ?_⟩
  generalize ns.getD 6 0 = w
  have hN : NamesAt (upd (upd H g (HO.lst [V.int 3, V.int 6, V.int 23])) D (HO.lst (List.map V.str nn))) D nn mN 35 := ⟨upd_same, hnl, fun n hn => Nat.le_trans (hnb n hn) (by decide)⟩
  generalize upd (upd H g (HO.lst [V.int 3, V.int 6, V.int 23])) D (HO.lst (List.map V.str nn)) = H2 at hE hN ⊢
  refine ⟨_, rfl, _, _, rfl, rfl, _, rfl, iteD (fun cm => ?_) (fun cm => ?_)⟩
  · obtain ⟨ka, hka, eka⟩ := mod_nat (w / 7) mN (by omega)
    refine ⟨_, rfl, _, _, rfl, rfl, ⟨by decide, by decide⟩, _, rfl, _, _, rfl, rfl, (by omega), ?_⟩
    dsimp only
    rw [eka]
    refine ⟨_, rfl, _, _, rfl, rfl, (by show (0 : Int) < 7; decide), rfl, _, rfl, iteD (fun c1 => ?_) (fun c1 => ?_)⟩
    · obtain ⟨kb, hkb, ekb⟩ := mod_nat (w / 200) mN (by omega)
      obtain ⟨x, hxl, hxm, hat⟩ := hN.at hkb
      refine ⟨_, rfl, _, rfl, _, _, rfl, rfl, ⟨by decide, by decide⟩, _, rfl, _, _, rfl, rfl, (by omega), .inl (.inl ⟨_, _, _, _, rfl, rfl, SqL.of hN.1, (by rw [ekb]; exact hat), ?_⟩)⟩
      refine ⟨_, rfl, _, rfl, D, _, _, _, rfl, rfl, hN.1, (by rw [List.length_map, hN.2.1]; exact ixN_nat hka), ?_⟩
      have hE := hE.set hD0 hN.1 (l' := (nn.map V.str).set ka (.str x))
      have hN := hN.set (k := ka) (n := x) hxl
      generalize nn.set ka x = nn2 at hN
      generalize upd H2 D (HO.lst ((nn.map V.str).set ka (.str x))) = H3 at hE hN ⊢
      generalize nn2 = nn at hN
      refine ⟨_, rfl, _, _, rfl, rfl, (by show (0 : Int) < 7; decide), rfl, _, rfl, iteD (fun c2 => ?_) (fun c2 => ?_)⟩
      · obtain ⟨x, hx, hx1⟩ := atI_modG V.str [Str.ofString "", Str.ofString "abcdefghijklm", Str.ofString "abcdefghijkl"] (w / 200) 3 rfl (by decide)
        have hxl : x.length ≤ 13 := by
          have : ∀ y ∈ [Str.ofString "", Str.ofString "abcdefghijklm", Str.ofString "abcdefghijkl"], y.length ≤ 13 := by decide +kernel
          exact this x hx
        refine ⟨(by show 3 ≤ sizeLine; decide), fun g hg => ⟨_, rfl, _, _, rfl, rfl, ⟨by decide, by decide⟩, _, _, rfl, rfl, (by show (0 : Int) < 3; decide), .inl (.inl ⟨_, _, _, _, rfl, rfl, SqL.of upd_same, hx1, ?_⟩)⟩⟩
        have Eg := Ext.lst (xs := [V.str (Str.ofString ""), V.str (Str.ofString "abcdefghijklm"), V.str (Str.ofString "abcdefghijkl")]) hg
        have hE := hE.trans Eg
        have hN : NamesAt _ D nn mN 35 := ⟨Eg.s _ _ hN.1, hN.2⟩
        refine ⟨_, rfl, _, rfl, D, _, _, _, rfl, rfl, hN.1, (by rw [List.length_map, hN.2.1]; exact ixN_nat hka), ?_⟩
        have hE := hE.set hD0 hN.1 (l' := (nn.map V.str).set ka (.str x))
        have hN := hN.set (k := ka) (n := x) (by omega)
        generalize nn.set ka x = nn2 at hN
        generalize upd _ D (HO.lst ((nn.map V.str).set ka (.str x))) = H4 at hE hN ⊢
        generalize nn2 = nn at hN
        refine ⟨_, rfl, _, _, rfl, rfl, (by show (0 : Int) < 7; decide), rfl, _, rfl, iteD (fun c3 => ?_) (fun c3 => ?_)⟩
        · obtain ⟨old, ho1, ho2, hat⟩ := hN.at hka
          have lo : old.length ≤ sizeLine := small5 (by omega)
          refine ⟨_, rfl, _, _, rfl, rfl, ⟨by decide, by decide⟩, _, rfl, _, rfl, .inl (.inl ⟨_, _, _, _, rfl, rfl, SqL.of hN.1, hat, _, _, rfl, ⟨lo, rfl⟩, .inl ⟨_, _, rfl, rfl, _, _, rfl, rfl, (by omega), ?_⟩⟩)⟩
          obtain ⟨x, hx, hx1⟩ := atI_modG V.str [Str.ofString "A", Str.ofString "0", Str.ofString " ", Str.ofString "_"] (w / 2600) 4 rfl (by decide)
          have hxl : x.length = 1 := by
            have : ∀ y ∈ [Str.ofString "A", Str.ofString "0", Str.ofString " ", Str.ofString "_"], y.length = 1 := by decide +kernel
            exact this x hx
          dsimp only
          generalize w / 200 % (((old.length : Nat) : Int) + 1) = pl
          refine ⟨(by show 4 ≤ sizeLine; decide), fun g hg => ⟨_, rfl, _, _, rfl, rfl, ⟨by decide, by decide⟩, _, _, rfl, rfl, (by show (0 : Int) < 4; decide), .inl (.inl ⟨_, _, _, _, rfl, rfl, SqL.of upd_same, hx1, ?_⟩)⟩⟩
          have Eg := Ext.lst (xs := [V.str (Str.ofString "A"), V.str (Str.ofString "0"), V.str (Str.ofString " "), V.str (Str.ofString "_")]) hg
          have hE := hE.trans Eg
          have hN : NamesAt _ D nn mN 35 := ⟨Eg.s _ _ hN.1, hN.2⟩
          refine ⟨_, rfl, _, rfl, .inl (.inl ⟨_, _, _, _, rfl, rfl, SqL.of hN.1, hat, ?_⟩)⟩
          have b1 := slice_le old none (some pl)
          have b2 := slice_le old (some pl) none
          have b3 := slice_le (Txt.slice old (some pl) none) none (some (11 - pl))
          refine ⟨_, rfl, _, rfl, _, rfl, .inr ⟨_, rfl, lo, _, rfl, .inr ⟨_, _, rfl, rfl, small5 (by omega), ?_⟩⟩⟩
          refine ⟨_, rfl, _, rfl, _, rfl, .inr ⟨_, rfl, lo, _, rfl, _, _, rfl, rfl, _, rfl, .inr ⟨_, rfl, small5 (by omega), .inr ⟨_, _, rfl, rfl, small5 (by rw [app_len]; omega), ?_⟩⟩⟩⟩
          refine ⟨_, rfl, _, rfl, D, _, _, _, rfl, rfl, hN.1, (by rw [List.length_map, hN.2.1]; exact ixN_nat hka), ?_⟩
          have hE := hE.set hD0 hN.1 (l' := (nn.map V.str).set ka (.str ((Txt.slice old none (some pl) ++ x) ++ Txt.slice (Txt.slice old (some pl) none) none (some (11 - pl)))))
          have hN := (hN.mono (show 35 ≤ 100 by decide)).set (k := ka) (n := (Txt.slice old none (some pl) ++ x) ++ Txt.slice (Txt.slice old (some pl) none) none (some (11 - pl))) (by rw [app_len, app_len]; omega)
          generalize nn.set ka ((Txt.slice old none (some pl) ++ x) ++ Txt.slice (Txt.slice old (some pl) none) none (some (11 - pl))) = nn2 at hN
          generalize upd _ D (HO.lst ((nn.map V.str).set ka (.str ((Txt.slice old none (some pl) ++ x) ++ Txt.slice (Txt.slice old (some pl) none) none (some (11 - pl)))))) = H5 at hE hN ⊢
          generalize nn2 = nn at hN
          refine .inl ⟨_, rfl, D, rfl, ⟨_, SqL.of hN.1⟩, fun D2 hD2 => ?_⟩
          refine comp_listP (K := K) (a := D) (xs := nn.map V.str) (PrT CT D2 nn) (fun σ => ∃ z, σ = [z]) ?_ (by rw [List.length_map, hN.2.1]; omega) ⟨_, rfl⟩ hD2 (SqL.of hN.1) ?_ ?_
          · rintro i y H1 H2 hk ⟨T, o, d, rfl, n1, n2, e1, e2⟩
            exact ⟨T, o, d, rfl, n1, n2, hk _ _ n1 e1, hk _ _ n2 e2⟩
          · rintro i x hx σ1 H1 ⟨z, rfl⟩ hs1 ⟨l, hl1⟩ R hR
            rw [List.getElem?_map] at hx
            obtain ⟨nm, hnm, rfl⟩ := Option.map_eq_some_iff.mp hx
            refine ⟨_, rfl, fun o d ho hd hne => ⟨(by show 2 ≤ sizeLine; decide), fun T hT => ?_⟩⟩
            have E1 := Ext.made (C := CT) (fs := []) ho hd hne
            have E2 := Ext.tup (xs := [V.str nm, V.ref o]) hT
            have eo : upd (upd H1 d (.own o)) o (.ins CT d []) o = some (.ins CT d []) := upd_same
            refine hR _ _ _ ⟨_, rfl⟩ (E1.trans E2).s (E1.trans E2).c ⟨T, o, d, rfl, ?_, ?_, ?_, E2.s _ _ eo⟩
            · exact fun z => by have := E1.s _ _ hl1; rw [← z, hT] at this; cases this
            · exact fun z => by rw [z, hl1] at ho; cases ho
            · rw [upd_same, List.getD_eq_getElem?_getD, hnm]; rfl
          · intro ys H' hl' hs' hc' hD' hP'
            rw [List.length_map] at hl'
            obtain ⟨ps, rfl, hnm, hp⟩ := prT_parts ys hl' hP'
            have e := hE.trans ⟨hs', hc'⟩
            have hlp : ps.length = nn.length := by rw [← hnm]; unfold nms; rw [List.length_map]
            refine ⟨H', e.sub, q D2 ps H' e ⟨hD', fun x hx => (hp x hx).1, by rw [hlp, hN.2.1]; omega, fun x hx => hN.2.2 _ (by rw [← hnm]; exact List.mem_map.mpr ⟨x, hx, rfl⟩)⟩ fun f hf => ?_⟩
            obtain ⟨x, hx, rfl⟩ := List.mem_map.mp hf
            exact (hp x hx).2
        · have hN := hN.mono (show 35 ≤ 100 by decide)
          refine .inl ⟨_, rfl, D, rfl, ⟨_, SqL.of hN.1⟩, fun D2 hD2 => ?_⟩
          refine comp_listP (K := K) (a := D) (xs := nn.map V.str) (PrT CT D2 nn) (fun σ => ∃ z, σ = [z]) ?_ (by rw [List.length_map, hN.2.1]; omega) ⟨_, rfl⟩ hD2 (SqL.of hN.1) ?_ ?_
          · rintro i y H1 H2 hk ⟨T, o, d, rfl, n1, n2, e1, e2⟩
            exact ⟨T, o, d, rfl, n1, n2, hk _ _ n1 e1, hk _ _ n2 e2⟩
          · rintro i x hx σ1 H1 ⟨z, rfl⟩ hs1 ⟨l, hl1⟩ R hR
            rw [List.getElem?_map] at hx
            obtain ⟨nm, hnm, rfl⟩ := Option.map_eq_some_iff.mp hx
            refine ⟨_, rfl, fun o d ho hd hne => ⟨(by show 2 ≤ sizeLine; decide), fun T hT => ?_⟩⟩
            have E1 := Ext.made (C := CT) (fs := []) ho hd hne
            have E2 := Ext.tup (xs := [V.str nm, V.ref o]) hT
            have eo : upd (upd H1 d (.own o)) o (.ins CT d []) o = some (.ins CT d []) := upd_same
            refine hR _ _ _ ⟨_, rfl⟩ (E1.trans E2).s (E1.trans E2).c ⟨T, o, d, rfl, ?_, ?_, ?_, E2.s _ _ eo⟩
            · exact fun z => by have := E1.s _ _ hl1; rw [← z, hT] at this; cases this
            · exact fun z => by rw [z, hl1] at ho; cases ho
            · rw [upd_same, List.getD_eq_getElem?_getD, hnm]; rfl
          · intro ys H' hl' hs' hc' hD' hP'
            rw [List.length_map] at hl'
            obtain ⟨ps, rfl, hnm, hp⟩ := prT_parts ys hl' hP'
            have e := hE.trans ⟨hs', hc'⟩
            have hlp : ps.length = nn.length := by rw [← hnm]; unfold nms; rw [List.length_map]
            refine ⟨H', e.sub, q D2 ps H' e ⟨hD', fun x hx => (hp x hx).1, by rw [hlp, hN.2.1]; omega, fun x hx => hN.2.2 _ (by rw [← hnm]; exact List.mem_map.mpr ⟨x, hx, rfl⟩)⟩ fun f hf => ?_⟩
            obtain ⟨x, hx, rfl⟩ := List.mem_map.mp hf
            exact (hp x hx).2
      · skip
        refine ⟨_, rfl, _, _, rfl, rfl, (by show (0 : Int) < 7; decide), rfl, _, rfl, iteD (fun c3 => ?_) (fun c3 => ?_)⟩
        · obtain ⟨old, ho1, ho2, hat⟩ := hN.at hka
          have lo : old.length ≤ sizeLine := small5 (by omega)
          refine ⟨_, rfl, _, _, rfl, rfl, ⟨by decide, by decide⟩, _, rfl, _, rfl, .inl (.inl ⟨_, _, _, _, rfl, rfl, SqL.of hN.1, hat, _, _, rfl, ⟨lo, rfl⟩, .inl ⟨_, _, rfl, rfl, _, _, rfl, rfl, (by omega), ?_⟩⟩)⟩
          obtain ⟨x, hx, hx1⟩ := atI_modG V.str [Str.ofString "A", Str.ofString "0", Str.ofString " ", Str.ofString "_"] (w / 2600) 4 rfl (by decide)
          have hxl : x.length = 1 := by
            have : ∀ y ∈ [Str.ofString "A", Str.ofString "0", Str.ofString " ", Str.ofString "_"], y.length = 1 := by decide +kernel
            exact this x hx
          dsimp only
          generalize w / 200 % (((old.length : Nat) : Int) + 1) = pl
          refine ⟨(by show 4 ≤ sizeLine; decide), fun g hg => ⟨_, rfl, _, _, rfl, rfl, ⟨by decide, by decide⟩, _, _, rfl, rfl, (by show (0 : Int) < 4; decide), .inl (.inl ⟨_, _, _, _, rfl, rfl, SqL.of upd_same, hx1, ?_⟩)⟩⟩
          have Eg := Ext.lst (xs := [V.str (Str.ofString "A"), V.str (Str.ofString "0"), V.str (Str.ofString " "), V.str (Str.ofString "_")]) hg
          have hE := hE.trans Eg
          have hN : NamesAt _ D nn mN 35 := ⟨Eg.s _ _ hN.1, hN.2⟩
          refine ⟨_, rfl, _, rfl, .inl (.inl ⟨_, _, _, _, rfl, rfl, SqL.of hN.1, hat, ?_⟩)⟩
          have b1 := slice_le old none (some pl)
          have b2 := slice_le old (some pl) none
          have b3 := slice_le (Txt.slice old (some pl) none) none (some (11 - pl))
          refine ⟨_, rfl, _, rfl, _, rfl, .inr ⟨_, rfl, lo, _, rfl, .inr ⟨_, _, rfl, rfl, small5 (by omega), ?_⟩⟩⟩
          refine ⟨_, rfl, _, rfl, _, rfl, .inr ⟨_, rfl, lo, _, rfl, _, _, rfl, rfl, _, rfl, .inr ⟨_, rfl, small5 (by omega), .inr ⟨_, _, rfl, rfl, small5 (by rw [app_len]; omega), ?_⟩⟩⟩⟩
          refine ⟨_, rfl, _, rfl, D, _, _, _, rfl, rfl, hN.1, (by rw [List.length_map, hN.2.1]; exact ixN_nat hka), ?_⟩
          have hE := hE.set hD0 hN.1 (l' := (nn.map V.str).set ka (.str ((Txt.slice old none (some pl) ++ x) ++ Txt.slice (Txt.slice old (some pl) none) none (some (11 - pl)))))
          have hN := (hN.mono (show 35 ≤ 100 by decide)).set (k := ka) (n := (Txt.slice old none (some pl) ++ x) ++ Txt.slice (Txt.slice old (some pl) none) none (some (11 - pl))) (by rw [app_len, app_len]; omega)
          generalize nn.set ka ((Txt.slice old none (some pl) ++ x) ++ Txt.slice (Txt.slice old (some pl) none) none (some (11 - pl))) = nn2 at hN
          generalize upd _ D (HO.lst ((nn.map V.str).set ka (.str ((Txt.slice old none (some pl) ++ x) ++ Txt.slice (Txt.slice old (some pl) none) none (some (11 - pl)))))) = H5 at hE hN ⊢
          generalize nn2 = nn at hN
          refine .inl ⟨_, rfl, D, rfl, ⟨_, SqL.of hN.1⟩, fun D2 hD2 => ?_⟩
          refine comp_listP (K := K) (a := D) (xs := nn.map V.str) (PrT CT D2 nn) (fun σ => ∃ z, σ = [z]) ?_ (by rw [List.length_map, hN.2.1]; omega) ⟨_, rfl⟩ hD2 (SqL.of hN.1) ?_ ?_
          · rintro i y H1 H2 hk ⟨T, o, d, rfl, n1, n2, e1, e2⟩
            exact ⟨T, o, d, rfl, n1, n2, hk _ _ n1 e1, hk _ _ n2 e2⟩
          · rintro i x hx σ1 H1 ⟨z, rfl⟩ hs1 ⟨l, hl1⟩ R hR
            rw [List.getElem?_map] at hx
            obtain ⟨nm, hnm, rfl⟩ := Option.map_eq_some_iff.mp hx
            refine ⟨_, rfl, fun o d ho hd hne => ⟨(by show 2 ≤ sizeLine; decide), fun T hT => ?_⟩⟩
            have E1 := Ext.made (C := CT) (fs := []) ho hd hne
            have E2 := Ext.tup (xs := [V.str nm, V.ref o]) hT
            have eo : upd (upd H1 d (.own o)) o (.ins CT d []) o = some (.ins CT d []) := upd_same
            refine hR _ _ _ ⟨_, rfl⟩ (E1.trans E2).s (E1.trans E2).c ⟨T, o, d, rfl, ?_, ?_, ?_, E2.s _ _ eo⟩
            · exact fun z => by have := E1.s _ _ hl1; rw [← z, hT] at this; cases this
            · exact fun z => by rw [z, hl1] at ho; cases ho
            · rw [upd_same, List.getD_eq_getElem?_getD, hnm]; rfl
          · intro ys H' hl' hs' hc' hD' hP'
            rw [List.length_map] at hl'
            obtain ⟨ps, rfl, hnm, hp⟩ := prT_parts ys hl' hP'
            have e := hE.trans ⟨hs', hc'⟩
            have hlp : ps.length = nn.length := by rw [← hnm]; unfold nms; rw [List.length_map]
            refine ⟨H', e.sub, q D2 ps H' e ⟨hD', fun x hx => (hp x hx).1, by rw [hlp, hN.2.1]; omega, fun x hx => hN.2.2 _ (by rw [← hnm]; exact List.mem_map.mpr ⟨x, hx, rfl⟩)⟩ fun f hf => ?_⟩
            obtain ⟨x, hx, rfl⟩ := List.mem_map.mp hf
            exact (hp x hx).2
        · have hN := hN.mono (show 35 ≤ 100 by decide)
          refine .inl ⟨_, rfl, D, rfl, ⟨_, SqL.of hN.1⟩, fun D2 hD2 => ?_⟩
          refine comp_listP (K := K) (a := D) (xs := nn.map V.str) (PrT CT D2 nn) (fun σ => ∃ z, σ = [z]) ?_ (by rw [List.length_map, hN.2.1]; omega) ⟨_, rfl⟩ hD2 (SqL.of hN.1) ?_ ?_
          · rintro i y H1 H2 hk ⟨T, o, d, rfl, n1, n2, e1, e2⟩
            exact ⟨T, o, d, rfl, n1, n2, hk _ _ n1 e1, hk _ _ n2 e2⟩
          · rintro i x hx σ1 H1 ⟨z, rfl⟩ hs1 ⟨l, hl1⟩ R hR
            rw [List.getElem?_map] at hx
            obtain ⟨nm, hnm, rfl⟩ := Option.map_eq_some_iff.mp hx
            refine ⟨_, rfl, fun o d ho hd hne => ⟨(by show 2 ≤ sizeLine; decide), fun T hT => ?_⟩⟩
            have E1 := Ext.made (C := CT) (fs := []) ho hd hne
            have E2 := Ext.tup (xs := [V.str nm, V.ref o]) hT
            have eo : upd (upd H1 d (.own o)) o (.ins CT d []) o = some (.ins CT d []) := upd_same
            refine hR _ _ _ ⟨_, rfl⟩ (E1.trans E2).s (E1.trans E2).c ⟨T, o, d, rfl, ?_, ?_, ?_, E2.s _ _ eo⟩
            · exact fun z => by have := E1.s _ _ hl1; rw [← z, hT] at this; cases this
            · exact fun z => by rw [z, hl1] at ho; cases ho
            · rw [upd_same, List.getD_eq_getElem?_getD, hnm]; rfl
          · intro ys H' hl' hs' hc' hD' hP'
            rw [List.length_map] at hl'
            obtain ⟨ps, rfl, hnm, hp⟩ := prT_parts ys hl' hP'
            have e := hE.trans ⟨hs', hc'⟩
            have hlp : ps.length = nn.length := by rw [← hnm]; unfold nms; rw [List.length_map]
            refine ⟨H', e.sub, q D2 ps H' e ⟨hD', fun x hx => (hp x hx).1, by rw [hlp, hN.2.1]; omega, fun x hx => hN.2.2 _ (by rw [← hnm]; exact List.mem_map.mpr ⟨x, hx, rfl⟩)⟩ fun f hf => ?_⟩
            obtain ⟨x, hx, rfl⟩ := List.mem_map.mp hf
            exact (hp x hx).2
    · skip
      refine ⟨_, rfl, _, _, rfl, rfl, (by show (0 : Int) < 7; decide), rfl, _, rfl, iteD (fun c2 => ?_) (fun c2 => ?_)⟩
      · obtain ⟨x, hx, hx1⟩ := atI_modG V.str [Str.ofString "", Str.ofString "abcdefghijklm", Str.ofString "abcdefghijkl"] (w / 200) 3 rfl (by decide)
        have hxl : x.length ≤ 13 := by
          have : ∀ y ∈ [Str.ofString "", Str.ofString "abcdefghijklm", Str.ofString "abcdefghijkl"], y.length ≤ 13 := by decide +kernel
          exact this x hx
        refine ⟨(by show 3 ≤ sizeLine; decide), fun g hg => ⟨_, rfl, _, _, rfl, rfl, ⟨by decide, by decide⟩, _, _, rfl, rfl, (by show (0 : Int) < 3; decide), .inl (.inl ⟨_, _, _, _, rfl, rfl, SqL.of upd_same, hx1, ?_⟩)⟩⟩
        have Eg := Ext.lst (xs := [V.str (Str.ofString ""), V.str (Str.ofString "abcdefghijklm"), V.str (Str.ofString "abcdefghijkl")]) hg
        have hE := hE.trans Eg
        have hN : NamesAt _ D nn mN 35 := ⟨Eg.s _ _ hN.1, hN.2⟩
        refine ⟨_, rfl, _, rfl, D, _, _, _, rfl, rfl, hN.1, (by rw [List.length_map, hN.2.1]; exact ixN_nat hka), ?_⟩
        have hE := hE.set hD0 hN.1 (l' := (nn.map V.str).set ka (.str x))
        have hN := hN.set (k := ka) (n := x) (by omega)
        generalize nn.set ka x = nn2 at hN
        generalize upd _ D (HO.lst ((nn.map V.str).set ka (.str x))) = H4 at hE hN ⊢
        generalize nn2 = nn at hN
        refine ⟨_, rfl, _, _, rfl, rfl, (by show (0 : Int) < 7; decide), rfl, _, rfl, iteD (fun c3 => ?_) (fun c3 => ?_)⟩
        · obtain ⟨old, ho1, ho2, hat⟩ := hN.at hka
          have lo : old.length ≤ sizeLine := small5 (by omega)
          refine ⟨_, rfl, _, _, rfl, rfl, ⟨by decide, by decide⟩, _, rfl, _, rfl, .inl (.inl ⟨_, _, _, _, rfl, rfl, SqL.of hN.1, hat, _, _, rfl, ⟨lo, rfl⟩, .inl ⟨_, _, rfl, rfl, _, _, rfl, rfl, (by omega), ?_⟩⟩)⟩
          obtain ⟨x, hx, hx1⟩ := atI_modG V.str [Str.ofString "A", Str.ofString "0", Str.ofString " ", Str.ofString "_"] (w / 2600) 4 rfl (by decide)
          have hxl : x.length = 1 := by
            have : ∀ y ∈ [Str.ofString "A", Str.ofString "0", Str.ofString " ", Str.ofString "_"], y.length = 1 := by decide +kernel
            exact this x hx
          dsimp only
          generalize w / 200 % (((old.length : Nat) : Int) + 1) = pl
          refine ⟨(by show 4 ≤ sizeLine; decide), fun g hg => ⟨_, rfl, _, _, rfl, rfl, ⟨by decide, by decide⟩, _, _, rfl, rfl, (by show (0 : Int) < 4; decide), .inl (.inl ⟨_, _, _, _, rfl, rfl, SqL.of upd_same, hx1, ?_⟩)⟩⟩
          have Eg := Ext.lst (xs := [V.str (Str.ofString "A"), V.str (Str.ofString "0"), V.str (Str.ofString " "), V.str (Str.ofString "_")]) hg
          have hE := hE.trans Eg
          have hN : NamesAt _ D nn mN 35 := ⟨Eg.s _ _ hN.1, hN.2⟩
          refine ⟨_, rfl, _, rfl, .inl (.inl ⟨_, _, _, _, rfl, rfl, SqL.of hN.1, hat, ?_⟩)⟩
          have b1 := slice_le old none (some pl)
          have b2 := slice_le old (some pl) none
          have b3 := slice_le (Txt.slice old (some pl) none) none (some (11 - pl))
          refine ⟨_, rfl, _, rfl, _, rfl, .inr ⟨_, rfl, lo, _, rfl, .inr ⟨_, _, rfl, rfl, small5 (by omega), ?_⟩⟩⟩
          refine ⟨_, rfl, _, rfl, _, rfl, .inr ⟨_, rfl, lo, _, rfl, _, _, rfl, rfl, _, rfl, .inr ⟨_, rfl, small5 (by omega), .inr ⟨_, _, rfl, rfl, small5 (by rw [app_len]; omega), ?_⟩⟩⟩⟩
          refine ⟨_, rfl, _, rfl, D, _, _, _, rfl, rfl, hN.1, (by rw [List.length_map, hN.2.1]; exact ixN_nat hka), ?_⟩
          have hE := hE.set hD0 hN.1 (l' := (nn.map V.str).set ka (.str ((Txt.slice old none (some pl) ++ x) ++ Txt.slice (Txt.slice old (some pl) none) none (some (11 - pl)))))
          have hN := (hN.mono (show 35 ≤ 100 by decide)).set (k := ka) (n := (Txt.slice old none (some pl) ++ x) ++ Txt.slice (Txt.slice old (some pl) none) none (some (11 - pl))) (by rw [app_len, app_len]; omega)
          generalize nn.set ka ((Txt.slice old none (some pl) ++ x) ++ Txt.slice (Txt.slice old (some pl) none) none (some (11 - pl))) = nn2 at hN
          generalize upd _ D (HO.lst ((nn.map V.str).set ka (.str ((Txt.slice old none (some pl) ++ x) ++ Txt.slice (Txt.slice old (some pl) none) none (some (11 - pl)))))) = H5 at hE hN ⊢
          generalize nn2 = nn at hN
          refine .inl ⟨_, rfl, D, rfl, ⟨_, SqL.of hN.1⟩, fun D2 hD2 => ?_⟩
          refine comp_listP (K := K) (a := D) (xs := nn.map V.str) (PrT CT D2 nn) (fun σ => ∃ z, σ = [z]) ?_ (by rw [List.length_map, hN.2.1]; omega) ⟨_, rfl⟩ hD2 (SqL.of hN.1) ?_ ?_
          · rintro i y H1 H2 hk ⟨T, o, d, rfl, n1, n2, e1, e2⟩
            exact ⟨T, o, d, rfl, n1, n2, hk _ _ n1 e1, hk _ _ n2 e2⟩
          · rintro i x hx σ1 H1 ⟨z, rfl⟩ hs1 ⟨l, hl1⟩ R hR
            rw [List.getElem?_map] at hx
            obtain ⟨nm, hnm, rfl⟩ := Option.map_eq_some_iff.mp hx
            refine ⟨_, rfl, fun o d ho hd hne => ⟨(by show 2 ≤ sizeLine; decide), fun T hT => ?_⟩⟩
            have E1 := Ext.made (C := CT) (fs := []) ho hd hne
            have E2 := Ext.tup (xs := [V.str nm, V.ref o]) hT
            have eo : upd (upd H1 d (.own o)) o (.ins CT d []) o = some (.ins CT d []) := upd_same
            refine hR _ _ _ ⟨_, rfl⟩ (E1.trans E2).s (E1.trans E2).c ⟨T, o, d, rfl, ?_, ?_, ?_, E2.s _ _ eo⟩
            · exact fun z => by have := E1.s _ _ hl1; rw [← z, hT] at this; cases this
            · exact fun z => by rw [z, hl1] at ho; cases ho
            · rw [upd_same, List.getD_eq_getElem?_getD, hnm]; rfl
          · intro ys H' hl' hs' hc' hD' hP'
            rw [List.length_map] at hl'
            obtain ⟨ps, rfl, hnm, hp⟩ := prT_parts ys hl' hP'
            have e := hE.trans ⟨hs', hc'⟩
            have hlp : ps.length = nn.length := by rw [← hnm]; unfold nms; rw [List.length_map]
            refine ⟨H', e.sub, q D2 ps H' e ⟨hD', fun x hx => (hp x hx).1, by rw [hlp, hN.2.1]; omega, fun x hx => hN.2.2 _ (by rw [← hnm]; exact List.mem_map.mpr ⟨x, hx, rfl⟩)⟩ fun f hf => ?_⟩
            obtain ⟨x, hx, rfl⟩ := List.mem_map.mp hf
            exact (hp x hx).2
        · have hN := hN.mono (show 35 ≤ 100 by decide)
          refine .inl ⟨_, rfl, D, rfl, ⟨_, SqL.of hN.1⟩, fun D2 hD2 => ?_⟩
          refine comp_listP (K := K) (a := D) (xs := nn.map V.str) (PrT CT D2 nn) (fun σ => ∃ z, σ = [z]) ?_ (by rw [List.length_map, hN.2.1]; omega) ⟨_, rfl⟩ hD2 (SqL.of hN.1) ?_ ?_
          · rintro i y H1 H2 hk ⟨T, o, d, rfl, n1, n2, e1, e2⟩
            exact ⟨T, o, d, rfl, n1, n2, hk _ _ n1 e1, hk _ _ n2 e2⟩
          · rintro i x hx σ1 H1 ⟨z, rfl⟩ hs1 ⟨l, hl1⟩ R hR
            rw [List.getElem?_map] at hx
            obtain ⟨nm, hnm, rfl⟩ := Option.map_eq_some_iff.mp hx
            refine ⟨_, rfl, fun o d ho hd hne => ⟨(by show 2 ≤ sizeLine; decide), fun T hT => ?_⟩⟩
            have E1 := Ext.made (C := CT) (fs := []) ho hd hne
            have E2 := Ext.tup (xs := [V.str nm, V.ref o]) hT
            have eo : upd (upd H1 d (.own o)) o (.ins CT d []) o = some (.ins CT d []) := upd_same
            refine hR _ _ _ ⟨_, rfl⟩ (E1.trans E2).s (E1.trans E2).c ⟨T, o, d, rfl, ?_, ?_, ?_, E2.s _ _ eo⟩
            · exact fun z => by have := E1.s _ _ hl1; rw [← z, hT] at this; cases this
            · exact fun z => by rw [z, hl1] at ho; cases ho
            · rw [upd_same, List.getD_eq_getElem?_getD, hnm]; rfl
          · intro ys H' hl' hs' hc' hD' hP'
            rw [List.length_map] at hl'
            obtain ⟨ps, rfl, hnm, hp⟩ := prT_parts ys hl' hP'
            have e := hE.trans ⟨hs', hc'⟩
            have hlp : ps.length = nn.length := by rw [← hnm]; unfold nms; rw [List.length_map]
            refine ⟨H', e.sub, q D2 ps H' e ⟨hD', fun x hx => (hp x hx).1, by rw [hlp, hN.2.1]; omega, fun x hx => hN.2.2 _ (by rw [← hnm]; exact List.mem_map.mpr ⟨x, hx, rfl⟩)⟩ fun f hf => ?_⟩
            obtain ⟨x, hx, rfl⟩ := List.mem_map.mp hf
            exact (hp x hx).2
      · skip
        refine ⟨_, rfl, _, _, rfl, rfl, (by show (0 : Int) < 7; decide), rfl, _, rfl, iteD (fun c3 => ?_) (fun c3 => ?_)⟩
        · obtain ⟨old, ho1, ho2, hat⟩ := hN.at hka
          have lo : old.length ≤ sizeLine := small5 (by omega)
          refine ⟨_, rfl, _, _, rfl, rfl, ⟨by decide, by decide⟩, _, rfl, _, rfl, .inl (.inl ⟨_, _, _, _, rfl, rfl, SqL.of hN.1, hat, _, _, rfl, ⟨lo, rfl⟩, .inl ⟨_, _, rfl, rfl, _, _, rfl, rfl, (by omega), ?_⟩⟩)⟩
          obtain ⟨x, hx, hx1⟩ := atI_modG V.str [Str.ofString "A", Str.ofString "0", Str.ofString " ", Str.ofString "_"] (w / 2600) 4 rfl (by decide)
          have hxl : x.length = 1 := by
            have : ∀ y ∈ [Str.ofString "A", Str.ofString "0", Str.ofString " ", Str.ofString "_"], y.length = 1 := by decide +kernel
            exact this x hx
          dsimp only
          generalize w / 200 % (((old.length : Nat) : Int) + 1) = pl
          refine ⟨(by show 4 ≤ sizeLine; decide), fun g hg => ⟨_, rfl, _, _, rfl, rfl, ⟨by decide, by decide⟩, _, _, rfl, rfl, (by show (0 : Int) < 4; decide), .inl (.inl ⟨_, _, _, _, rfl, rfl, SqL.of upd_same, hx1, ?_⟩)⟩⟩
          have Eg := Ext.lst (xs := [V.str (Str.ofString "A"), V.str (Str.ofString "0"), V.str (Str.ofString " "), V.str (Str.ofString "_")]) hg
          have hE := hE.trans Eg
          have hN : NamesAt _ D nn mN 35 := ⟨Eg.s _ _ hN.1, hN.2⟩
          refine ⟨_, rfl, _, rfl, .inl (.inl ⟨_, _, _, _, rfl, rfl, SqL.of hN.1, hat, ?_⟩)⟩
          have b1 := slice_le old none (some pl)
          have b2 := slice_le old (some pl) none
          have b3 := slice_le (Txt.slice old (some pl) none) none (some (11 - pl))
          refine ⟨_, rfl, _, rfl, _, rfl, .inr ⟨_, rfl, lo, _, rfl, .inr ⟨_, _, rfl, rfl, small5 (by omega), ?_⟩⟩⟩
          refine ⟨_, rfl, _, rfl, _, rfl, .inr ⟨_, rfl, lo, _, rfl, _, _, rfl, rfl, _, rfl, .inr ⟨_, rfl, small5 (by omega), .inr ⟨_, _, rfl, rfl, small5 (by rw [app_len]; omega), ?_⟩⟩⟩⟩
          refine ⟨_, rfl, _, rfl, D, _, _, _, rfl, rfl, hN.1, (by rw [List.length_map, hN.2.1]; exact ixN_nat hka), ?_⟩
          have hE := hE.set hD0 hN.1 (l' := (nn.map V.str).set ka (.str ((Txt.slice old none (some pl) ++ x) ++ Txt.slice (Txt.slice old (some pl) none) none (some (11 - pl)))))
          have hN := (hN.mono (show 35 ≤ 100 by decide)).set (k := ka) (n := (Txt.slice old none (some pl) ++ x) ++ Txt.slice (Txt.slice old (some pl) none) none (some (11 - pl))) (by rw [app_len, app_len]; omega)
          generalize nn.set ka ((Txt.slice old none (some pl) ++ x) ++ Txt.slice (Txt.slice old (some pl) none) none (some (11 - pl))) = nn2 at hN
          generalize upd _ D (HO.lst ((nn.map V.str).set ka (.str ((Txt.slice old none (some pl) ++ x) ++ Txt.slice (Txt.slice old (some pl) none) none (some (11 - pl)))))) = H5 at hE hN ⊢
          generalize nn2 = nn at hN
          refine .inl ⟨_, rfl, D, rfl, ⟨_, SqL.of hN.1⟩, fun D2 hD2 => ?_⟩
          refine comp_listP (K := K) (a := D) (xs := nn.map V.str) (PrT CT D2 nn) (fun σ => ∃ z, σ = [z]) ?_ (by rw [List.length_map, hN.2.1]; omega) ⟨_, rfl⟩ hD2 (SqL.of hN.1) ?_ ?_
          · rintro i y H1 H2 hk ⟨T, o, d, rfl, n1, n2, e1, e2⟩
            exact ⟨T, o, d, rfl, n1, n2, hk _ _ n1 e1, hk _ _ n2 e2⟩
          · rintro i x hx σ1 H1 ⟨z, rfl⟩ hs1 ⟨l, hl1⟩ R hR
            rw [List.getElem?_map] at hx
            obtain ⟨nm, hnm, rfl⟩ := Option.map_eq_some_iff.mp hx
            refine ⟨_, rfl, fun o d ho hd hne => ⟨(by show 2 ≤ sizeLine; decide), fun T hT => ?_⟩⟩
            have E1 := Ext.made (C := CT) (fs := []) ho hd hne
            have E2 := Ext.tup (xs := [V.str nm, V.ref o]) hT
            have eo : upd (upd H1 d (.own o)) o (.ins CT d []) o = some (.ins CT d []) := upd_same
            refine hR _ _ _ ⟨_, rfl⟩ (E1.trans E2).s (E1.trans E2).c ⟨T, o, d, rfl, ?_, ?_, ?_, E2.s _ _ eo⟩
            · exact fun z => by have := E1.s _ _ hl1; rw [← z, hT] at this; cases this
            · exact fun z => by rw [z, hl1] at ho; cases ho
            · rw [upd_same, List.getD_eq_getElem?_getD, hnm]; rfl
          · intro ys H' hl' hs' hc' hD' hP'
            rw [List.length_map] at hl'
            obtain ⟨ps, rfl, hnm, hp⟩ := prT_parts ys hl' hP'
            have e := hE.trans ⟨hs', hc'⟩
            have hlp : ps.length = nn.length := by rw [← hnm]; unfold nms; rw [List.length_map]
            refine ⟨H', e.sub, q D2 ps H' e ⟨hD', fun x hx => (hp x hx).1, by rw [hlp, hN.2.1]; omega, fun x hx => hN.2.2 _ (by rw [← hnm]; exact List.mem_map.mpr ⟨x, hx, rfl⟩)⟩ fun f hf => ?_⟩
            obtain ⟨x, hx, rfl⟩ := List.mem_map.mp hf
            exact (hp x hx).2
        · have hN := hN.mono (show 35 ≤ 100 by decide)
          refine .inl ⟨_, rfl, D, rfl, ⟨_, SqL.of hN.1⟩, fun D2 hD2 => ?_⟩
          refine comp_listP (K := K) (a := D) (xs := nn.map V.str) (PrT CT D2 nn) (fun σ => ∃ z, σ = [z]) ?_ (by rw [List.length_map, hN.2.1]; omega) ⟨_, rfl⟩ hD2 (SqL.of hN.1) ?_ ?_
          · rintro i y H1 H2 hk ⟨T, o, d, rfl, n1, n2, e1, e2⟩
            exact ⟨T, o, d, rfl, n1, n2, hk _ _ n1 e1, hk _ _ n2 e2⟩
          · rintro i x hx σ1 H1 ⟨z, rfl⟩ hs1 ⟨l, hl1⟩ R hR
            rw [List.getElem?_map] at hx
            obtain ⟨nm, hnm, rfl⟩ := Option.map_eq_some_iff.mp hx
            refine ⟨_, rfl, fun o d ho hd hne => ⟨(by show 2 ≤ sizeLine; decide), fun T hT => ?_⟩⟩
            have E1 := Ext.made (C := CT) (fs := []) ho hd hne
            have E2 := Ext.tup (xs := [V.str nm, V.ref o]) hT
            have eo : upd (upd H1 d (.own o)) o (.ins CT d []) o = some (.ins CT d []) := upd_same
            refine hR _ _ _ ⟨_, rfl⟩ (E1.trans E2).s (E1.trans E2).c ⟨T, o, d, rfl, ?_, ?_, ?_, E2.s _ _ eo⟩
            · exact fun z => by have := E1.s _ _ hl1; rw [← z, hT] at this; cases this
            · exact fun z => by rw [z, hl1] at ho; cases ho
            · rw [upd_same, List.getD_eq_getElem?_getD, hnm]; rfl
          · intro ys H' hl' hs' hc' hD' hP'
            rw [List.length_map] at hl'
            obtain ⟨ps, rfl, hnm, hp⟩ := prT_parts ys hl' hP'
            have e := hE.trans ⟨hs', hc'⟩
            have hlp : ps.length = nn.length := by rw [← hnm]; unfold nms; rw [List.length_map]
            refine ⟨H', e.sub, q D2 ps H' e ⟨hD', fun x hx => (hp x hx).1, by rw [hlp, hN.2.1]; omega, fun x hx => hN.2.2 _ (by rw [← hnm]; exact List.mem_map.mpr ⟨x, hx, rfl⟩)⟩ fun f hf => ?_⟩
            obtain ⟨x, hx, rfl⟩ := List.mem_map.mp hf
            exact (hp x hx).2
  · have hN := hN.mono (show 35 ≤ 100 by decide)
    refine .inl ⟨_, rfl, D, rfl, ⟨_, SqL.of hN.1⟩, fun D2 hD2 => ?_⟩
    refine comp_listP (K := K) (a := D) (xs := nn.map V.str) (PrT CT D2 nn) (fun σ => ∃ z, σ = [z]) ?_ (by rw [List.length_map, hN.2.1]; omega) ⟨_, rfl⟩ hD2 (SqL.of hN.1) ?_ ?_
    · rintro i y H1 H2 hk ⟨T, o, d, rfl, n1, n2, e1, e2⟩
      exact ⟨T, o, d, rfl, n1, n2, hk _ _ n1 e1, hk _ _ n2 e2⟩
    · rintro i x hx σ1 H1 ⟨z, rfl⟩ hs1 ⟨l, hl1⟩ R hR
      rw [List.getElem?_map] at hx
      obtain ⟨nm, hnm, rfl⟩ := Option.map_eq_some_iff.mp hx
      refine ⟨_, rfl, fun o d ho hd hne => ⟨(by show 2 ≤ sizeLine; decide), fun T hT => ?_⟩⟩
      have E1 := Ext.made (C := CT) (fs := []) ho hd hne
      have E2 := Ext.tup (xs := [V.str nm, V.ref o]) hT
      have eo : upd (upd H1 d (.own o)) o (.ins CT d []) o = some (.ins CT d []) := upd_same
      refine hR _ _ _ ⟨_, rfl⟩ (E1.trans E2).s (E1.trans E2).c ⟨T, o, d, rfl, ?_, ?_, ?_, E2.s _ _ eo⟩
      · exact fun z => by have := E1.s _ _ hl1; rw [← z, hT] at this; cases this
      · exact fun z => by rw [z, hl1] at ho; cases ho
      · rw [upd_same, List.getD_eq_getElem?_getD, hnm]; rfl
    · intro ys H' hl' hs' hc' hD' hP'
      rw [List.length_map] at hl'
      obtain ⟨ps, rfl, hnm, hp⟩ := prT_parts ys hl' hP'
      have e := hE.trans ⟨hs', hc'⟩
      have hlp : ps.length = nn.length := by rw [← hnm]; unfold nms; rw [List.length_map]
      refine ⟨H', e.sub, q D2 ps H' e ⟨hD', fun x hx => (hp x hx).1, by rw [hlp, hN.2.1]; omega, fun x hx => hN.2.2 _ (by rw [← hnm]; exact List.mem_map.mpr ⟨x, hx, rfl⟩)⟩ fun f hf => ?_⟩
      obtain ⟨x, hx, rfl⟩ := List.mem_map.mp hf
      exact (hp x hx).2

-- s_law_good s_law
theorem made_filter (t s : Str) : ((t.cps.toList.filter fun c => !decide (c ∈ s.cps.toList)).length = 0) ↔ madeOf t s = true := by
  unfold madeOf
  rw [List.length_eq_zero_iff, List.filter_eq_nil_iff, List.all_eq_true]
  constructor
  · intro h c hc
    have := h c hc
    simpa using this
  · intro h c hc
    have := h c hc
    simpa using this
def spNamed : Sp := fun vs H Q _ => ∃ p ps, vs = [.ref p] ∧ Parts H p ps ∧ Q (.bl (goodNames (nms ps))) H
theorem ok_law_named {f : Addr} {fd : FuncData} (nb : NB mg) (F : FunAt K mg "_law_named" s_law_named ["_law_parts_here"] f fd) : DefOk P w K mg base 1 "_law_named" ["_law_parts_here"] spNamed := by
  refine F.ok sc_law_named (fun vs H Q E h => ?_) (fun cdv A outer s H vs Q E hr h => ?_)
  · obtain ⟨_, _, rfl, _⟩ := h; rfl
  obtain ⟨p, ps, rfl, hP, q⟩ := h
  refine ⟨_, (pss_cons (ps_setComp (i := 1)  ["_law_name", "_law_form"] [] sc_law_named.nd rfl rfl rfl (by decide +kernel) trivial (piAll (pv 0)) (fun _ _ _ _ _ => (pg_tup rfl (pgs_cons (pg_name (i := 0) (show (["_law_name", "_law_form"] : List Str).Nodup by decide +kernel) rfl (by first | exact Or.inl rfl | exact Or.inr rfl)) (pgs_cons (pg_name (i := 1) (show (["_law_name", "_law_form"] : List Str).Nodup by decide +kernel) rfl (by first | exact Or.inl rfl | exact Or.inr rfl)) pgs_nil)))) (fun _ _ _ _ _ => pts_nil) (fun _ _ _ _ _ => (pv 0)))
    (pss_cons (ps_set (i := 2) sc_law_named.nd rfl (by first | exact Or.inl rfl | exact Or.inr rfl) (pe_callB call_len rfl nb.len_ bo_len (pa_cons (pv 1) pa_nil)))
    (pss_cons (ps_if (PW.pt (pw_or (pt_cmpR oEq (pv 2) pe_int (nomark _)) (pw_or (pt_cmpR oGt (pv 2) pe_int (nomark _)) (pw_or1 (pt_cmpR oLt (pe_lenset rfl rfl nb.len_ rfl nb.set_ (pv 1)) (pv 2) (nomark _)))))) (pss_one (ps_ret pe_bl)) pss_nil)
    (pss_cons (ps_for PassesOwn.never rfl (piAll (pv 1)) (pg_name (i := 3) sc_law_named.nd rfl (by first | exact Or.inl rfl | exact Or.inr rfl))
      (pss_cons (ps_if (PW.pt (pw_or (pt_cmpR oEq (pe_callB call_len rfl nb.len_ bo_len (pa_cons (pv 3) pa_nil)) pe_int (nomark _)) (pw_or1 (pt_cmpR oGt (pe_callB call_len rfl nb.len_ bo_len (pa_cons (pv 3) pa_nil)) pe_int (nomark _))))) (pss_one (ps_ret pe_bl)) pss_nil)
      (pss_one (ps_if (pt_cmpR oGt (pe_callB call_len rfl nb.len_ bo_len (pa_cons (pe_comp ["_law_sign"] [] rfl (by decide +kernel) trivial (piAll (pv 3)) (fun _ _ _ _ _ => (pg_name (i := 0) (show (["_law_sign"] : List Str).Nodup by decide +kernel) rfl (by first | exact Or.inl rfl | exact Or.inr rfl))) (fun _ _ _ _ _ => (pts_one (pt_cmpR op_notIn_str (pv 0) pe_str (by with_unfolding_all rfl)))) (fun _ _ _ _ _ => (pv 0))) pa_nil)) pe_int (nomark _)) (pss_one (ps_ret pe_bl)) pss_nil))))
    (pss_one (ps_ret pe_bl)))))), ?_⟩
  refine .inl ⟨_, rfl, p, rfl, ⟨_, SqL.of hP.l⟩, fun D hD => ?_⟩
  refine comp_listI (K := K) (a := p) (xs := ps.map fun x => V.ref x.1) (fun i => V.str ((nms ps).getD i Str.empty)) (fun σ => ∃ z1 z2, σ = [z1, z2]) (by rw [List.length_map]; exact small5 (by have := hP.n; omega)) ⟨_, _, rfl⟩ hD (SqL.of hP.l) ?_ ?_
  · rintro i x hx σ1 H1 ⟨z1, z2, rfl⟩ hs1 R hR
    rw [List.getElem?_map] at hx
    obtain ⟨y, hy, rfl⟩ := Option.map_eq_some_iff.mp hx
    have hm := List.mem_of_getElem? hy
    have e : (nms ps).getD i Str.empty = y.2.1 := by unfold nms; rw [List.getD_eq_getElem?_getD, List.getElem?_map, hy]; rfl
    rw [e] at hR
    exact ⟨_, _, rfl, SqT.of (hs1 _ _ (hP.t y hm)), rfl, _, _, rfl, _, _, rfl, rfl, _, rfl, hR _ ⟨_, _, rfl⟩⟩
  have en : (List.range (ps.map fun x => V.ref x.1).length).map (fun i => V.str ((nms ps).getD i Str.empty)) = (nms ps).map V.str := by
    have h0 := names_range (nms ps)
    rw [show (ps.map fun x => V.ref x.1).length = (nms ps).length by unfold nms; rw [List.length_map, List.length_map]]
    exact h0
  rw [en]
  have hlN : (nms ps).length ≤ 30 := by unfold nms; rw [List.length_map]; exact hP.n
  have hbN : ∀ n, n ∈ nms ps → n.length ≤ 100 := fun n hn => by
    obtain ⟨x, hx, rfl⟩ := List.mem_map.mp hn
    exact hP.b x hx
  have hSq : SqL K (upd H D (.lst ((nms ps).map V.str))) D ((nms ps).map V.str) := SqL.of upd_same
  have hs0 := same_new (o := HO.lst ((nms ps).map V.str)) hD
  have hds := dsN_le (nms ps)
  generalize upd H D (.lst ((nms ps).map V.str)) = H1 at hSq hs0 ⊢
  generalize nms ps = ns at *
  unfold goodNames at q
  refine ⟨_, rfl, _, _, rfl, .inl ⟨_, hSq, rfl⟩, ?_⟩
  rw [List.length_map]
  refine ⟨_, rfl, rfl, _, rfl, iteD (fun c0 => ?_) (fun c0 => ?_)⟩
  · rw [decide_eq_false (fun z => z.1 (by have := V.int.inj c0; omega)), Bool.false_and] at q
    exact ⟨H, .refl hs0, q⟩
  have c0' : ns.length ≠ 0 := fun z => c0 (by rw [z]; rfl)
  refine ⟨_, rfl, _, _, rfl, rfl, _, rfl, iteD (fun c1 => ?_) (fun c1 => ?_)⟩
  · rw [decide_eq_false (fun z => by have := z.2.1; omega), Bool.false_and] at q
    exact ⟨H, .refl hs0, q⟩
  refine ⟨_, rfl, _, _, texts_names hSq, (by unfold scanBound; omega), _, rfl, .inl ⟨_, _, rfl, rfl, _, rfl, iteD (fun c2 => ?_) (fun c2 => ?_)⟩⟩
  · have c2' : (((dsN ns : Nat) : Int) < ((ns.length : Nat) : Int)) := c2
    rw [decide_eq_false (fun z => by have := z.2.2; omega), Bool.false_and] at q
    exact ⟨H, .refl hs0, q⟩
  have c2' : ¬ (((dsN ns : Nat) : Int) < ((ns.length : Nat) : Int)) := c2
  rw [decide_eq_true ⟨c0', by omega, by omega⟩, Bool.true_and] at q
  refine .inl ⟨_, rfl, D, rfl, ⟨_, hSq⟩, ?_⟩
  refine for_list (xs := ns.map V.str) (fun i σ H2 => Same H1 H2 ∧ (∃ z1 z2, σ = [some (.ref p), z1, z2, none] ∨ ∃ z3, σ = [some (.ref p), z1, z2, some z3]) ∧ ∀ j (hj : j < ns.length), j < i → isName ns[j] = true) ?_ ?_ ?_ ?_
  · exact ⟨Same.refl _, ⟨_, _, .inl rfl⟩, fun j hj z => absurd z (Nat.not_lt_zero _)⟩
  · rintro i σ H2 hi ⟨hs, _⟩
    exact hs.seq hSq
  · rintro i x σ H2 hx ⟨hs, hσ, hj⟩
    rw [List.getElem?_map] at hx
    obtain ⟨nm, hnm, rfl⟩ := Option.map_eq_some_iff.mp hx
    obtain ⟨hil, enm⟩ := List.getElem?_eq_some_iff.mp hnm
    have hb := hbN nm (List.mem_of_getElem? hnm)
    have ln : nm.length ≤ sizeLine := small5 (by omega)
    have bad : isName nm = false → ∀ H3, Same H H3 → ∃ H'', L2.Sub H H'' H3 ∧ Q (.bl false) H'' := fun hb H3 h3 => by
      have : ns.all isName = false := by
        rw [List.all_eq_false]
        exact ⟨nm, List.mem_of_getElem? hnm, by rw [hb]; decide⟩
      rw [this] at q
      exact ⟨H, .refl h3, q⟩
    obtain ⟨z1, z2, rfl | ⟨z3, rfl⟩⟩ := hσ
    · refine ⟨_, rfl, _, _, rfl, ⟨ln, rfl⟩, rfl, _, rfl, iteD (fun d0 => ?_) (fun d0 => ?_)⟩
      · exact bad (by unfold isName; rw [decide_eq_false (fun z => by have := V.int.inj d0; omega)]; rfl) H2 (hs0.trans hs)
      have d0' : nm.length ≠ 0 := fun z => d0 (by rw [z]; rfl)
      refine ⟨_, rfl, _, _, rfl, ⟨ln, rfl⟩, _, _, rfl, rfl, _, rfl, iteD (fun d1 => ?_) (fun d1 => ?_)⟩
      · exact bad (by unfold isName; rw [decide_eq_false (fun z => by omega)]; rfl) H2 (hs0.trans hs)
      refine .inr ⟨_, rfl, nm, rfl, fun D3 hD3 => ?_⟩
      refine comp_strF (fun c => !decide (c ∈ L26.cps.toList)) (fun c => .str ⟨#[c]⟩) (fun σ => ∃ z, σ = [z]) ln ⟨_, rfl⟩ hD3 ?_ ?_
      · rintro c hc σ1 H1 ⟨z, rfl⟩ hs1 R R' hR
        refine ⟨_, rfl, _, _, rfl, rfl, _, rfl, ?_⟩
        have e := StrLaws.found_one L26 c
        rw [show (Builtin.Str.occurrences (Str.ofString "abcdefghijklmnopqrstuvwxyz") ⟨#[c]⟩ 0 (Str.ofString "abcdefghijklmnopqrstuvwxyz").length 1) = Builtin.Str.occurrences L26 ⟨#[c]⟩ 0 L26.length 1 from rfl, e]
        have hR := hR [some (.str ⟨#[c]⟩)] ⟨_, rfl⟩
        generalize (!decide (c ∈ L26.cps.toList)) = bb at hR ⊢
        cases bb with
        | true => exact iteT ⟨_, rfl, hR⟩
        | false => exact iteF hR
      · have hmf := made_filter nm L26
        refine ⟨_, _, rfl, .inl ⟨_, SqL.of upd_same, rfl⟩, _, _, rfl, rfl, _, rfl, ?_⟩
        rw [List.length_map]
        refine iteD (fun d2 => ?_) (fun d2 => ?_)
        · refine bad (by unfold isName; cases hmm : madeOf nm L26 with | false => rw [Bool.and_false] | true => have := hmf.mpr hmm; omega) _ ((hs0.trans hs).trans (same_new hD3))
        · refine ⟨hs.trans (same_new hD3), ⟨_, _, .inr ⟨_, rfl⟩⟩, fun j hj1 hj2 => ?_⟩
          rcases Nat.lt_or_ge j i with z | z
          · exact hj j hj1 z
          · have : j = i := by omega
            subst this
            rw [enm]
            unfold isName
            rw [decide_eq_true ⟨by omega, by omega⟩, hmf.mp (by omega)]; rfl
    · refine ⟨_, rfl, _, _, rfl, ⟨ln, rfl⟩, rfl, _, rfl, iteD (fun d0 => ?_) (fun d0 => ?_)⟩
      · exact bad (by unfold isName; rw [decide_eq_false (fun z => by have := V.int.inj d0; omega)]; rfl) H2 (hs0.trans hs)
      have d0' : nm.length ≠ 0 := fun z => d0 (by rw [z]; rfl)
      refine ⟨_, rfl, _, _, rfl, ⟨ln, rfl⟩, _, _, rfl, rfl, _, rfl, iteD (fun d1 => ?_) (fun d1 => ?_)⟩
      · exact bad (by unfold isName; rw [decide_eq_false (fun z => by omega)]; rfl) H2 (hs0.trans hs)
      refine .inr ⟨_, rfl, nm, rfl, fun D3 hD3 => ?_⟩
      refine comp_strF (fun c => !decide (c ∈ L26.cps.toList)) (fun c => .str ⟨#[c]⟩) (fun σ => ∃ z, σ = [z]) ln ⟨_, rfl⟩ hD3 ?_ ?_
      · rintro c hc σ1 H1 ⟨z, rfl⟩ hs1 R R' hR
        refine ⟨_, rfl, _, _, rfl, rfl, _, rfl, ?_⟩
        have e := StrLaws.found_one L26 c
        rw [show (Builtin.Str.occurrences (Str.ofString "abcdefghijklmnopqrstuvwxyz") ⟨#[c]⟩ 0 (Str.ofString "abcdefghijklmnopqrstuvwxyz").length 1) = Builtin.Str.occurrences L26 ⟨#[c]⟩ 0 L26.length 1 from rfl, e]
        have hR := hR [some (.str ⟨#[c]⟩)] ⟨_, rfl⟩
        generalize (!decide (c ∈ L26.cps.toList)) = bb at hR ⊢
        cases bb with
        | true => exact iteT ⟨_, rfl, hR⟩
        | false => exact iteF hR
      · have hmf := made_filter nm L26
        refine ⟨_, _, rfl, .inl ⟨_, SqL.of upd_same, rfl⟩, _, _, rfl, rfl, _, rfl, ?_⟩
        rw [List.length_map]
        refine iteD (fun d2 => ?_) (fun d2 => ?_)
        · refine bad (by unfold isName; cases hmm : madeOf nm L26 with | false => rw [Bool.and_false] | true => have := hmf.mpr hmm; omega) _ ((hs0.trans hs).trans (same_new hD3))
        · refine ⟨hs.trans (same_new hD3), ⟨_, _, .inr ⟨_, rfl⟩⟩, fun j hj1 hj2 => ?_⟩
          rcases Nat.lt_or_ge j i with z | z
          · exact hj j hj1 z
          · have : j = i := by omega
            subst this
            rw [enm]
            unfold isName
            rw [decide_eq_true ⟨by omega, by omega⟩, hmf.mp (by omega)]; rfl
  · rintro σ H2 ⟨hs, _, hj⟩
    have : ns.all isName = true := by
      rw [List.all_eq_true]
      intro n hn
      obtain ⟨j, hj1, rfl⟩ := List.mem_iff_getElem.mp hn
      exact hj j hj1 (by rw [List.length_map]; exact hj1)
    rw [this] at q
    exact ⟨H, .refl (hs0.trans hs), q⟩
/-! ### a form made, or why not -/
structure C4 where
  (sp le re ch tr fo : Addr)
/-- a made form, as it shows itself; p: a list that may change -/
def FormAt (c : C4) (p : Addr) (H : Hp) (o : Addr) (t : Str) : Prop :=
  (∃ (dx : Addr) (a b : Int), H o = some (.ins c.sp dx (spanF a b)) ∧ a.natAbs < 10 ^ 60 ∧ b.natAbs < 10 ^ 60 ∧ t = shS a b) ∨
  (∃ (dx : Addr) (s : Str), H o = some (.ins c.le dx (letF s)) ∧ s.length ≤ 100 ∧ t = shL s) ∨
  (∃ l1 l2 ns fs, TwoAt c.re c.tr H o l1 l2 ns fs ∧ l1 ≠ p ∧ l2 ≠ p ∧ t = shT (Str.ofString "record(") ns) ∨
  (∃ l1 l2 ns fs, TwoAt c.ch c.tr H o l1 l2 ns fs ∧ l1 ≠ p ∧ l2 ≠ p ∧ t = shT (Str.ofString "choice(") ns)
theorem FormAt.keep {c : C4} {p o : Addr} {H H' : Hp} {t : Str} {l : List V} (h : FormAt c p H o t) (hp : H p = some (.lst l)) (k : ∀ b u, b ≠ p → H b = some u → H' b = some u) : FormAt c p H' o t := by
  have nI : ∀ {b C dx : Addr} {fs : List (Str × V)}, H b = some (.ins C dx fs) → b ≠ p := fun {b C dx fs} e z => by
    rw [z] at e
    rw [hp] at e; cases e
  have two : ∀ {C : Addr} {l1 l2 : Addr} {ns : List Str} {fs : List Addr}, TwoAt C c.tr H o l1 l2 ns fs → l1 ≠ p → l2 ≠ p → TwoAt C c.tr H' o l1 l2 ns fs := fun {C l1 l2 ns fs} T n1 n2 => by
    obtain ⟨⟨dx, h1⟩, h2, h3, h4, h5, h6, h7⟩ := T
    refine ⟨⟨dx, k _ _ (nI h1) h1⟩, k _ _ n1 h2, k _ _ n2 h3, h4, h5, h6, fun f hf => ?_⟩
    obtain ⟨d, hd⟩ := h7 f hf
    exact ⟨d, k _ _ (nI hd) hd⟩
  rcases h with ⟨dx, a, b, h1, h2⟩ | ⟨dx, s, h1, h2⟩ | ⟨l1, l2, ns, fs, T, n1, n2, e⟩ | ⟨l1, l2, ns, fs, T, n1, n2, e⟩
  · exact .inl ⟨dx, a, b, k _ _ (nI h1) h1, h2⟩
  · exact .inr (.inl ⟨dx, s, k _ _ (nI h1) h1, h2⟩)
  · exact .inr (.inr (.inl ⟨l1, l2, ns, fs, two T n1 n2, n1, n2, e⟩))
  · exact .inr (.inr (.inr ⟨l1, l2, ns, fs, two T n1 n2, n1, n2, e⟩))
/-- what is handed to the making: its kind, whether it is good, how it will show itself -/
def Way (c : C4) (H : Hp) (way : Int) (one other : V) (good : Bool) (t : Str) (p : Addr) : Prop :=
  (way = 0 ∧ ∃ a b : Int, one = .int a ∧ other = .int b ∧ a.natAbs < 10 ^ 60 ∧ b.natAbs < 10 ^ 60 ∧ good = decide (a ≤ b) ∧ t = shS a b) ∨
  (way = 1 ∧ ∃ s : Str, one = .str s ∧ other = .int 0 ∧ s.length ≤ 1000 ∧ good = goodText s ∧ t = shL s) ∨
  (way = 2 ∧ ∃ ps, one = .ref p ∧ other = .int 0 ∧ Parts H p ps ∧ (∀ f, f ∈ fms ps → isTr c.tr H f) ∧ good = goodNames (nms ps) ∧ t = shT (Str.ofString "record(") (nms ps)) ∨
  (way = 3 ∧ ∃ ps, one = .ref p ∧ other = .int 0 ∧ Parts H p ps ∧ (∀ f, f ∈ fms ps → isTr c.tr H f) ∧ good = goodNames (nms ps) ∧ t = shT (Str.ofString "choice(") (nms ps))
def spMade (c : C4) : Sp := fun vs H Q _ => ∃ (way : Int) (one other : V) (good : Bool) (t : Str) (p : Addr), vs = [.int way, one, other] ∧ Way c H way one other good t p ∧
  (good = true → ∀ T o H', Ext H H' → H' T = some (.tup [.ref o, .non]) → FormAt c p H' o t → Q (.ref T) H') ∧
  (good = false → ∀ T e H', Ext H H' → H' T = some (.tup [.non, .ref e]) → H' e = some (ExcO e c.fo none) → Q (.ref T) H')
theorem two_ok : 2 ≤ sizeLine := by decide
theorem ok_law_made {f cR : Addr} {c : C4} {fd : FuncData} (gm_RiseError : mg "RiseError" = some (.ref cR)) (xc_RiseError : ExcC K cR) (xt_RiseError : PySem.W.typeIn K (.ref cR) = some (.type "type")) (hm : PySem.W.mroIn K c.fo (.ref cR) = some true)
    (F : FunAt K mg "_law_made" s_law_made ["_law_way", "_law_one", "_law_other"] f fd)
    (M_Span : MakeOk P w K mg base 1 "Span" c.sp ["self", "low", "high"] (spSpanInit c.sp)) (MB_Span : MakeOkE P w K mg base 1 "Span" c.sp ["self", "low", "high"] (spSpanBad c.fo c.sp))
    (M_Letters : MakeOk P w K mg base 2 "Letters" c.le ["self", "signs"] (spLetInit c.le)) (MB_Letters : MakeOkE P w K mg base 2 "Letters" c.le ["self", "signs"] (spLetBad c.fo c.le))
    (M_Record : MakeOk P w K mg base 4 "Record" c.re ["self", "parts"] (spTwoInit c.re)) (MB_Record : MakeOkE P w K mg base 4 "Record" c.re ["self", "parts"] (spTwoBad c.fo c.re))
    (M_Choice : MakeOk P w K mg base 4 "Choice" c.ch ["self", "cases"] (spTwoInit c.ch)) (MB_Choice : MakeOkE P w K mg base 4 "Choice" c.ch ["self", "cases"] (spTwoBad c.fo c.ch)) :
    DefOk P w K mg base 6 "_law_made" ["_law_way", "_law_one", "_law_other"] (spMade c) := by
  refine F.ok sc_law_made (fun vs H Q E h => ?_) (fun cdv A outer s H vs Q E hr h => ?_)
  · obtain ⟨_, _, _, _, _, _, rfl, _⟩ := h; rfl
  obtain ⟨way, one, other, good, t, p, rfl, hW, q1, q2⟩ := h
  obtain ⟨EH, hEH⟩ : ∃ EH : St → XK, EH = fun σ c' d H' => good = false ∧ (∃ z, σ = [some (.int way), some one, some other, some .non, some .non, z]) ∧ c' = .ref c.fo ∧ d = none ∧ Ext H H' := ⟨_, rfl⟩
  refine ⟨_, (pss_cons (ps_set (i := 3) sc_law_made.nd rfl (by first | exact Or.inl rfl | exact Or.inr rfl) pe_non)
    (pss_cons (ps_set (i := 4) sc_law_made.nd rfl (by first | exact Or.inl rfl | exact Or.inr rfl) pe_non)
    (pss_cons (ps_try (i := 5) (Eh := EH) (fun _ => (pss_cons (ps_if (pt_cmpR oEq (pv 0) pe_int (nomark _)) (pss_one (ps_set (i := 4) sc_law_made.nd rfl (by first | exact Or.inl rfl | exact Or.inr rfl) (pe_makeE2 M_Span MB_Span hr passes_try (pa_cons (pv 1) (pa_cons (pv 2) pa_nil))))) pss_nil)
      (pss_cons (ps_if (pt_cmpR oEq (pv 0) pe_int (nomark _)) (pss_one (ps_set (i := 4) sc_law_made.nd rfl (by first | exact Or.inl rfl | exact Or.inr rfl) (pe_makeE2 M_Letters MB_Letters hr passes_try (pa_cons (pv 1) pa_nil)))) pss_nil)
      (pss_cons (ps_if (pt_cmpR oEq (pv 0) pe_int (nomark _)) (pss_one (ps_set (i := 4) sc_law_made.nd rfl (by first | exact Or.inl rfl | exact Or.inr rfl) (pe_makeE2 M_Record MB_Record hr passes_try (pa_cons (pv 1) pa_nil)))) pss_nil)
      (pss_one (ps_if (pt_cmpR oEq (pv 0) pe_int (nomark _)) (pss_one (ps_set (i := 4) sc_law_made.nd rfl (by first | exact Or.inl rfl | exact Or.inr rfl) (pe_makeE2 M_Choice MB_Choice hr passes_try (pa_cons (pv 1) pa_nil)))) pss_nil))))))
      (fun _ _ => (pss_one (ps_set (i := 3) sc_law_made.nd rfl (by first | exact Or.inl rfl | exact Or.inr rfl) (pv 5)))) gm_RiseError xc_RiseError xt_RiseError sc_law_made.nd)
    (pss_one (ps_ret (pe_tup (pa_cons (pv 4) (pa_cons (pv 3) pa_nil)))))))), ?_⟩
  rcases hW with ⟨rfl, a, b, rfl, rfl, ha, hb, rfl, rfl⟩ | ⟨rfl, sg, rfl, rfl, hl, rfl, rfl⟩ | ⟨rfl, ps, rfl, rfl, hP, hF, rfl, rfl⟩ | ⟨rfl, ps, rfl, rfl, hP, hF, rfl, rfl⟩
  · refine ⟨?_, fun σ' C' d H' ex hE hx => ?_⟩
    · refine ⟨_, rfl, rfl, _, rfl, iteY rfl ⟨_, rfl, _, rfl, fun y dx hy hdx hne => ?_⟩⟩
      by_cases hab : a ≤ b
      · refine .inl ⟨y, dx, a, b, rfl, upd_same, hab, rfl, ?_⟩
        rw [upd_upd']
        refine ⟨_, rfl, rfl, _, rfl, iteN (by decide) ⟨_, rfl, rfl, _, rfl, iteN (by decide) ⟨_, rfl, rfl, _, rfl, iteN (by decide) ?_⟩⟩⟩
        refine ⟨_, rfl, _, rfl, two_ok, fun T hT => ?_⟩
        have E2 := Ext.tup (xs := [V.ref y, V.non]) hT
        have E3 := (Ext.made (C := c.sp) (fs := spanF a b) hy hdx hne).trans E2
        exact ⟨_, E3.sub, q1 (decide_eq_true hab) T y _ E3 upd_same (.inl ⟨dx, a, b, E2.s _ _ upd_same, ha, hb, rfl⟩)⟩
      · refine .inr ⟨y, dx, a, b, rfl, upd_same, by omega, ?_⟩
        subst hEH
        exact ⟨decide_eq_false hab, ⟨_, rfl⟩, rfl, rfl, Ext.made hy hdx hne⟩
    · skip
      subst hEH
      obtain ⟨hg, ⟨z, rfl⟩, hc, rfl, E1⟩ := hE
      injection hc with hc
      subst hc
      have E2 := E1.trans (Ext.exc (C := c.fo) (d := none) hx)
      refine ⟨hm, ⟨_, rfl, ?_⟩⟩
      refine ⟨_, rfl, _, rfl, two_ok, fun T hT => ?_⟩
      have E3 := E2.trans (Ext.tup (xs := [V.non, V.ref ex]) hT)
      exact ⟨_, E3.sub, q2 hg T ex _ E3 upd_same ((same_new (o := HO.tup [V.non, V.ref ex]) hT) _ _ upd_same)⟩
  · refine ⟨?_, fun σ' C' d H' ex hE hx => ?_⟩
    · refine ⟨_, rfl, rfl, _, rfl, iteN (by decide) ⟨_, rfl, rfl, _, rfl, iteY rfl ⟨_, rfl, fun y dx hy hdx hne => ?_⟩⟩⟩
      cases hgt : goodText sg with
      | true =>
        refine .inl ⟨y, dx, sg, rfl, upd_same, hl, hgt, rfl, ?_⟩
        rw [upd_upd']
        refine ⟨_, rfl, rfl, _, rfl, iteN (by decide) ⟨_, rfl, rfl, _, rfl, iteN (by decide) ?_⟩⟩
        refine ⟨_, rfl, _, rfl, two_ok, fun T hT => ?_⟩
        have E2 := Ext.tup (xs := [V.ref y, V.non]) hT
        have E3 := (Ext.made (C := c.le) (fs := letF sg) hy hdx hne).trans E2
        have hl2 : sg.length ≤ 100 := by
          unfold goodText at hgt
          simp only [Bool.and_eq_true, decide_eq_true_eq] at hgt
          omega
        exact ⟨_, E3.sub, q1 hgt T y _ E3 upd_same (.inr (.inl ⟨dx, sg, E2.s _ _ upd_same, hl2, rfl⟩))⟩
      | false =>
        refine .inr ⟨y, dx, sg, rfl, upd_same, hl, hgt, ?_⟩
        subst hEH
        exact ⟨hgt, ⟨_, rfl⟩, rfl, rfl, Ext.made hy hdx hne⟩
    · skip
      subst hEH
      obtain ⟨hg, ⟨z, rfl⟩, hc, rfl, E1⟩ := hE
      injection hc with hc
      subst hc
      have E2 := E1.trans (Ext.exc (C := c.fo) (d := none) hx)
      refine ⟨hm, ⟨_, rfl, ?_⟩⟩
      refine ⟨_, rfl, _, rfl, two_ok, fun T hT => ?_⟩
      have E3 := E2.trans (Ext.tup (xs := [V.non, V.ref ex]) hT)
      exact ⟨_, E3.sub, q2 hg T ex _ E3 upd_same ((same_new (o := HO.tup [V.non, V.ref ex]) hT) _ _ upd_same)⟩
  · obtain ⟨CC, hCC⟩ : ∃ CC, CC = c.re := ⟨_, rfl⟩
    refine ⟨?_, fun σ' C' d H' ex hE hx => ?_⟩
    · refine ⟨_, rfl, rfl, _, rfl, iteN (by decide) ⟨_, rfl, rfl, _, rfl, iteN (by decide) ⟨_, rfl, rfl, _, rfl, iteY rfl ⟨_, rfl, fun y dx hy hdx hne => ?_⟩⟩⟩⟩
      rw [← hCC]
      have E1 := Ext.made (C := CC) (fs := []) hy hdx hne
      have hP1 := hP.same E1.s
      cases hgn : goodNames (nms ps) with
      | true =>
        refine .inl ⟨y, dx, p, ps, rfl, upd_same, hP1, hgn, fun l1 l2 h1 h2 h12 => ⟨rfl, ?_⟩⟩
        have n1 : l1 ≠ y := fun z => by rw [z, upd_same] at h1; cases h1
        have n2 : l2 ≠ y := fun z => by rw [z, upd_same] at h2; cases h2
        rw [upd_swap n2, upd_swap n1, upd_upd']
        have F1 := Ext.made (C := CC) (fs := twoF l1 l2) hy hdx hne
        have g1 : upd (upd H dx (.own y)) y (.ins CC dx (twoF l1 l2)) l1 = none := by rw [upd_ne n1] at h1 ⊢; exact h1
        have F2 := Ext.lst (xs := (nms ps).map V.str) g1
        have g2 : upd (upd (upd H dx (.own y)) y (.ins CC dx (twoF l1 l2))) l1 (.lst ((nms ps).map V.str)) l2 = none := by rw [upd_ne (Ne.symm h12)]; rw [upd_ne n2] at h2 ⊢; exact h2
        have F3 := Ext.lst (xs := (fms ps).map V.ref) g2
        have F4 := (F1.trans F2).trans F3
        have np1 : l1 ≠ p := fun z => by have := F1.s _ _ hP.l; rw [← z, g1] at this; cases this
        have np2 : l2 ≠ p := fun z => by have := (F1.trans F2).s _ _ hP.l; rw [← z, g2] at this; cases this
        have TT : TwoAt CC c.tr (upd (upd (upd (upd H dx (.own y)) y (.ins CC dx (twoF l1 l2))) l1 (.lst ((nms ps).map V.str))) l2 (.lst ((fms ps).map V.ref))) y l1 l2 (nms ps) (fms ps) := by
          refine ⟨⟨dx, (F2.trans F3).s _ _ upd_same⟩, F3.s _ _ upd_same, upd_same, (by unfold nms fms; rw [List.length_map, List.length_map]), (by unfold nms; rw [List.length_map]; exact hP.n), fun n hn => ?_, fun f hf => ?_⟩
          · obtain ⟨x, hx, rfl⟩ := List.mem_map.mp hn
            exact hP.b x hx
          · obtain ⟨d, hd⟩ := hF f hf
            exact ⟨d, F4.s _ _ hd⟩
        generalize upd (upd (upd (upd H dx (.own y)) y (.ins CC dx (twoF l1 l2))) l1 (.lst ((nms ps).map V.str))) l2 (.lst ((fms ps).map V.ref)) = H4 at F4 TT ⊢
        refine ⟨_, rfl, rfl, _, rfl, iteN (by decide) ?_⟩
        refine ⟨_, rfl, _, rfl, two_ok, fun T hT => ?_⟩
        have E2 := Ext.tup (xs := [V.ref y, V.non]) hT
        have E3 := F4.trans E2
        refine ⟨_, E3.sub, q1 hgn T y _ E3 upd_same ?_⟩
        have fa : FormAt c p H4 y (shT (Str.ofString "record(") (nms ps)) := .inr (.inr (.inl ⟨l1, l2, _, _, hCC ▸ TT, np1, np2, rfl⟩))
        exact fa.keep (F4.s _ _ hP.l) fun b u _ e => E2.s b u e
      | false =>
        refine .inr ⟨y, dx, p, ps, rfl, upd_same, hP1, hgn, ?_⟩
        subst hEH
        exact ⟨hgn, ⟨_, rfl⟩, rfl, rfl, E1⟩
    · skip
      subst hEH
      obtain ⟨hg, ⟨z, rfl⟩, hc, rfl, E1⟩ := hE
      injection hc with hc
      subst hc
      have E2 := E1.trans (Ext.exc (C := c.fo) (d := none) hx)
      refine ⟨hm, ⟨_, rfl, ?_⟩⟩
      refine ⟨_, rfl, _, rfl, two_ok, fun T hT => ?_⟩
      have E3 := E2.trans (Ext.tup (xs := [V.non, V.ref ex]) hT)
      exact ⟨_, E3.sub, q2 hg T ex _ E3 upd_same ((same_new (o := HO.tup [V.non, V.ref ex]) hT) _ _ upd_same)⟩
  · obtain ⟨CC, hCC⟩ : ∃ CC, CC = c.ch := ⟨_, rfl⟩
    refine ⟨?_, fun σ' C' d H' ex hE hx => ?_⟩
    · refine ⟨_, rfl, rfl, _, rfl, iteN (by decide) ⟨_, rfl, rfl, _, rfl, iteN (by decide) ⟨_, rfl, rfl, _, rfl, iteN (by decide) ⟨_, rfl, rfl, _, rfl, iteY rfl ⟨_, rfl, fun y dx hy hdx hne => ?_⟩⟩⟩⟩⟩
      rw [← hCC]
      have E1 := Ext.made (C := CC) (fs := []) hy hdx hne
      have hP1 := hP.same E1.s
      cases hgn : goodNames (nms ps) with
      | true =>
        refine .inl ⟨y, dx, p, ps, rfl, upd_same, hP1, hgn, fun l1 l2 h1 h2 h12 => ⟨rfl, ?_⟩⟩
        have n1 : l1 ≠ y := fun z => by rw [z, upd_same] at h1; cases h1
        have n2 : l2 ≠ y := fun z => by rw [z, upd_same] at h2; cases h2
        rw [upd_swap n2, upd_swap n1, upd_upd']
        have F1 := Ext.made (C := CC) (fs := twoF l1 l2) hy hdx hne
        have g1 : upd (upd H dx (.own y)) y (.ins CC dx (twoF l1 l2)) l1 = none := by rw [upd_ne n1] at h1 ⊢; exact h1
        have F2 := Ext.lst (xs := (nms ps).map V.str) g1
        have g2 : upd (upd (upd H dx (.own y)) y (.ins CC dx (twoF l1 l2))) l1 (.lst ((nms ps).map V.str)) l2 = none := by rw [upd_ne (Ne.symm h12)]; rw [upd_ne n2] at h2 ⊢; exact h2
        have F3 := Ext.lst (xs := (fms ps).map V.ref) g2
        have F4 := (F1.trans F2).trans F3
        have np1 : l1 ≠ p := fun z => by have := F1.s _ _ hP.l; rw [← z, g1] at this; cases this
        have np2 : l2 ≠ p := fun z => by have := (F1.trans F2).s _ _ hP.l; rw [← z, g2] at this; cases this
        have TT : TwoAt CC c.tr (upd (upd (upd (upd H dx (.own y)) y (.ins CC dx (twoF l1 l2))) l1 (.lst ((nms ps).map V.str))) l2 (.lst ((fms ps).map V.ref))) y l1 l2 (nms ps) (fms ps) := by
          refine ⟨⟨dx, (F2.trans F3).s _ _ upd_same⟩, F3.s _ _ upd_same, upd_same, (by unfold nms fms; rw [List.length_map, List.length_map]), (by unfold nms; rw [List.length_map]; exact hP.n), fun n hn => ?_, fun f hf => ?_⟩
          · obtain ⟨x, hx, rfl⟩ := List.mem_map.mp hn
            exact hP.b x hx
          · obtain ⟨d, hd⟩ := hF f hf
            exact ⟨d, F4.s _ _ hd⟩
        generalize upd (upd (upd (upd H dx (.own y)) y (.ins CC dx (twoF l1 l2))) l1 (.lst ((nms ps).map V.str))) l2 (.lst ((fms ps).map V.ref)) = H4 at F4 TT ⊢
        refine ⟨_, rfl, _, rfl, two_ok, fun T hT => ?_⟩
        have E2 := Ext.tup (xs := [V.ref y, V.non]) hT
        have E3 := F4.trans E2
        refine ⟨_, E3.sub, q1 hgn T y _ E3 upd_same ?_⟩
        have fa : FormAt c p H4 y (shT (Str.ofString "choice(") (nms ps)) := .inr (.inr (.inr ⟨l1, l2, _, _, hCC ▸ TT, np1, np2, rfl⟩))
        exact fa.keep (F4.s _ _ hP.l) fun b u _ e => E2.s b u e
      | false =>
        refine .inr ⟨y, dx, p, ps, rfl, upd_same, hP1, hgn, ?_⟩
        subst hEH
        exact ⟨hgn, ⟨_, rfl⟩, rfl, rfl, E1⟩
    · skip
      subst hEH
      obtain ⟨hg, ⟨z, rfl⟩, hc, rfl, E1⟩ := hE
      injection hc with hc
      subst hc
      have E2 := E1.trans (Ext.exc (C := c.fo) (d := none) hx)
      refine ⟨hm, ⟨_, rfl, ?_⟩⟩
      refine ⟨_, rfl, _, rfl, two_ok, fun T hT => ?_⟩
      have E3 := E2.trans (Ext.tup (xs := [V.non, V.ref ex]) hT)
      exact ⟨_, E3.sub, q2 hg T ex _ E3 upd_same ((same_new (o := HO.tup [V.non, V.ref ex]) hT) _ _ upd_same)⟩

/-! ### good -/
structure MSh (P : Program) (w : World) (K : PySem.W.Frag) (mg : Str → Option Value) (base : Heap) (c : C4) : Prop where
  m0 : MethOk P w K mg base 1 c.sp "shown" ["self"] (spSpanShown c.sp)
  m1 : MethOk P w K mg base 1 c.le "shown" ["self"] (spLetShown c.le)
  m2 : MethOk P w K mg base 3 c.re "shown" ["self"] (spTwoShown c.re c.tr (Str.ofString "record("))
  m3 : MethOk P w K mg base 3 c.ch "shown" ["self"] (spTwoShown c.ch c.tr (Str.ofString "choice("))
  c0 : Cls K c.sp
  c1 : Cls K c.le
  c2 : Cls K c.re
  c3 : Cls K c.ch
theorem lookspan (a b : Int) : (spanF a b).lookup ("shown" : Str) = none := by
  have h1 : (("shown" : Str) == "low") = false := by decide +kernel
  have h2 : (("shown" : Str) == "high") = false := by decide +kernel
  simp [spanF, List.lookup, h1, h2]
theorem looklet (s : Str) : (letF s).lookup ("shown" : Str) = none := by
  have h1 : (("shown" : Str) == "signs") = false := by decide +kernel
  simp [letF, List.lookup, h1]
theorem looktwo (a b : Addr) : (twoF a b).lookup ("shown" : Str) = none := by
  have h1 : (("shown" : Str) == "names") = false := by decide +kernel
  have h2 : (("shown" : Str) == "forms") = false := by decide +kernel
  simp [twoF, List.lookup, h1, h2]
theorem shown_go {c : C4} {p o : Addr} {H : Hp} {t : Str} {R : VK} {i : Nat} {σ : St} (hv : ∀ R' : VK, R' (.ref o) H → tVar i σ H R') (h : FormAt c p H o t) (q : R (.str t) H) :
    tMeth c.sp (Str.ofString "shown") (spSpanShown c.sp) [] E0 (tVar i) tNil σ H R ∨ tMeth c.le (Str.ofString "shown") (spLetShown c.le) [] E0 (tVar i) tNil σ H R ∨
    tMeth c.re (Str.ofString "shown") (spTwoShown c.re c.tr (Str.ofString "record(")) [] E0 (tVar i) tNil σ H R ∨ tMeth c.ch (Str.ofString "shown") (spTwoShown c.ch c.tr (Str.ofString "choice(")) [] E0 (tVar i) tNil σ H R := by
  rcases h with ⟨dx, a, b, h1, ha, hb, rfl⟩ | ⟨dx, s, h1, h2, rfl⟩ | ⟨l1, l2, ns, fs, T, n1, n2, rfl⟩ | ⟨l1, l2, ns, fs, T, n1, n2, rfl⟩
  · exact .inl (hv _ ⟨o, dx, _, rfl, h1, lookspan .., o, dx, a, b, rfl, h1, ha, hb, q⟩)
  · exact .inr (.inl (hv _ ⟨o, dx, _, rfl, h1, looklet .., o, dx, s, rfl, h1, h2, q⟩))
  · obtain ⟨dx, h1⟩ := T.o
    exact .inr (.inr (.inl (hv _ ⟨o, dx, _, rfl, h1, looktwo .., o, l1, l2, ns, fs, rfl, T, q⟩)))
  · obtain ⟨dx, h1⟩ := T.o
    exact .inr (.inr (.inr (hv _ ⟨o, dx, _, rfl, h1, looktwo .., o, l1, l2, ns, fs, rfl, T, q⟩)))
def spGood24 (c : C4) : Sp := fun vs H Q _ => ∃ (way : Int) (one other : V) (good : Bool) (t : Str) (p : Addr), vs = [.int way, one, other, .bl good] ∧ Way c H way one other good t p ∧
  ((way = 0 ∨ way = 1) → Q (.bl true) H) ∧ ((way = 2 ∨ way = 3) → ∀ l, Q (.bl true) (upd H p (.lst l)))
theorem go4 {Q : VK} {H H' : Hp} {c : C4} {way : Int} {one other : V} {good : Bool} {t : Str} {p : Addr} (hW : Way c H way one other good t p) (q1 : (way = 0 ∨ way = 1) → Q (.bl true) H) (q2 : (way = 2 ∨ way = 3) → ∀ l, Q (.bl true) (upd H p (.lst l))) (hs : Same H H') : ∃ H'', L2.Sub H H'' H' ∧ Q (.bl true) H'' := by
  refine ⟨H, .refl hs, ?_⟩
  rcases hW with ⟨rfl, _⟩ | ⟨rfl, _⟩ | ⟨rfl, ps, _, _, hP, _⟩ | ⟨rfl, ps, _, _, hP, _⟩
  · exact q1 (.inl rfl)
  · exact q1 (.inr rfl)
  · have := q2 (.inl rfl) (ps.map fun x => V.ref x.1)
    rwa [upd_self' hP.l] at this
  · have := q2 (.inr rfl) (ps.map fun x => V.ref x.1)
    rwa [upd_self' hP.l] at this
theorem way_cases {c : C4} {H : Hp} {way : Int} {one other : V} {good : Bool} {t : Str} {p : Addr} (h : Way c H way one other good t p) : (¬ 1 < way ∧ (way = 0 ∨ way = 1)) ∨ (1 < way ∧ (way = 2 ∨ way = 3) ∧ one = .ref p ∧ ∃ l, H p = some (.lst l) ∧ l.length ≤ 30) := by
  rcases h with ⟨rfl, _⟩ | ⟨rfl, _⟩ | ⟨rfl, ps, e, _, hP, _⟩ | ⟨rfl, ps, e, _, hP, _⟩
  · exact .inl ⟨by decide, .inl rfl⟩
  · exact .inl ⟨by decide, .inr rfl⟩
  · exact .inr ⟨by decide, .inl rfl, e, _, hP.l, by rw [List.length_map]; exact hP.n⟩
  · exact .inr ⟨by decide, .inr rfl, e, _, hP.l, by rw [List.length_map]; exact hP.n⟩
theorem ok_law_good {f : Addr} {c : C4} {cs : Cs} {fd : FuncData} (nb : NB mg) (kF : Kits K cs c.fo [false, false, false, false, true, false, false, false, false, false, true]) (M0_Truth : Mk0 K c.tr) (m_Truth : mg "Truth" = some (.ref c.tr)) (MS : MSh P w K mg base c)
    (F : FunAt K mg "_law_good" s_law_good ["_law_way", "_law_one", "_law_other", "_law_due"] f fd) (D_law_made : DefOk P w K mg base 6 "_law_made" ["_law_way", "_law_one", "_law_other"] (spMade c)) (D_law_kinds : DefOk P w K mg base 1 "_law_kinds" ["_law_kept"] (spKindsG K cs)) :
    DefOk P w K mg base 7 "_law_good" ["_law_way", "_law_one", "_law_other", "_law_due"] (spGood24 c) := by
  obtain ⟨M0_shown, M1_shown, M2_shown, M3_shown, c0_shown, c1_shown, c2_shown, c3_shown⟩ := MS
  refine F.ok sc_law_good (fun vs H Q E h => ?_) (fun cdv A outer s H vs Q E hr h => ?_)
  · obtain ⟨_, _, _, _, _, _, rfl, _⟩ := h; rfl
  obtain ⟨way, one, other, good, t, p, rfl, hW, q1, q2⟩ := h
  refine ⟨_, (pss_cons (ps_asg (pe_callD D_law_made hr (pa_cons (pv 0) (pa_cons (pv 1) (pa_cons (pv 2) pa_nil)))) (pg_tup rfl (pgs_cons (pg_name (i := 4) sc_law_good.nd rfl (by first | exact Or.inl rfl | exact Or.inr rfl)) (pgs_cons (pg_name (i := 5) sc_law_good.nd rfl (by first | exact Or.inl rfl | exact Or.inr rfl)) pgs_nil))))
    (pss_cons (ps_if (pt_not (pt_truth (pv 3) (fun _ => rfl))) (pss_one (ps_ret (pe_cmpR (oEqM (room64 hr)) (pe_callD D_law_kinds hr (pa_cons (pv 5) pa_nil)) (pe_op oAdd3 (pe_op oAdd3 (pe_op oAdd3 (pe_op oMul3 (pe_lst (pa_cons pe_bl pa_nil)) pe_int) (pe_lst (pa_cons pe_bl pa_nil))) (pe_op oMul3 (pe_lst (pa_cons pe_bl pa_nil)) pe_int)) (pe_lst (pa_cons pe_bl pa_nil))) (nomark _)))) pss_nil)
    (pss_cons (ps_if (pt_cmpR op_notN (pv 5) pe_non (nomark _)) (pss_one (ps_ret pe_bl)) pss_nil)
    (pss_cons (ps_set (i := 6) sc_law_good.nd rfl (by first | exact Or.inl rfl | exact Or.inr rfl) (PE.or (pe_methD0 M0_shown c0_shown hr (pv 4)) (PE.or (pe_methD0 M1_shown c1_shown hr (pv 4)) (PE.or (pe_methD0 M2_shown c2_shown hr (pv 4)) (pe_methD0 M3_shown c3_shown hr (pv 4))))))
    (pss_cons (ps_if (pt_cmpR oGt (pv 0) pe_int (nomark _)) (pss_one (ps_expr (pe_bm PySem.F.plainAttrs_list PySem.F.slot_list_append PySem.F.type_list_append mt_append (pv 1) (pa_cons (pe_tup (pa_cons pe_str (pa_cons (pe_makeN0 M0_Truth rfl m_Truth) pa_nil))) pa_nil)))) pss_nil)
    (pss_one (ps_ret (pe_and (pe_callB call_isinstA rfl nb.isinstance_ bo_isinstance (pa_cons (pv 6) (pa_cons (pe_bltn (v := .ty "str") rfl nb.str_ bo_str rfl) pa_nil))) (pe_one (pe_cmpR (oEqM (room64 hr)) (PE.or (pe_methD0 M0_shown c0_shown hr (pv 4)) (PE.or (pe_methD0 M1_shown c1_shown hr (pv 4)) (PE.or (pe_methD0 M2_shown c2_shown hr (pv 4)) (pe_methD0 M3_shown c3_shown hr (pv 4))))) (pv 6) (nomark _))))))))))), ?_⟩
  refine ⟨_, rfl, _, rfl, _, rfl, way, one, other, good, t, p, rfl, hW, ?_, ?_⟩
  · rintro rfl T o H' hE hT hF
    refine ⟨T, _, rfl, SqT.of hT, rfl, _, _, rfl, _, _, rfl, rfl, ?_⟩
    refine ⟨_, rfl, true, rfl, iteF ⟨_, rfl, rfl, _, rfl, iteNS rfl ?_⟩⟩
    refine shown_go (fun R' r => ⟨_, rfl, r⟩) hF ?_
    rcases way_cases hW with ⟨c1, w1⟩ | ⟨c1, w2, rfl, l, hl, hln⟩
    · refine ⟨_, rfl, _, _, rfl, rfl, _, rfl, iteN c1 ?_⟩
      refine ⟨_, rfl, .inl ⟨_, _, _, true, rfl, .str _, kit_same .., true, rfl, iteT ?_⟩⟩
      refine shown_go (fun R' r => ⟨_, rfl, r⟩) hF ⟨_, rfl, .inl ⟨rfl, ?_⟩⟩
      rw [decide_eq_true rfl]
      exact ⟨H, .refl hE.s, q1 w1⟩
    · refine ⟨_, rfl, _, _, rfl, rfl, _, rfl, iteY c1 ?_⟩
      have hl1 := hE.s _ _ hl
      refine ⟨_, rfl, .inl ⟨rfl, _, SqL.of hl1⟩, fun o2 d2 h1 h2 h12 => ⟨two_ok, fun T2 hT2 => ?_⟩⟩
      have E2 := (Ext.made (C := c.tr) (fs := []) h1 h2 h12).trans (Ext.tup (xs := [V.str (Str.ofString "more"), V.ref o2]) hT2)
      have hl2 := E2.s _ _ hl1
      refine ⟨p, l, _, rfl, rfl, hl2, Nat.lt_of_le_of_lt hln (by decide), ?_⟩
      have hF2 := hF.keep (H' := upd (upd (upd (upd H' d2 (.own o2)) o2 (.ins c.tr d2 [])) T2 (.tup [V.str (Str.ofString "more"), V.ref o2])) p (.lst (l ++ [V.ref T2]))) hl1 fun b u nb e => by rw [upd_ne nb]; exact E2.s b u e
      refine ⟨_, rfl, .inl ⟨_, _, _, true, rfl, .str _, kit_same .., true, rfl, iteT ?_⟩⟩
      refine shown_go (fun R' r => ⟨_, rfl, r⟩) hF2 ⟨_, rfl, .inl ⟨rfl, ?_⟩⟩
      rw [decide_eq_true rfl]
      refine ⟨upd H p (.lst (l ++ [V.ref T2])), ⟨fun b u e => ?_, fun b u e => ?_, fun cl => closed_lst hl cl⟩, q2 w2 _⟩
      · by_cases z : b = p
        · subst z; rw [upd_same] at e ⊢; exact e
        · rw [upd_ne z] at e ⊢; exact E2.s b u (hE.s b u e)
      · by_cases z : b = p
        · subst z; exact ⟨_, upd_same⟩
        · exact ⟨u, by rw [upd_ne z]; exact e⟩
  · rintro rfl T e H' hE hT he
    refine ⟨T, _, rfl, SqT.of hT, rfl, _, _, rfl, _, _, rfl, rfl, ?_⟩
    refine ⟨_, rfl, false, rfl, iteT ?_⟩
    refine ⟨_, rfl, _, rfl, .inr ⟨e, c.fo, none, _, rfl, he, .inl rfl, kF, fun p2 h2 => ?_⟩⟩
    have S0 := same_new (o := HO.lst ([false, false, false, false, true, false, false, false, false, false, true].map V.bl)) h2
    have k0 : upd H' p2 (.lst ([false, false, false, false, true, false, false, false, false, false, true].map V.bl)) p2 = some (.lst ([false, false, false, false, true, false, false, false, false, false, true].map V.bl)) := upd_same
    generalize upd H' p2 (.lst ([false, false, false, false, true, false, false, false, false, false, true].map V.bl)) = H0 at S0 k0 ⊢
    refine ⟨one_ok, fun r1 g1 => ?_⟩
    refine .inr ⟨r1, 4, _, rfl, rfl, upd_same, by decide, by decide, (by show 1 * 4 ≤ sizeLine; decide), fun r2 g2 => ⟨one_ok, fun r3 g3 => ?_⟩⟩
    refine .inr ⟨r2, r3, _, _, rfl, rfl, (same_new g3) _ _ upd_same, upd_same, (by show 4 + 1 ≤ sizeLine; decide), fun r4 g4 => ⟨one_ok, fun r5 g5 => ?_⟩⟩
    refine .inr ⟨r5, 5, _, rfl, rfl, upd_same, by decide, by decide, (by show 1 * 5 ≤ sizeLine; decide), fun r6 g6 => ?_⟩
    refine .inr ⟨r4, r6, _, _, rfl, rfl, (same_new g6) _ _ ((same_new g5) _ _ upd_same), upd_same, (by show 5 + 5 ≤ sizeLine; decide), fun r7 g7 => ⟨one_ok, fun r8 g8 => ?_⟩⟩
    refine .inr ⟨r7, r8, _, _, rfl, rfl, (same_new g8) _ _ upd_same, upd_same, (by show 10 + 1 ≤ sizeLine; decide), fun r9 g9 => ?_⟩
    have S8 := (((((((same_new (o := HO.lst [V.bl false]) g1).trans (same_new g2)).trans (same_new (o := HO.lst [V.bl true]) g3)).trans (same_new g4)).trans (same_new (o := HO.lst [V.bl false]) g5)).trans (same_new g6)).trans (same_new g7)).trans (same_new (o := HO.lst [V.bl true]) g8)
    refine .inr ⟨p2, r9, [false, false, false, false, true, false, false, false, false, false, true], [false, false, false, false, true, false, false, false, false, false, true], rfl, rfl, (same_new g9) _ _ (S8 _ _ k0), upd_same, ?_⟩
    rw [decide_eq_true rfl]
    exact go4 hW q1 q2 ((hE.s.trans S0).trans (S8.trans (same_new g9)))

def spLaw (K : PySem.W.Frag) : Sp := fun vs H Q _ => ∃ (a : Addr) (ns : List Int), vs = [.ref a] ∧ SqL K H a (ns.map V.int) ∧ ns.length ≤ 63 ∧ ∀ H', Q (.bl true) H'
theorem alnum_len {sg : Str} (tg : Tx 243 L68 sg) : decide (V.int (((sg.cps.toList.filter fun c => Txt.isalpha ⟨#[c]⟩ || Txt.isdigit ⟨#[c]⟩).length : Nat) : Int) = V.int ((sg.length : Nat) : Int)) = madeOf sg L62 := by
  have e : (sg.cps.toList.filter fun c => Txt.isalpha ⟨#[c]⟩ || Txt.isdigit ⟨#[c]⟩) = sg.cps.toList.filter fun c => decide (c ∈ L62.cps.toList) :=
    List.filter_congr fun c hc => alnum c (tg.s c hc)
  rw [e]
  have e2 : sg.length = sg.cps.toList.length := Array.length_toList.symm
  rw [e2]
  have h := filter_all sg.cps.toList fun c => decide (c ∈ L62.cps.toList)
  unfold madeOf
  rw [← h]
  exact decide_eq_decide.mpr ⟨fun z => by have := V.int.inj z; omega, fun z => by rw [z]⟩
theorem p57 : (0 : Int) < 10 ^ Int.toNat 57 ∧ (10 : Int) ^ Int.toNat 57 < 10 ^ 58 := by decide +kernel
theorem p56 : (0 : Int) < 10 ^ Int.toNat 56 ∧ (10 : Int) ^ Int.toNat 56 < 10 ^ 58 := by decide +kernel
theorem ok_law {f : Addr} {c : C4} {fd : FuncData} (nb : NB mg) (F : Fun K "law" "law" s_law f fd) (D_law_cell_at : DefOk P w K mg base 1 "_law_cell_at" ["_law_script", "_law_k"] (spCellAt K)) (D_law_text : DefOk P w K mg base 2 "_law_text" ["_law_script"] (spText24 K)) (D_law_parts : DefOk P w K mg base 2 "_law_parts" ["_law_script"] (spLawParts K c.tr))
    (D_law_named : DefOk P w K mg base 1 "_law_named" ["_law_parts_here"] spNamed) (D_law_good : DefOk P w K mg base 7 "_law_good" ["_law_way", "_law_one", "_law_other", "_law_due"] (spGood24 c)) : FnOk P w K mg base CX0 8 f fd ["_law_script"] (spLaw K) := by
  refine F.okK sc_law (fun vs H Q E h => ?_) (fun cdv A outer s H vs Q E hr h => ?_)
  · obtain ⟨_, _, rfl, _⟩ := h; rfl
  obtain ⟨a, ns, rfl, hS, hl, q⟩ := h
  refine ⟨_, (pss_cons (ps_set (i := 1) sc_law.nd rfl (by first | exact Or.inl rfl | exact Or.inr rfl) (pe_op oSub (pe_op op_mod (pe_callD D_law_cell_at hr (pa_cons (pv 0) (pa_cons pe_int pa_nil))) (pe_op op_pow pe_int pe_int)) (pe_op op_pow pe_int pe_int)))
    (pss_cons (ps_set (i := 2) sc_law.nd rfl (by first | exact Or.inl rfl | exact Or.inr rfl) (pe_callD D_law_cell_at hr (pa_cons (pv 0) (pa_cons pe_int pa_nil))))
    (pss_cons (ps_set (i := 3) sc_law.nd rfl (by first | exact Or.inl rfl | exact Or.inr rfl) (pe_op oAdd (pv 1) (pe_ix iAll (pe_lst (pa_cons (pe_op op_mod (pe_op op_fdiv (pv 2) pe_int) (pe_op op_pow pe_int pe_int)) (pa_cons pe_int (pa_cons (pe_un un_neg pe_int) (pa_cons (pe_op oSub (pe_un un_neg pe_int) (pe_op op_mod (pe_op op_fdiv (pv 2) pe_int) (pe_op op_pow pe_int pe_int))) pa_nil))))) (pe_op op_mod (pv 2) pe_int) (fun _ _ => rfl))))
    (pss_cons (ps_if (pt_not (pt_truth (pe_callD D_law_good hr (pa_cons pe_int (pa_cons (pv 1) (pa_cons (pv 3) (pa_cons (pe_cmpR oLe (pv 1) (pv 3) (nomark _)) pa_nil))))) (fun _ => rfl))) (pss_one (ps_ret pe_bl)) pss_nil)
    (pss_cons (ps_set (i := 4) sc_law.nd rfl (by first | exact Or.inl rfl | exact Or.inr rfl) (pe_callD D_law_text hr (pa_cons (pv 0) pa_nil)))
    (pss_cons (ps_set (i := 5) sc_law.nd rfl (by first | exact Or.inl rfl | exact Or.inr rfl) (pe_cmpR oEq (pe_callB call_len rfl nb.len_ bo_len (pa_cons (pe_comp ["_law_sign"] [] rfl (by decide +kernel) trivial (piAll (pv 4)) (fun _ _ _ _ _ => (pg_name (i := 0) (show (["_law_sign"] : List Str).Nodup by decide +kernel) rfl (by first | exact Or.inl rfl | exact Or.inr rfl))) (fun _ _ _ _ _ => (pts_one (PW.pt (pw_or (pt_truth (pe_bm0 PySem.F.plainAttrs_str PySem.F.slot_str_isalpha PySem.F.type_str_isalpha mt_isalpha (pv 0)) (fun _ => rfl)) (pw_or1 (pt_truth (pe_bm0 PySem.F.plainAttrs_str PySem.F.slot_str_isdigit PySem.F.type_str_isdigit mt_isdigit (pv 0)) (fun _ => rfl))))))) (fun _ _ _ _ _ => (pv 0))) pa_nil)) (pe_callB call_len rfl nb.len_ bo_len (pa_cons (pv 4) pa_nil)) (nomark _)))
    (pss_cons (ps_set (i := 5) sc_law.nd rfl (by first | exact Or.inl rfl | exact Or.inr rfl) (pe_and (pv 5) (pe_and (pe_cmpR oLt pe_int (pe_callB call_len rfl nb.len_ bo_len (pa_cons (pv 4) pa_nil)) (nomark _)) (pe_and (pe_cmpR oLe (pe_callB call_len rfl nb.len_ bo_len (pa_cons (pv 4) pa_nil)) pe_int (nomark _)) (pe_one (pe_cmpR oEq (pe_lenset rfl rfl nb.len_ rfl nb.set_ (pv 4)) (pe_callB call_len rfl nb.len_ bo_len (pa_cons (pv 4) pa_nil)) (nomark _)))))))
    (pss_cons (ps_if (pt_not (pt_truth (pe_callD D_law_good hr (pa_cons pe_int (pa_cons (pv 4) (pa_cons pe_int (pa_cons (pv 5) pa_nil))))) (fun _ => rfl))) (pss_one (ps_ret pe_bl)) pss_nil)
    (pss_cons (ps_set (i := 6) sc_law.nd rfl (by first | exact Or.inl rfl | exact Or.inr rfl) (pe_callD D_law_parts hr (pa_cons (pv 0) pa_nil)))
    (pss_one (ps_ret (pe_and (pe_callD D_law_good hr (pa_cons pe_int (pa_cons (pe_callTy call_list_of rfl nb.list_ bo_list (pa_cons (pv 6) pa_nil)) (pa_cons pe_int (pa_cons (pe_callD D_law_named hr (pa_cons (pv 6) pa_nil)) pa_nil))))) (pe_one (pe_callD D_law_good hr (pa_cons pe_int (pa_cons (pe_callTy call_list_of rfl nb.list_ bo_list (pa_cons (pv 6) pa_nil)) (pa_cons pe_int (pa_cons (pe_callD D_law_named hr (pa_cons (pv 6) pa_nil)) pa_nil)))))))))))))))))), ?_⟩
  refine ⟨_, rfl, a, ns, 0, rfl, hS, hl, ?_⟩
  generalize ns.getD 0 0 = c0
  have pw : ∀ n : Int, n = 57 ∨ n = 56 → CPow 10 n := fun n hn => by rcases hn with rfl | rfl <;> (refine ⟨?_, ?_, ?_⟩ <;> decide)
  refine ⟨_, _, rfl, rfl, pw _ (.inl rfl), _, _, rfl, rfl, p57.1, _, _, rfl, rfl, pw _ (.inr rfl), _, _, rfl, rfl, ?_⟩
  have b1 := Int.emod_nonneg c0 (b := 10 ^ Int.toNat 57) (Int.ne_of_gt p57.1)
  have b2 := Int.emod_lt_of_pos c0 (b := 10 ^ Int.toNat 57) p57.1
  have p57' := p57
  have p56' := p56
  have blow : -(10 : Int) ^ 58 ≤ c0 % 10 ^ Int.toNat 57 - 10 ^ Int.toNat 56 ∧ c0 % 10 ^ Int.toNat 57 - 10 ^ Int.toNat 56 ≤ 10 ^ 58 := by
    generalize (10 : Int) ^ Int.toNat 57 = A at *
    generalize (10 : Int) ^ Int.toNat 56 = B at *
    generalize c0 % A = R at *
    omega
  dsimp only
  generalize c0 % 10 ^ Int.toNat 57 - 10 ^ Int.toNat 56 = low at blow ⊢
  refine ⟨_, rfl, a, ns, 1, rfl, hS, hl, ?_⟩
  generalize ns.getD 1 0 = c1
  have b3 := Int.emod_nonneg (c1 / 4) (b := 10 ^ Int.toNat 56) (Int.ne_of_gt p56.1)
  have b4 := Int.emod_lt_of_pos (c1 / 4) (b := 10 ^ Int.toNat 56) p56.1
  refine ⟨_, rfl, _, rfl, _, _, rfl, rfl, ⟨by decide, by decide⟩, _, _, rfl, rfl, pw _ (.inr rfl), _, _, rfl, rfl, p56.1, _, rfl, _, rfl, _, rfl, _, _, rfl, rfl, ⟨by decide, by decide⟩, _, _, rfl, rfl, pw _ (.inr rfl), _, _, rfl, rfl, p56.1, _, _, rfl, rfl, (by show 4 ≤ sizeLine; decide), fun g hg => ?_⟩
  dsimp only
  generalize c1 / 4 % 10 ^ Int.toNat 56 = d1 at b3 b4 ⊢
  obtain ⟨x, hx, hx1⟩ := atI_modG V.int [d1, 0, -1, -1 - d1] c1 4 rfl (by show 0 < 4; decide)
  have hxb : -(10 : Int) ^ 58 - 1 ≤ x ∧ x ≤ 10 ^ 58 := by
    generalize (10 : Int) ^ Int.toNat 56 = B at *
    rcases List.mem_cons.mp hx with rfl | hx
    · omega
    rcases List.mem_cons.mp hx with rfl | hx
    · omega
    rcases List.mem_cons.mp hx with rfl | hx
    · omega
    rcases List.mem_cons.mp hx with rfl | hx
    · omega
    cases hx
  refine ⟨_, rfl, _, _, rfl, rfl, (by show (0 : Int) < 4; decide), .inl (.inl ⟨_, _, _, _, rfl, rfl, SqL.of upd_same, hx1, .inl ⟨_, _, rfl, rfl, ?_⟩⟩)⟩
  have hhi : (low + x).natAbs < 10 ^ 60 := by omega
  have hlo : low.natAbs < 10 ^ 60 := by omega
  dsimp only
  generalize low + x = high at hhi ⊢
  have hs := same_new (o := HO.lst [V.int d1, V.int 0, V.int (-1), V.int (-1 - d1)]) hg
  generalize upd H g (HO.lst [V.int d1, V.int 0, V.int (-1), V.int (-1 - d1)]) = H1 at hs ⊢
  refine ⟨_, rfl, _, rfl, _, rfl, _, rfl, _, _, rfl, rfl, 0, _, _, _, shS low high, 0, rfl, .inl ⟨rfl, low, high, rfl, rfl, hlo, hhi, rfl, rfl⟩, fun _ => ⟨true, rfl, iteF ?_⟩, fun z => absurd z (by decide)⟩
  refine ⟨_, rfl, a, ns, rfl, hs.seq hS, hl, fun sg tg => ?_⟩
  have hn := tg.n
  have lsg : sg.length ≤ sizeLine := small5 (by omega)
  have hds := dsT_le sg
  refine .inr ⟨_, rfl, sg, rfl, fun D hD => ?_⟩
  refine comp_strF (fun c => Txt.isalpha ⟨#[c]⟩ || Txt.isdigit ⟨#[c]⟩) (fun c => .str ⟨#[c]⟩) (fun σ => ∃ z, σ = [z]) lsg ⟨_, rfl⟩ hD ?_ ?_
  · rintro ch hch σ1 H2 ⟨z, rfl⟩ hs1 R R' hR
    have hR := hR [some (.str ⟨#[ch]⟩)] ⟨_, rfl⟩
    refine ⟨_, rfl, rfl, _, rfl, rfl, _, rfl, ?_⟩
    cases h1 : Txt.isalpha ⟨#[ch]⟩ with
    | true =>
      rw [h1, Bool.true_or, if_pos rfl] at hR
      exact iteT (iteT ⟨_, rfl, hR⟩)
    | false =>
      rw [h1, Bool.false_or] at hR
      refine iteF ⟨_, rfl, rfl, _, rfl, rfl, _, rfl, ?_⟩
      cases h2 : Txt.isdigit ⟨#[ch]⟩ with
      | true =>
        rw [h2, if_pos rfl] at hR
        exact iteT ⟨_, rfl, hR⟩
      | false =>
        rw [h2, if_neg Bool.false_ne_true] at hR
        exact iteF hR
  have hs := hs.trans (same_new (o := HO.lst ((sg.cps.toList.filter fun c => Txt.isalpha ⟨#[c]⟩ || Txt.isdigit ⟨#[c]⟩).map fun c => V.str ⟨#[c]⟩)) hD)
  refine ⟨_, _, rfl, .inl ⟨_, SqL.of upd_same, rfl⟩, _, rfl, _, _, rfl, ⟨lsg, rfl⟩, rfl, ?_⟩
  rw [List.length_map, alnum_len tg]
  generalize upd H1 D (HO.lst ((sg.cps.toList.filter fun c => Txt.isalpha ⟨#[c]⟩ || Txt.isdigit ⟨#[c]⟩).map fun c => V.str ⟨#[c]⟩)) = H2 at hs ⊢
  refine ⟨_, rfl, madeOf sg L62, rfl, ?_⟩
  cases hb1 : madeOf sg L62 with
  | false =>
    have hg : false = goodText sg := by unfold goodText; rw [hb1, Bool.and_false]
    refine iteF ?_
    rw [hg]
    refine ⟨_, rfl, _, rfl, 1, _, _, goodText sg, shL sg, 0, rfl, .inr (.inl ⟨rfl, sg, rfl, rfl, by omega, rfl, rfl⟩), fun _ => ⟨true, rfl, iteF ?_⟩, fun z => absurd z (by decide)⟩
    refine ⟨_, rfl, a, ns, rfl, hs.seq hS, hl, fun p ps H' hE hP hF => ?_⟩
    have hs := hs.trans hE.s
    refine ⟨_, rfl, p, _, rfl, .inl (SqL.of hP.l), fun l1 h1 => ?_⟩
    have s1 := same_new (o := HO.lst (ps.map fun x => V.ref x.1)) h1
    have hP1 := hP.same s1
    refine ⟨_, rfl, p, ps, rfl, hP1, 2, _, _, _, _, l1, rfl, .inr (.inr (.inl ⟨rfl, ps, rfl, rfl, ⟨upd_same, hP1.t, hP.n, hP.b⟩, fun f hf => ?_, rfl, rfl⟩)), fun z => absurd z (by decide), fun _ l => ⟨true, rfl, iteT ?_⟩⟩
    · obtain ⟨d, hd⟩ := hF f hf
      exact ⟨d, s1 _ _ hd⟩
    rw [upd_upd']
    have s2 := same_new (o := HO.lst l) h1
    have hP2 := hP.same s2
    generalize upd H' l1 (HO.lst l) = H2 at s2 hP2 ⊢
    refine ⟨_, rfl, p, _, rfl, .inl (SqL.of hP2.l), fun l2 h2 => ?_⟩
    have s3 := same_new (o := HO.lst (ps.map fun x => V.ref x.1)) h2
    have hP3 := hP2.same s3
    refine ⟨_, rfl, p, ps, rfl, hP3, 3, _, _, _, _, l2, rfl, .inr (.inr (.inr ⟨rfl, ps, rfl, rfl, ⟨upd_same, hP3.t, hP.n, hP.b⟩, fun f hf => ?_, rfl, rfl⟩)), fun z => absurd z (by decide), fun _ l' => ?_⟩
    · obtain ⟨d, hd⟩ := hF f hf
      exact ⟨d, s3 _ _ (s2 _ _ hd)⟩
    rw [upd_upd']
    exact ⟨H, .refl ((hs.trans s2).trans (same_new h2)), q _⟩
  | true =>
    refine iteT ⟨_, rfl, _, _, rfl, ⟨lsg, rfl⟩, .inl ⟨_, _, rfl, rfl, _, rfl, iteD (fun d1 => ?_) (fun d1 => ?_)⟩⟩
    · refine ⟨_, rfl, _, _, rfl, ⟨lsg, rfl⟩, _, _, rfl, rfl, _, rfl, iteD (fun d2 => ?_) (fun d2 => ?_)⟩
      · refine ⟨_, rfl, _, _, texts_text sg, (by unfold scanBound; show sg.length + 1 < _; omega), _, rfl, _, _, rfl, ⟨lsg, rfl⟩, rfl, ?_⟩
        have hg : decide (V.int ((dsT sg : Nat) : Int) = V.int ((sg.length : Nat) : Int)) = goodText sg := by
          unfold goodText
          rw [hb1, Bool.and_true]
          exact decide_eq_decide.mpr ⟨fun z => ⟨by omega, by omega, by have := V.int.inj z; omega⟩, fun z => by rw [z.2.2]⟩
        have hg' : decide (V.int (((metT (signsOf sg) sg.cps.size).length : Nat) : Int) = V.int ((sg.length : Nat) : Int)) = goodText sg := hg
        rw [hg']
        refine ⟨_, rfl, _, rfl, 1, _, _, goodText sg, shL sg, 0, rfl, .inr (.inl ⟨rfl, sg, rfl, rfl, by omega, rfl, rfl⟩), fun _ => ⟨true, rfl, iteF ?_⟩, fun z => absurd z (by decide)⟩
        refine ⟨_, rfl, a, ns, rfl, hs.seq hS, hl, fun p ps H' hE hP hF => ?_⟩
        have hs := hs.trans hE.s
        refine ⟨_, rfl, p, _, rfl, .inl (SqL.of hP.l), fun l1 h1 => ?_⟩
        have s1 := same_new (o := HO.lst (ps.map fun x => V.ref x.1)) h1
        have hP1 := hP.same s1
        refine ⟨_, rfl, p, ps, rfl, hP1, 2, _, _, _, _, l1, rfl, .inr (.inr (.inl ⟨rfl, ps, rfl, rfl, ⟨upd_same, hP1.t, hP.n, hP.b⟩, fun f hf => ?_, rfl, rfl⟩)), fun z => absurd z (by decide), fun _ l => ⟨true, rfl, iteT ?_⟩⟩
        · obtain ⟨d, hd⟩ := hF f hf
          exact ⟨d, s1 _ _ hd⟩
        rw [upd_upd']
        have s2 := same_new (o := HO.lst l) h1
        have hP2 := hP.same s2
        generalize upd H' l1 (HO.lst l) = H2 at s2 hP2 ⊢
        refine ⟨_, rfl, p, _, rfl, .inl (SqL.of hP2.l), fun l2 h2 => ?_⟩
        have s3 := same_new (o := HO.lst (ps.map fun x => V.ref x.1)) h2
        have hP3 := hP2.same s3
        refine ⟨_, rfl, p, ps, rfl, hP3, 3, _, _, _, _, l2, rfl, .inr (.inr (.inr ⟨rfl, ps, rfl, rfl, ⟨upd_same, hP3.t, hP.n, hP.b⟩, fun f hf => ?_, rfl, rfl⟩)), fun z => absurd z (by decide), fun _ l' => ?_⟩
        · obtain ⟨d, hd⟩ := hF f hf
          exact ⟨d, s3 _ _ (s2 _ _ hd)⟩
        rw [upd_upd']
        exact ⟨H, .refl ((hs.trans s2).trans (same_new h2)), q _⟩
      · have hg : false = goodText sg := by unfold goodText; rw [decide_eq_false (fun z => d2 (by have := z.2.1; omega))]; rfl
        rw [hg]
        refine ⟨_, rfl, _, rfl, 1, _, _, goodText sg, shL sg, 0, rfl, .inr (.inl ⟨rfl, sg, rfl, rfl, by omega, rfl, rfl⟩), fun _ => ⟨true, rfl, iteF ?_⟩, fun z => absurd z (by decide)⟩
        refine ⟨_, rfl, a, ns, rfl, hs.seq hS, hl, fun p ps H' hE hP hF => ?_⟩
        have hs := hs.trans hE.s
        refine ⟨_, rfl, p, _, rfl, .inl (SqL.of hP.l), fun l1 h1 => ?_⟩
        have s1 := same_new (o := HO.lst (ps.map fun x => V.ref x.1)) h1
        have hP1 := hP.same s1
        refine ⟨_, rfl, p, ps, rfl, hP1, 2, _, _, _, _, l1, rfl, .inr (.inr (.inl ⟨rfl, ps, rfl, rfl, ⟨upd_same, hP1.t, hP.n, hP.b⟩, fun f hf => ?_, rfl, rfl⟩)), fun z => absurd z (by decide), fun _ l => ⟨true, rfl, iteT ?_⟩⟩
        · obtain ⟨d, hd⟩ := hF f hf
          exact ⟨d, s1 _ _ hd⟩
        rw [upd_upd']
        have s2 := same_new (o := HO.lst l) h1
        have hP2 := hP.same s2
        generalize upd H' l1 (HO.lst l) = H2 at s2 hP2 ⊢
        refine ⟨_, rfl, p, _, rfl, .inl (SqL.of hP2.l), fun l2 h2 => ?_⟩
        have s3 := same_new (o := HO.lst (ps.map fun x => V.ref x.1)) h2
        have hP3 := hP2.same s3
        refine ⟨_, rfl, p, ps, rfl, hP3, 3, _, _, _, _, l2, rfl, .inr (.inr (.inr ⟨rfl, ps, rfl, rfl, ⟨upd_same, hP3.t, hP.n, hP.b⟩, fun f hf => ?_, rfl, rfl⟩)), fun z => absurd z (by decide), fun _ l' => ?_⟩
        · obtain ⟨d, hd⟩ := hF f hf
          exact ⟨d, s3 _ _ (s2 _ _ hd)⟩
        rw [upd_upd']
        exact ⟨H, .refl ((hs.trans s2).trans (same_new h2)), q _⟩
    · have hg : false = goodText sg := by unfold goodText; rw [decide_eq_false (fun z => d1 (by have := z.1; omega))]; rfl
      rw [hg]
      refine ⟨_, rfl, _, rfl, 1, _, _, goodText sg, shL sg, 0, rfl, .inr (.inl ⟨rfl, sg, rfl, rfl, by omega, rfl, rfl⟩), fun _ => ⟨true, rfl, iteF ?_⟩, fun z => absurd z (by decide)⟩
      refine ⟨_, rfl, a, ns, rfl, hs.seq hS, hl, fun p ps H' hE hP hF => ?_⟩
      have hs := hs.trans hE.s
      refine ⟨_, rfl, p, _, rfl, .inl (SqL.of hP.l), fun l1 h1 => ?_⟩
      have s1 := same_new (o := HO.lst (ps.map fun x => V.ref x.1)) h1
      have hP1 := hP.same s1
      refine ⟨_, rfl, p, ps, rfl, hP1, 2, _, _, _, _, l1, rfl, .inr (.inr (.inl ⟨rfl, ps, rfl, rfl, ⟨upd_same, hP1.t, hP.n, hP.b⟩, fun f hf => ?_, rfl, rfl⟩)), fun z => absurd z (by decide), fun _ l => ⟨true, rfl, iteT ?_⟩⟩
      · obtain ⟨d, hd⟩ := hF f hf
        exact ⟨d, s1 _ _ hd⟩
      rw [upd_upd']
      have s2 := same_new (o := HO.lst l) h1
      have hP2 := hP.same s2
      generalize upd H' l1 (HO.lst l) = H2 at s2 hP2 ⊢
      refine ⟨_, rfl, p, _, rfl, .inl (SqL.of hP2.l), fun l2 h2 => ?_⟩
      have s3 := same_new (o := HO.lst (ps.map fun x => V.ref x.1)) h2
      have hP3 := hP2.same s3
      refine ⟨_, rfl, p, ps, rfl, hP3, 3, _, _, _, _, l2, rfl, .inr (.inr (.inr ⟨rfl, ps, rfl, rfl, ⟨upd_same, hP3.t, hP.n, hP.b⟩, fun f hf => ?_, rfl, rfl⟩)), fun z => absurd z (by decide), fun _ l' => ?_⟩
      · obtain ⟨d, hd⟩ := hF f hf
        exact ⟨d, s3 _ _ (s2 _ _ hd)⟩
      rw [upd_upd']
      exact ⟨H, .refl ((hs.trans s2).trans (same_new h2)), q _⟩
theorem ex1 (us : List Value) (hl : us.length = 1) : ∃ a : Value, us = [a] := match us, hl with | [a], _ => ⟨a, rfl⟩
theorem ex2 (us : List Value) (hl : us.length = 2) : ∃ a b : Value, us = [a, b] := match us, hl with | [a, b], _ => ⟨a, b, rfl⟩
theorem ex3 (us : List Value) (hl : us.length = 3) : ∃ a b c : Value, us = [a, b, c] := match us, hl with | [a, b, c], _ => ⟨a, b, c, rfl⟩
theorem ex4 (us : List Value) (hl : us.length = 4) : ∃ a b c d : Value, us = [a, b, c, d] := match us, hl with | [a, b, c, d], _ => ⟨a, b, c, d, rfl⟩
theorem all_mk {l : PySem.W.OpenLaw} {w : World} {K : PySem.W.Frag} {h : Heap} {mg : Str → Option Value} {fa : Addr} (X : K.In h) (G : h.Ns mainGlobals mg) (hfa : mg "law" = some (.ref fa))
    {C_Truth : Addr} {f_Truth_shown : Addr} {od_Truth_shown an_Truth_shown : Option Addr} {sl_Truth_shown : Array (Option Value)} {oc_Truth_shown kV_Truth_shown dc_Truth_shown pm_Truth_shown cd_Truth_shown ct_Truth_shown : Value} {C_Span : Addr} {f_Span_init : Addr} {od_Span_init an_Span_init : Option Addr} {sl_Span_init : Array (Option Value)} {oc_Span_init kV_Span_init dc_Span_init pm_Span_init cd_Span_init ct_Span_init : Value} {f_Span_shown : Addr} {od_Span_shown an_Span_shown : Option Addr} {sl_Span_shown : Array (Option Value)} {oc_Span_shown kV_Span_shown dc_Span_shown pm_Span_shown cd_Span_shown ct_Span_shown : Value} {C_Letters : Addr} {f_Letters_init : Addr} {od_Letters_init an_Letters_init : Option Addr} {sl_Letters_init : Array (Option Value)} {oc_Letters_init kV_Letters_init dc_Letters_init pm_Letters_init cd_Letters_init ct_Letters_init : Value} {f_Letters_shown : Addr} {od_Letters_shown an_Letters_shown : Option Addr} {sl_Letters_shown : Array (Option Value)} {oc_Letters_shown kV_Letters_shown dc_Letters_shown pm_Letters_shown cd_Letters_shown ct_Letters_shown : Value} {C_Record : Addr} {f_Record_init : Addr} {od_Record_init an_Record_init : Option Addr} {sl_Record_init : Array (Option Value)} {oc_Record_init kV_Record_init dc_Record_init pm_Record_init cd_Record_init ct_Record_init : Value} {f_Record_shown : Addr} {od_Record_shown an_Record_shown : Option Addr} {sl_Record_shown : Array (Option Value)} {oc_Record_shown kV_Record_shown dc_Record_shown pm_Record_shown cd_Record_shown ct_Record_shown : Value} {C_Choice : Addr} {f_Choice_init : Addr} {od_Choice_init an_Choice_init : Option Addr} {sl_Choice_init : Array (Option Value)} {oc_Choice_init kV_Choice_init dc_Choice_init pm_Choice_init cd_Choice_init ct_Choice_init : Value} {f_Choice_shown : Addr} {od_Choice_shown an_Choice_shown : Option Addr} {sl_Choice_shown : Array (Option Value)} {oc_Choice_shown kV_Choice_shown dc_Choice_shown pm_Choice_shown cd_Choice_shown ct_Choice_shown : Value} {C_RiseError : Addr} {C_NoFit : Addr} {C_Short : Addr} {C_Wrong : Addr} {C_Left : Addr} {C_NoForm : Addr} {C_NoText : Addr} {C_NotAhead : Addr} {C_BadPage : Addr} {C_Twice : Addr} {C_Lacking : Addr} {f_made_of : Addr} {od_made_of an_made_of : Option Addr} {sl_made_of : Array (Option Value)} {oc_made_of kV_made_of dc_made_of pm_made_of cd_made_of ct_made_of : Value} {f_is_name : Addr} {od_is_name an_is_name : Option Addr} {sl_is_name : Array (Option Value)} {oc_is_name kV_is_name dc_is_name pm_is_name cd_is_name ct_is_name : Value} {f_names_of : Addr} {od_names_of an_names_of : Option Addr} {sl_names_of : Array (Option Value)} {oc_names_of kV_names_of dc_names_of pm_names_of cd_names_of ct_names_of : Value} {f_shown_parts : Addr} {od_shown_parts an_shown_parts : Option Addr} {sl_shown_parts : Array (Option Value)} {oc_shown_parts kV_shown_parts dc_shown_parts pm_shown_parts cd_shown_parts ct_shown_parts : Value} {f_law_cell_at : Addr} {od_law_cell_at an_law_cell_at : Option Addr} {sl_law_cell_at : Array (Option Value)} {oc_law_cell_at kV_law_cell_at dc_law_cell_at pm_law_cell_at cd_law_cell_at ct_law_cell_at : Value} {f_law_kinds : Addr} {od_law_kinds an_law_kinds : Option Addr} {sl_law_kinds : Array (Option Value)} {oc_law_kinds kV_law_kinds dc_law_kinds pm_law_kinds cd_law_kinds ct_law_kinds : Value} {f_law_signs : Addr} {od_law_signs an_law_signs : Option Addr} {sl_law_signs : Array (Option Value)} {oc_law_signs kV_law_signs dc_law_signs pm_law_signs cd_law_signs ct_law_signs : Value} {f_law_names : Addr} {od_law_names an_law_names : Option Addr} {sl_law_names : Array (Option Value)} {oc_law_names kV_law_names dc_law_names pm_law_names cd_law_names ct_law_names : Value} {f_law_made : Addr} {od_law_made an_law_made : Option Addr} {sl_law_made : Array (Option Value)} {oc_law_made kV_law_made dc_law_made pm_law_made cd_law_made ct_law_made : Value} {f_law_good : Addr} {od_law_good an_law_good : Option Addr} {sl_law_good : Array (Option Value)} {oc_law_good kV_law_good dc_law_good pm_law_good cd_law_good ct_law_good : Value} {f_law_text : Addr} {od_law_text an_law_text : Option Addr} {sl_law_text : Array (Option Value)} {oc_law_text kV_law_text dc_law_text pm_law_text cd_law_text ct_law_text : Value} {f_law_parts : Addr} {od_law_parts an_law_parts : Option Addr} {sl_law_parts : Array (Option Value)} {oc_law_parts kV_law_parts dc_law_parts pm_law_parts cd_law_parts ct_law_parts : Value} {f_law_named : Addr} {od_law_named an_law_named : Option Addr} {sl_law_named : Array (Option Value)} {oc_law_named kV_law_named dc_law_named pm_law_named cd_law_named ct_law_named : Value} {f_law : Addr} {od_law an_law : Option Addr} {sl_law : Array (Option Value)} {oc_law kV_law dc_law pm_law cd_law ct_law : Value} {tk_MOST_SIGNS : Tok} {tk_MOST_PARTS : Tok} {tk_LONGEST_NAME : Tok} {tk_SMALL_LETTERS : Tok} {tk_LETTERS_AND_FIGURES : Tok}
    (aC_Truth : PySem.W.nsIn K mainGlobals "Truth" = some (some (.ref C_Truth)))
    (pg_Truth : PySem.W.plainGet K C_Truth Str.empty = true)
    (hd_Truth : PySem.W.hasDictIn K C_Truth = true)
    (po_Truth : PySem.W.plainOver K C_Truth = true)
    (sa_Truth : PySem.W.findIn K (.ref C_Truth) "__setattr__" = some (some (.builtin "object.__setattr__")))
    (mk_Truth : PySem.W.makesIn K C_Truth = true)
    (kc_Truth : PySem.W.keepIn K (.ref C_Truth) = true)
    (i0_Truth : PySem.W.findIn K (.ref C_Truth) "__init__" = some (some (.builtin "object.__init__")))
    (a_Truth_shown : PySem.W.findIn K (.ref C_Truth) "shown" = some (some (.ref f_Truth_shown)))
    (i_Truth_shown : PySem.W.isFn K (.ref f_Truth_shown) = true)
    (l_Truth_shown : K.lookup f_Truth_shown = some ⟨oc_Truth_shown, od_Truth_shown, .func (PySem.W.fnOf "shown" "Truth.shown" (defArgs s_Truth_shown) (defBody s_Truth_shown) (defScope s_Truth_shown) .none kV_Truth_shown dc_Truth_shown pm_Truth_shown an_Truth_shown cd_Truth_shown ct_Truth_shown), sl_Truth_shown⟩)
    (c_Truth_shown : PySem.W.codeIn K cd_Truth_shown "Truth.shown" = true)
    (k_Truth_shown : PySem.W.keepIn K (.ref f_Truth_shown) = true)
    (aC_Span : PySem.W.nsIn K mainGlobals "Span" = some (some (.ref C_Span)))
    (pg_Span : PySem.W.plainGet K C_Span Str.empty = true)
    (hd_Span : PySem.W.hasDictIn K C_Span = true)
    (po_Span : PySem.W.plainOver K C_Span = true)
    (sa_Span : PySem.W.findIn K (.ref C_Span) "__setattr__" = some (some (.builtin "object.__setattr__")))
    (mk_Span : PySem.W.makesIn K C_Span = true)
    (kc_Span : PySem.W.keepIn K (.ref C_Span) = true)
    (n_Span_low : PySem.W.findIn K (.ref C_Span) "low" = some none)
    (n_Span_high : PySem.W.findIn K (.ref C_Span) "high" = some none)
    (a_Span_init : PySem.W.findIn K (.ref C_Span) "__init__" = some (some (.ref f_Span_init)))
    (i_Span_init : PySem.W.isFn K (.ref f_Span_init) = true)
    (l_Span_init : K.lookup f_Span_init = some ⟨oc_Span_init, od_Span_init, .func (PySem.W.fnOf "__init__" "Span.__init__" (defArgs s_Span_init) (defBody s_Span_init) (defScope s_Span_init) .none kV_Span_init dc_Span_init pm_Span_init an_Span_init cd_Span_init ct_Span_init), sl_Span_init⟩)
    (c_Span_init : PySem.W.codeIn K cd_Span_init "Span.__init__" = true)
    (k_Span_init : PySem.W.keepIn K (.ref f_Span_init) = true)
    (a_Span_shown : PySem.W.findIn K (.ref C_Span) "shown" = some (some (.ref f_Span_shown)))
    (i_Span_shown : PySem.W.isFn K (.ref f_Span_shown) = true)
    (l_Span_shown : K.lookup f_Span_shown = some ⟨oc_Span_shown, od_Span_shown, .func (PySem.W.fnOf "shown" "Span.shown" (defArgs s_Span_shown) (defBody s_Span_shown) (defScope s_Span_shown) .none kV_Span_shown dc_Span_shown pm_Span_shown an_Span_shown cd_Span_shown ct_Span_shown), sl_Span_shown⟩)
    (c_Span_shown : PySem.W.codeIn K cd_Span_shown "Span.shown" = true)
    (k_Span_shown : PySem.W.keepIn K (.ref f_Span_shown) = true)
    (aC_Letters : PySem.W.nsIn K mainGlobals "Letters" = some (some (.ref C_Letters)))
    (pg_Letters : PySem.W.plainGet K C_Letters Str.empty = true)
    (hd_Letters : PySem.W.hasDictIn K C_Letters = true)
    (po_Letters : PySem.W.plainOver K C_Letters = true)
    (sa_Letters : PySem.W.findIn K (.ref C_Letters) "__setattr__" = some (some (.builtin "object.__setattr__")))
    (mk_Letters : PySem.W.makesIn K C_Letters = true)
    (kc_Letters : PySem.W.keepIn K (.ref C_Letters) = true)
    (n_Letters_signs : PySem.W.findIn K (.ref C_Letters) "signs" = some none)
    (a_Letters_init : PySem.W.findIn K (.ref C_Letters) "__init__" = some (some (.ref f_Letters_init)))
    (i_Letters_init : PySem.W.isFn K (.ref f_Letters_init) = true)
    (l_Letters_init : K.lookup f_Letters_init = some ⟨oc_Letters_init, od_Letters_init, .func (PySem.W.fnOf "__init__" "Letters.__init__" (defArgs s_Letters_init) (defBody s_Letters_init) (defScope s_Letters_init) .none kV_Letters_init dc_Letters_init pm_Letters_init an_Letters_init cd_Letters_init ct_Letters_init), sl_Letters_init⟩)
    (c_Letters_init : PySem.W.codeIn K cd_Letters_init "Letters.__init__" = true)
    (k_Letters_init : PySem.W.keepIn K (.ref f_Letters_init) = true)
    (a_Letters_shown : PySem.W.findIn K (.ref C_Letters) "shown" = some (some (.ref f_Letters_shown)))
    (i_Letters_shown : PySem.W.isFn K (.ref f_Letters_shown) = true)
    (l_Letters_shown : K.lookup f_Letters_shown = some ⟨oc_Letters_shown, od_Letters_shown, .func (PySem.W.fnOf "shown" "Letters.shown" (defArgs s_Letters_shown) (defBody s_Letters_shown) (defScope s_Letters_shown) .none kV_Letters_shown dc_Letters_shown pm_Letters_shown an_Letters_shown cd_Letters_shown ct_Letters_shown), sl_Letters_shown⟩)
    (c_Letters_shown : PySem.W.codeIn K cd_Letters_shown "Letters.shown" = true)
    (k_Letters_shown : PySem.W.keepIn K (.ref f_Letters_shown) = true)
    (aC_Record : PySem.W.nsIn K mainGlobals "Record" = some (some (.ref C_Record)))
    (pg_Record : PySem.W.plainGet K C_Record Str.empty = true)
    (hd_Record : PySem.W.hasDictIn K C_Record = true)
    (po_Record : PySem.W.plainOver K C_Record = true)
    (sa_Record : PySem.W.findIn K (.ref C_Record) "__setattr__" = some (some (.builtin "object.__setattr__")))
    (mk_Record : PySem.W.makesIn K C_Record = true)
    (kc_Record : PySem.W.keepIn K (.ref C_Record) = true)
    (n_Record_names : PySem.W.findIn K (.ref C_Record) "names" = some none)
    (n_Record_forms : PySem.W.findIn K (.ref C_Record) "forms" = some none)
    (a_Record_init : PySem.W.findIn K (.ref C_Record) "__init__" = some (some (.ref f_Record_init)))
    (i_Record_init : PySem.W.isFn K (.ref f_Record_init) = true)
    (l_Record_init : K.lookup f_Record_init = some ⟨oc_Record_init, od_Record_init, .func (PySem.W.fnOf "__init__" "Record.__init__" (defArgs s_Record_init) (defBody s_Record_init) (defScope s_Record_init) .none kV_Record_init dc_Record_init pm_Record_init an_Record_init cd_Record_init ct_Record_init), sl_Record_init⟩)
    (c_Record_init : PySem.W.codeIn K cd_Record_init "Record.__init__" = true)
    (k_Record_init : PySem.W.keepIn K (.ref f_Record_init) = true)
    (a_Record_shown : PySem.W.findIn K (.ref C_Record) "shown" = some (some (.ref f_Record_shown)))
    (i_Record_shown : PySem.W.isFn K (.ref f_Record_shown) = true)
    (l_Record_shown : K.lookup f_Record_shown = some ⟨oc_Record_shown, od_Record_shown, .func (PySem.W.fnOf "shown" "Record.shown" (defArgs s_Record_shown) (defBody s_Record_shown) (defScope s_Record_shown) .none kV_Record_shown dc_Record_shown pm_Record_shown an_Record_shown cd_Record_shown ct_Record_shown), sl_Record_shown⟩)
    (c_Record_shown : PySem.W.codeIn K cd_Record_shown "Record.shown" = true)
    (k_Record_shown : PySem.W.keepIn K (.ref f_Record_shown) = true)
    (aC_Choice : PySem.W.nsIn K mainGlobals "Choice" = some (some (.ref C_Choice)))
    (pg_Choice : PySem.W.plainGet K C_Choice Str.empty = true)
    (hd_Choice : PySem.W.hasDictIn K C_Choice = true)
    (po_Choice : PySem.W.plainOver K C_Choice = true)
    (sa_Choice : PySem.W.findIn K (.ref C_Choice) "__setattr__" = some (some (.builtin "object.__setattr__")))
    (mk_Choice : PySem.W.makesIn K C_Choice = true)
    (kc_Choice : PySem.W.keepIn K (.ref C_Choice) = true)
    (n_Choice_names : PySem.W.findIn K (.ref C_Choice) "names" = some none)
    (n_Choice_forms : PySem.W.findIn K (.ref C_Choice) "forms" = some none)
    (a_Choice_init : PySem.W.findIn K (.ref C_Choice) "__init__" = some (some (.ref f_Choice_init)))
    (i_Choice_init : PySem.W.isFn K (.ref f_Choice_init) = true)
    (l_Choice_init : K.lookup f_Choice_init = some ⟨oc_Choice_init, od_Choice_init, .func (PySem.W.fnOf "__init__" "Choice.__init__" (defArgs s_Choice_init) (defBody s_Choice_init) (defScope s_Choice_init) .none kV_Choice_init dc_Choice_init pm_Choice_init an_Choice_init cd_Choice_init ct_Choice_init), sl_Choice_init⟩)
    (c_Choice_init : PySem.W.codeIn K cd_Choice_init "Choice.__init__" = true)
    (k_Choice_init : PySem.W.keepIn K (.ref f_Choice_init) = true)
    (a_Choice_shown : PySem.W.findIn K (.ref C_Choice) "shown" = some (some (.ref f_Choice_shown)))
    (i_Choice_shown : PySem.W.isFn K (.ref f_Choice_shown) = true)
    (l_Choice_shown : K.lookup f_Choice_shown = some ⟨oc_Choice_shown, od_Choice_shown, .func (PySem.W.fnOf "shown" "Choice.shown" (defArgs s_Choice_shown) (defBody s_Choice_shown) (defScope s_Choice_shown) .none kV_Choice_shown dc_Choice_shown pm_Choice_shown an_Choice_shown cd_Choice_shown ct_Choice_shown), sl_Choice_shown⟩)
    (c_Choice_shown : PySem.W.codeIn K cd_Choice_shown "Choice.shown" = true)
    (k_Choice_shown : PySem.W.keepIn K (.ref f_Choice_shown) = true)
    (aC_RiseError : PySem.W.nsIn K mainGlobals "RiseError" = some (some (.ref C_RiseError)))
    (aC_NoFit : PySem.W.nsIn K mainGlobals "NoFit" = some (some (.ref C_NoFit)))
    (aC_Short : PySem.W.nsIn K mainGlobals "Short" = some (some (.ref C_Short)))
    (aC_Wrong : PySem.W.nsIn K mainGlobals "Wrong" = some (some (.ref C_Wrong)))
    (aC_Left : PySem.W.nsIn K mainGlobals "Left" = some (some (.ref C_Left)))
    (aC_NoForm : PySem.W.nsIn K mainGlobals "NoForm" = some (some (.ref C_NoForm)))
    (aC_NoText : PySem.W.nsIn K mainGlobals "NoText" = some (some (.ref C_NoText)))
    (aC_NotAhead : PySem.W.nsIn K mainGlobals "NotAhead" = some (some (.ref C_NotAhead)))
    (aC_BadPage : PySem.W.nsIn K mainGlobals "BadPage" = some (some (.ref C_BadPage)))
    (aC_Twice : PySem.W.nsIn K mainGlobals "Twice" = some (some (.ref C_Twice)))
    (aC_Lacking : PySem.W.nsIn K mainGlobals "Lacking" = some (some (.ref C_Lacking)))
    (xga_RiseError : PySem.W.findIn K (.ref C_RiseError) "__getattribute__" = some (some (.builtin "BaseException.__getattribute__")))
    (xgt_RiseError : PySem.W.findIn K (.ref C_RiseError) "__getattr__" = some none)
    (xcl_RiseError : PySem.W.findIn K (.ref C_RiseError) "__class__" = some (some (.builtin "object.__class__")))
    (xob_RiseError : PySem.W.mroIn K C_RiseError (.type "object") = some true)
    (xbe_RiseError : PySem.W.mroIn K C_RiseError (.type "BaseException") = some true)
    (xis_RiseError : PySem.W.isClsIn K C_RiseError = true)
    (xhn_RiseError : PySem.W.specialIn K (.builtin "object.__class__") "__get__" = some (some (.builtin "getset_descriptor.__get__")))
    (xtk_RiseError : PySem.W.takesIn K (.builtin "object.__class__") = some true)
    (xt_RiseError : PySem.W.typeIn K (.ref C_RiseError) = some (.type "type"))
    (xga_NoForm : PySem.W.findIn K (.ref C_NoForm) "__getattribute__" = some (some (.builtin "BaseException.__getattribute__")))
    (xgt_NoForm : PySem.W.findIn K (.ref C_NoForm) "__getattr__" = some none)
    (xcl_NoForm : PySem.W.findIn K (.ref C_NoForm) "__class__" = some (some (.builtin "object.__class__")))
    (xob_NoForm : PySem.W.mroIn K C_NoForm (.type "object") = some true)
    (xbe_NoForm : PySem.W.mroIn K C_NoForm (.type "BaseException") = some true)
    (xis_NoForm : PySem.W.isClsIn K C_NoForm = true)
    (xhn_NoForm : PySem.W.specialIn K (.builtin "object.__class__") "__get__" = some (some (.builtin "getset_descriptor.__get__")))
    (xtk_NoForm : PySem.W.takesIn K (.builtin "object.__class__") = some true)
    (xt_NoForm : PySem.W.typeIn K (.ref C_NoForm) = some (.type "type"))
    (xi_NoForm : PySem.W.excIn K C_NoForm bmV "ValueError.__new__" = true)
    (kt_NoForm_NoFit : PySem.W.kitOne K (.ref C_NoForm) (.ref C_NoFit) = some false)
    (kt_NoForm_Short : PySem.W.kitOne K (.ref C_NoForm) (.ref C_Short) = some false)
    (kt_NoForm_Wrong : PySem.W.kitOne K (.ref C_NoForm) (.ref C_Wrong) = some false)
    (kt_NoForm_Left : PySem.W.kitOne K (.ref C_NoForm) (.ref C_Left) = some false)
    (kt_NoForm_NoText : PySem.W.kitOne K (.ref C_NoForm) (.ref C_NoText) = some false)
    (kt_NoForm_NotAhead : PySem.W.kitOne K (.ref C_NoForm) (.ref C_NotAhead) = some false)
    (kt_NoForm_BadPage : PySem.W.kitOne K (.ref C_NoForm) (.ref C_BadPage) = some false)
    (kt_NoForm_Twice : PySem.W.kitOne K (.ref C_NoForm) (.ref C_Twice) = some false)
    (kt_NoForm_Lacking : PySem.W.kitOne K (.ref C_NoForm) (.ref C_Lacking) = some false)
    (kt_NoForm_ValueError : PySem.W.kitOne K (.ref C_NoForm) (.type "ValueError") = some true)
    (mr_NoForm_RiseError : PySem.W.mroIn K C_NoForm (.ref C_RiseError) = some true)
    (a_made_of : PySem.W.nsIn K mainGlobals "made_of" = some (some (.ref f_made_of)))
    (l_made_of : K.lookup f_made_of = some ⟨oc_made_of, od_made_of, .func (PySem.W.fnOf "made_of" "made_of" (defArgs s_made_of) (defBody s_made_of) (defScope s_made_of) .none kV_made_of dc_made_of pm_made_of an_made_of cd_made_of ct_made_of), sl_made_of⟩)
    (c_made_of : PySem.W.codeIn K cd_made_of "made_of" = true)
    (k_made_of : PySem.W.keepIn K (.ref f_made_of) = true)
    (a_is_name : PySem.W.nsIn K mainGlobals "is_name" = some (some (.ref f_is_name)))
    (l_is_name : K.lookup f_is_name = some ⟨oc_is_name, od_is_name, .func (PySem.W.fnOf "is_name" "is_name" (defArgs s_is_name) (defBody s_is_name) (defScope s_is_name) .none kV_is_name dc_is_name pm_is_name an_is_name cd_is_name ct_is_name), sl_is_name⟩)
    (c_is_name : PySem.W.codeIn K cd_is_name "is_name" = true)
    (k_is_name : PySem.W.keepIn K (.ref f_is_name) = true)
    (a_names_of : PySem.W.nsIn K mainGlobals "names_of" = some (some (.ref f_names_of)))
    (l_names_of : K.lookup f_names_of = some ⟨oc_names_of, od_names_of, .func (PySem.W.fnOf "names_of" "names_of" (defArgs s_names_of) (defBody s_names_of) (defScope s_names_of) .none kV_names_of dc_names_of pm_names_of an_names_of cd_names_of ct_names_of), sl_names_of⟩)
    (c_names_of : PySem.W.codeIn K cd_names_of "names_of" = true)
    (k_names_of : PySem.W.keepIn K (.ref f_names_of) = true)
    (a_shown_parts : PySem.W.nsIn K mainGlobals "shown_parts" = some (some (.ref f_shown_parts)))
    (l_shown_parts : K.lookup f_shown_parts = some ⟨oc_shown_parts, od_shown_parts, .func (PySem.W.fnOf "shown_parts" "shown_parts" (defArgs s_shown_parts) (defBody s_shown_parts) (defScope s_shown_parts) .none kV_shown_parts dc_shown_parts pm_shown_parts an_shown_parts cd_shown_parts ct_shown_parts), sl_shown_parts⟩)
    (c_shown_parts : PySem.W.codeIn K cd_shown_parts "shown_parts" = true)
    (k_shown_parts : PySem.W.keepIn K (.ref f_shown_parts) = true)
    (a_law_cell_at : PySem.W.nsIn K mainGlobals "_law_cell_at" = some (some (.ref f_law_cell_at)))
    (l_law_cell_at : K.lookup f_law_cell_at = some ⟨oc_law_cell_at, od_law_cell_at, .func (PySem.W.fnOf "_law_cell_at" "_law_cell_at" (defArgs s_law_cell_at) (defBody s_law_cell_at) (defScope s_law_cell_at) .none kV_law_cell_at dc_law_cell_at pm_law_cell_at an_law_cell_at cd_law_cell_at ct_law_cell_at), sl_law_cell_at⟩)
    (c_law_cell_at : PySem.W.codeIn K cd_law_cell_at "_law_cell_at" = true)
    (k_law_cell_at : PySem.W.keepIn K (.ref f_law_cell_at) = true)
    (a_law_kinds : PySem.W.nsIn K mainGlobals "_law_kinds" = some (some (.ref f_law_kinds)))
    (l_law_kinds : K.lookup f_law_kinds = some ⟨oc_law_kinds, od_law_kinds, .func (PySem.W.fnOf "_law_kinds" "_law_kinds" (defArgs s_law_kinds) (defBody s_law_kinds) (defScope s_law_kinds) .none kV_law_kinds dc_law_kinds pm_law_kinds an_law_kinds cd_law_kinds ct_law_kinds), sl_law_kinds⟩)
    (c_law_kinds : PySem.W.codeIn K cd_law_kinds "_law_kinds" = true)
    (k_law_kinds : PySem.W.keepIn K (.ref f_law_kinds) = true)
    (a_law_signs : PySem.W.nsIn K mainGlobals "_law_signs" = some (some (.ref f_law_signs)))
    (l_law_signs : K.lookup f_law_signs = some ⟨oc_law_signs, od_law_signs, .func (PySem.W.fnOf "_law_signs" "_law_signs" (defArgs s_law_signs) (defBody s_law_signs) (defScope s_law_signs) .none kV_law_signs dc_law_signs pm_law_signs an_law_signs cd_law_signs ct_law_signs), sl_law_signs⟩)
    (c_law_signs : PySem.W.codeIn K cd_law_signs "_law_signs" = true)
    (k_law_signs : PySem.W.keepIn K (.ref f_law_signs) = true)
    (a_law_names : PySem.W.nsIn K mainGlobals "_law_names" = some (some (.ref f_law_names)))
    (l_law_names : K.lookup f_law_names = some ⟨oc_law_names, od_law_names, .func (PySem.W.fnOf "_law_names" "_law_names" (defArgs s_law_names) (defBody s_law_names) (defScope s_law_names) .none kV_law_names dc_law_names pm_law_names an_law_names cd_law_names ct_law_names), sl_law_names⟩)
    (c_law_names : PySem.W.codeIn K cd_law_names "_law_names" = true)
    (k_law_names : PySem.W.keepIn K (.ref f_law_names) = true)
    (a_law_made : PySem.W.nsIn K mainGlobals "_law_made" = some (some (.ref f_law_made)))
    (l_law_made : K.lookup f_law_made = some ⟨oc_law_made, od_law_made, .func (PySem.W.fnOf "_law_made" "_law_made" (defArgs s_law_made) (defBody s_law_made) (defScope s_law_made) .none kV_law_made dc_law_made pm_law_made an_law_made cd_law_made ct_law_made), sl_law_made⟩)
    (c_law_made : PySem.W.codeIn K cd_law_made "_law_made" = true)
    (k_law_made : PySem.W.keepIn K (.ref f_law_made) = true)
    (a_law_good : PySem.W.nsIn K mainGlobals "_law_good" = some (some (.ref f_law_good)))
    (l_law_good : K.lookup f_law_good = some ⟨oc_law_good, od_law_good, .func (PySem.W.fnOf "_law_good" "_law_good" (defArgs s_law_good) (defBody s_law_good) (defScope s_law_good) .none kV_law_good dc_law_good pm_law_good an_law_good cd_law_good ct_law_good), sl_law_good⟩)
    (c_law_good : PySem.W.codeIn K cd_law_good "_law_good" = true)
    (k_law_good : PySem.W.keepIn K (.ref f_law_good) = true)
    (a_law_text : PySem.W.nsIn K mainGlobals "_law_text" = some (some (.ref f_law_text)))
    (l_law_text : K.lookup f_law_text = some ⟨oc_law_text, od_law_text, .func (PySem.W.fnOf "_law_text" "_law_text" (defArgs s_law_text) (defBody s_law_text) (defScope s_law_text) .none kV_law_text dc_law_text pm_law_text an_law_text cd_law_text ct_law_text), sl_law_text⟩)
    (c_law_text : PySem.W.codeIn K cd_law_text "_law_text" = true)
    (k_law_text : PySem.W.keepIn K (.ref f_law_text) = true)
    (a_law_parts : PySem.W.nsIn K mainGlobals "_law_parts" = some (some (.ref f_law_parts)))
    (l_law_parts : K.lookup f_law_parts = some ⟨oc_law_parts, od_law_parts, .func (PySem.W.fnOf "_law_parts" "_law_parts" (defArgs s_law_parts) (defBody s_law_parts) (defScope s_law_parts) .none kV_law_parts dc_law_parts pm_law_parts an_law_parts cd_law_parts ct_law_parts), sl_law_parts⟩)
    (c_law_parts : PySem.W.codeIn K cd_law_parts "_law_parts" = true)
    (k_law_parts : PySem.W.keepIn K (.ref f_law_parts) = true)
    (a_law_named : PySem.W.nsIn K mainGlobals "_law_named" = some (some (.ref f_law_named)))
    (l_law_named : K.lookup f_law_named = some ⟨oc_law_named, od_law_named, .func (PySem.W.fnOf "_law_named" "_law_named" (defArgs s_law_named) (defBody s_law_named) (defScope s_law_named) .none kV_law_named dc_law_named pm_law_named an_law_named cd_law_named ct_law_named), sl_law_named⟩)
    (c_law_named : PySem.W.codeIn K cd_law_named "_law_named" = true)
    (k_law_named : PySem.W.keepIn K (.ref f_law_named) = true)
    (a_law : PySem.W.nsIn K mainGlobals "law" = some (some (.ref f_law)))
    (l_law : K.lookup f_law = some ⟨oc_law, od_law, .func (PySem.W.fnOf "law" "law" (defArgs s_law) (defBody s_law) (defScope s_law) .none kV_law dc_law pm_law an_law cd_law ct_law), sl_law⟩)
    (c_law : PySem.W.codeIn K cd_law "law" = true)
    (k_law : PySem.W.keepIn K (.ref f_law) = true)
    (z_len : PySem.W.nsIn K mainGlobals "len" = some none)
    (z_range : PySem.W.nsIn K mainGlobals "range" = some none)
    (z_int : PySem.W.nsIn K mainGlobals "int" = some none)
    (z_str : PySem.W.nsIn K mainGlobals "str" = some none)
    (z_bool : PySem.W.nsIn K mainGlobals "bool" = some none)
    (z_tuple : PySem.W.nsIn K mainGlobals "tuple" = some none)
    (z_isinstance : PySem.W.nsIn K mainGlobals "isinstance" = some none)
    (z_list : PySem.W.nsIn K mainGlobals "list" = some none)
    (z_all : PySem.W.nsIn K mainGlobals "all" = some none)
    (z_zip : PySem.W.nsIn K mainGlobals "zip" = some none)
    (z_set : PySem.W.nsIn K mainGlobals "set" = some none)
    (z_ValueError : PySem.W.nsIn K mainGlobals "ValueError" = some none)
    (g0_MOST_SIGNS : PySem.W.nsIn K mainGlobals "MOST_SIGNS" = some (some (.int 60 tk_MOST_SIGNS)))
    (g0_MOST_PARTS : PySem.W.nsIn K mainGlobals "MOST_PARTS" = some (some (.int 20 tk_MOST_PARTS)))
    (g0_LONGEST_NAME : PySem.W.nsIn K mainGlobals "LONGEST_NAME" = some (some (.int 12 tk_LONGEST_NAME)))
    (g0_SMALL_LETTERS : PySem.W.nsIn K mainGlobals "SMALL_LETTERS" = some (some (.str "abcdefghijklmnopqrstuvwxyz" tk_SMALL_LETTERS)))
    (g0_LETTERS_AND_FIGURES : PySem.W.nsIn K mainGlobals "LETTERS_AND_FIGURES" = some (some (.str "abcdefghijklmnopqrstuvwxyzABCDEFGHIJKLMNOPQRSTUVWXYZ0123456789" tk_LETTERS_AND_FIGURES)))
    : ∃ fd : FuncData, (∀ (s : Shared) (v : Value), BindsTo s fd ⟨[v], []⟩ [("_law_script", v)]) ∧ ∀ base : Heap, K.In base → base.Ns mainGlobals mg → FnOk l.prog w K mg base CX0 8 fa fd ["_law_script"] (spLaw K) := by
  have e := hfa.symm.trans (PySem.W.mg_of X G a_law)
  cases e
  have cl_Truth : Cls K C_Truth := ⟨pg_Truth, hd_Truth, po_Truth, sa_Truth⟩
  have m_Truth : mg "Truth" = some (.ref C_Truth) := PySem.W.mg_of X G aC_Truth
  have M0_Truth : Mk0 K C_Truth := ⟨mk_Truth, i0_Truth, kc_Truth⟩
  have F_Truth_shown := fun_mk (st := s_Truth_shown) l_Truth_shown c_Truth_shown k_Truth_shown
  have b_Truth_shown := F_Truth_shown.binds (ps := ["self"]) fun _ _ _ _ _ _ us hl => by obtain ⟨_, rfl⟩ := ex1 us hl; rfl
  have t_Truth_shown : Meth K C_Truth "shown" f_Truth_shown := ⟨a_Truth_shown, i_Truth_shown, k_Truth_shown⟩
  have cl_Span : Cls K C_Span := ⟨pg_Span, hd_Span, po_Span, sa_Span⟩
  have m_Span : mg "Span" = some (.ref C_Span) := PySem.W.mg_of X G aC_Span
  have F_Span_init := fun_mk (st := s_Span_init) l_Span_init c_Span_init k_Span_init
  have b_Span_init := F_Span_init.binds (ps := ["self", "low", "high"]) fun _ _ _ _ _ _ us hl => by obtain ⟨_, _, _, rfl⟩ := ex3 us hl; rfl
  have K_Span : Mk K C_Span f_Span_init := ⟨mk_Span, a_Span_init, i_Span_init, kc_Span⟩
  have F_Span_shown := fun_mk (st := s_Span_shown) l_Span_shown c_Span_shown k_Span_shown
  have b_Span_shown := F_Span_shown.binds (ps := ["self"]) fun _ _ _ _ _ _ us hl => by obtain ⟨_, rfl⟩ := ex1 us hl; rfl
  have t_Span_shown : Meth K C_Span "shown" f_Span_shown := ⟨a_Span_shown, i_Span_shown, k_Span_shown⟩
  have cl_Letters : Cls K C_Letters := ⟨pg_Letters, hd_Letters, po_Letters, sa_Letters⟩
  have m_Letters : mg "Letters" = some (.ref C_Letters) := PySem.W.mg_of X G aC_Letters
  have F_Letters_init := fun_mk (st := s_Letters_init) l_Letters_init c_Letters_init k_Letters_init
  have b_Letters_init := F_Letters_init.binds (ps := ["self", "signs"]) fun _ _ _ _ _ _ us hl => by obtain ⟨_, _, rfl⟩ := ex2 us hl; rfl
  have K_Letters : Mk K C_Letters f_Letters_init := ⟨mk_Letters, a_Letters_init, i_Letters_init, kc_Letters⟩
  have F_Letters_shown := fun_mk (st := s_Letters_shown) l_Letters_shown c_Letters_shown k_Letters_shown
  have b_Letters_shown := F_Letters_shown.binds (ps := ["self"]) fun _ _ _ _ _ _ us hl => by obtain ⟨_, rfl⟩ := ex1 us hl; rfl
  have t_Letters_shown : Meth K C_Letters "shown" f_Letters_shown := ⟨a_Letters_shown, i_Letters_shown, k_Letters_shown⟩
  have cl_Record : Cls K C_Record := ⟨pg_Record, hd_Record, po_Record, sa_Record⟩
  have m_Record : mg "Record" = some (.ref C_Record) := PySem.W.mg_of X G aC_Record
  have F_Record_init := fun_mk (st := s_Record_init) l_Record_init c_Record_init k_Record_init
  have b_Record_init := F_Record_init.binds (ps := ["self", "parts"]) fun _ _ _ _ _ _ us hl => by obtain ⟨_, _, rfl⟩ := ex2 us hl; rfl
  have K_Record : Mk K C_Record f_Record_init := ⟨mk_Record, a_Record_init, i_Record_init, kc_Record⟩
  have F_Record_shown := fun_mk (st := s_Record_shown) l_Record_shown c_Record_shown k_Record_shown
  have b_Record_shown := F_Record_shown.binds (ps := ["self"]) fun _ _ _ _ _ _ us hl => by obtain ⟨_, rfl⟩ := ex1 us hl; rfl
  have t_Record_shown : Meth K C_Record "shown" f_Record_shown := ⟨a_Record_shown, i_Record_shown, k_Record_shown⟩
  have cl_Choice : Cls K C_Choice := ⟨pg_Choice, hd_Choice, po_Choice, sa_Choice⟩
  have m_Choice : mg "Choice" = some (.ref C_Choice) := PySem.W.mg_of X G aC_Choice
  have F_Choice_init := fun_mk (st := s_Choice_init) l_Choice_init c_Choice_init k_Choice_init
  have b_Choice_init := F_Choice_init.binds (ps := ["self", "cases"]) fun _ _ _ _ _ _ us hl => by obtain ⟨_, _, rfl⟩ := ex2 us hl; rfl
  have K_Choice : Mk K C_Choice f_Choice_init := ⟨mk_Choice, a_Choice_init, i_Choice_init, kc_Choice⟩
  have F_Choice_shown := fun_mk (st := s_Choice_shown) l_Choice_shown c_Choice_shown k_Choice_shown
  have b_Choice_shown := F_Choice_shown.binds (ps := ["self"]) fun _ _ _ _ _ _ us hl => by obtain ⟨_, rfl⟩ := ex1 us hl; rfl
  have t_Choice_shown : Meth K C_Choice "shown" f_Choice_shown := ⟨a_Choice_shown, i_Choice_shown, k_Choice_shown⟩
  have gm_RiseError : mg "RiseError" = some (.ref C_RiseError) := PySem.W.mg_of X G aC_RiseError
  have gc_RiseError : GlobV mg "RiseError" (.ref C_RiseError) := ⟨_, gm_RiseError, rfl⟩
  have gm_NoFit : mg "NoFit" = some (.ref C_NoFit) := PySem.W.mg_of X G aC_NoFit
  have gc_NoFit : GlobV mg "NoFit" (.ref C_NoFit) := ⟨_, gm_NoFit, rfl⟩
  have gm_Short : mg "Short" = some (.ref C_Short) := PySem.W.mg_of X G aC_Short
  have gc_Short : GlobV mg "Short" (.ref C_Short) := ⟨_, gm_Short, rfl⟩
  have gm_Wrong : mg "Wrong" = some (.ref C_Wrong) := PySem.W.mg_of X G aC_Wrong
  have gc_Wrong : GlobV mg "Wrong" (.ref C_Wrong) := ⟨_, gm_Wrong, rfl⟩
  have gm_Left : mg "Left" = some (.ref C_Left) := PySem.W.mg_of X G aC_Left
  have gc_Left : GlobV mg "Left" (.ref C_Left) := ⟨_, gm_Left, rfl⟩
  have gm_NoForm : mg "NoForm" = some (.ref C_NoForm) := PySem.W.mg_of X G aC_NoForm
  have gc_NoForm : GlobV mg "NoForm" (.ref C_NoForm) := ⟨_, gm_NoForm, rfl⟩
  have gm_NoText : mg "NoText" = some (.ref C_NoText) := PySem.W.mg_of X G aC_NoText
  have gc_NoText : GlobV mg "NoText" (.ref C_NoText) := ⟨_, gm_NoText, rfl⟩
  have gm_NotAhead : mg "NotAhead" = some (.ref C_NotAhead) := PySem.W.mg_of X G aC_NotAhead
  have gc_NotAhead : GlobV mg "NotAhead" (.ref C_NotAhead) := ⟨_, gm_NotAhead, rfl⟩
  have gm_BadPage : mg "BadPage" = some (.ref C_BadPage) := PySem.W.mg_of X G aC_BadPage
  have gc_BadPage : GlobV mg "BadPage" (.ref C_BadPage) := ⟨_, gm_BadPage, rfl⟩
  have gm_Twice : mg "Twice" = some (.ref C_Twice) := PySem.W.mg_of X G aC_Twice
  have gc_Twice : GlobV mg "Twice" (.ref C_Twice) := ⟨_, gm_Twice, rfl⟩
  have gm_Lacking : mg "Lacking" = some (.ref C_Lacking) := PySem.W.mg_of X G aC_Lacking
  have gc_Lacking : GlobV mg "Lacking" (.ref C_Lacking) := ⟨_, gm_Lacking, rfl⟩
  have xc_RiseError : ExcC K C_RiseError := ⟨xga_RiseError, xgt_RiseError, xcl_RiseError, xob_RiseError, xbe_RiseError, xis_RiseError, xhn_RiseError, xtk_RiseError⟩
  have xc_NoForm : ExcC K C_NoForm := ⟨xga_NoForm, xgt_NoForm, xcl_NoForm, xob_NoForm, xbe_NoForm, xis_NoForm, xhn_NoForm, xtk_NoForm⟩
  have F_made_of : FunAt K mg "made_of" s_made_of ["text", "signs"] f_made_of _ := ⟨fun_mk (st := s_made_of) l_made_of c_made_of k_made_of, (fun_mk (st := s_made_of) l_made_of c_made_of k_made_of).binds (ps := ["text", "signs"]) fun _ _ _ _ _ _ us hl => by obtain ⟨_, _, rfl⟩ := ex2 us hl; rfl, PySem.W.mg_of X G a_made_of⟩
  have F_is_name : FunAt K mg "is_name" s_is_name ["name"] f_is_name _ := ⟨fun_mk (st := s_is_name) l_is_name c_is_name k_is_name, (fun_mk (st := s_is_name) l_is_name c_is_name k_is_name).binds (ps := ["name"]) fun _ _ _ _ _ _ us hl => by obtain ⟨_, rfl⟩ := ex1 us hl; rfl, PySem.W.mg_of X G a_is_name⟩
  have F_names_of : FunAt K mg "names_of" s_names_of ["parts"] f_names_of _ := ⟨fun_mk (st := s_names_of) l_names_of c_names_of k_names_of, (fun_mk (st := s_names_of) l_names_of c_names_of k_names_of).binds (ps := ["parts"]) fun _ _ _ _ _ _ us hl => by obtain ⟨_, rfl⟩ := ex1 us hl; rfl, PySem.W.mg_of X G a_names_of⟩
  have F_shown_parts : FunAt K mg "shown_parts" s_shown_parts ["names", "forms"] f_shown_parts _ := ⟨fun_mk (st := s_shown_parts) l_shown_parts c_shown_parts k_shown_parts, (fun_mk (st := s_shown_parts) l_shown_parts c_shown_parts k_shown_parts).binds (ps := ["names", "forms"]) fun _ _ _ _ _ _ us hl => by obtain ⟨_, _, rfl⟩ := ex2 us hl; rfl, PySem.W.mg_of X G a_shown_parts⟩
  have F_law_cell_at : FunAt K mg "_law_cell_at" s_law_cell_at ["_law_script", "_law_k"] f_law_cell_at _ := ⟨fun_mk (st := s_law_cell_at) l_law_cell_at c_law_cell_at k_law_cell_at, (fun_mk (st := s_law_cell_at) l_law_cell_at c_law_cell_at k_law_cell_at).binds (ps := ["_law_script", "_law_k"]) fun _ _ _ _ _ _ us hl => by obtain ⟨_, _, rfl⟩ := ex2 us hl; rfl, PySem.W.mg_of X G a_law_cell_at⟩
  have F_law_kinds : FunAt K mg "_law_kinds" s_law_kinds ["_law_kept"] f_law_kinds _ := ⟨fun_mk (st := s_law_kinds) l_law_kinds c_law_kinds k_law_kinds, (fun_mk (st := s_law_kinds) l_law_kinds c_law_kinds k_law_kinds).binds (ps := ["_law_kept"]) fun _ _ _ _ _ _ us hl => by obtain ⟨_, rfl⟩ := ex1 us hl; rfl, PySem.W.mg_of X G a_law_kinds⟩
  have F_law_signs : FunAt K mg "_law_signs" s_law_signs ["_law_cell"] f_law_signs _ := ⟨fun_mk (st := s_law_signs) l_law_signs c_law_signs k_law_signs, (fun_mk (st := s_law_signs) l_law_signs c_law_signs k_law_signs).binds (ps := ["_law_cell"]) fun _ _ _ _ _ _ us hl => by obtain ⟨_, rfl⟩ := ex1 us hl; rfl, PySem.W.mg_of X G a_law_signs⟩
  have F_law_names : FunAt K mg "_law_names" s_law_names ["_law_cell", "_law_many"] f_law_names _ := ⟨fun_mk (st := s_law_names) l_law_names c_law_names k_law_names, (fun_mk (st := s_law_names) l_law_names c_law_names k_law_names).binds (ps := ["_law_cell", "_law_many"]) fun _ _ _ _ _ _ us hl => by obtain ⟨_, _, rfl⟩ := ex2 us hl; rfl, PySem.W.mg_of X G a_law_names⟩
  have F_law_made : FunAt K mg "_law_made" s_law_made ["_law_way", "_law_one", "_law_other"] f_law_made _ := ⟨fun_mk (st := s_law_made) l_law_made c_law_made k_law_made, (fun_mk (st := s_law_made) l_law_made c_law_made k_law_made).binds (ps := ["_law_way", "_law_one", "_law_other"]) fun _ _ _ _ _ _ us hl => by obtain ⟨_, _, _, rfl⟩ := ex3 us hl; rfl, PySem.W.mg_of X G a_law_made⟩
  have F_law_good : FunAt K mg "_law_good" s_law_good ["_law_way", "_law_one", "_law_other", "_law_due"] f_law_good _ := ⟨fun_mk (st := s_law_good) l_law_good c_law_good k_law_good, (fun_mk (st := s_law_good) l_law_good c_law_good k_law_good).binds (ps := ["_law_way", "_law_one", "_law_other", "_law_due"]) fun _ _ _ _ _ _ us hl => by obtain ⟨_, _, _, _, rfl⟩ := ex4 us hl; rfl, PySem.W.mg_of X G a_law_good⟩
  have F_law_text : FunAt K mg "_law_text" s_law_text ["_law_script"] f_law_text _ := ⟨fun_mk (st := s_law_text) l_law_text c_law_text k_law_text, (fun_mk (st := s_law_text) l_law_text c_law_text k_law_text).binds (ps := ["_law_script"]) fun _ _ _ _ _ _ us hl => by obtain ⟨_, rfl⟩ := ex1 us hl; rfl, PySem.W.mg_of X G a_law_text⟩
  have F_law_parts : FunAt K mg "_law_parts" s_law_parts ["_law_script"] f_law_parts _ := ⟨fun_mk (st := s_law_parts) l_law_parts c_law_parts k_law_parts, (fun_mk (st := s_law_parts) l_law_parts c_law_parts k_law_parts).binds (ps := ["_law_script"]) fun _ _ _ _ _ _ us hl => by obtain ⟨_, rfl⟩ := ex1 us hl; rfl, PySem.W.mg_of X G a_law_parts⟩
  have F_law_named : FunAt K mg "_law_named" s_law_named ["_law_parts_here"] f_law_named _ := ⟨fun_mk (st := s_law_named) l_law_named c_law_named k_law_named, (fun_mk (st := s_law_named) l_law_named c_law_named k_law_named).binds (ps := ["_law_parts_here"]) fun _ _ _ _ _ _ us hl => by obtain ⟨_, rfl⟩ := ex1 us hl; rfl, PySem.W.mg_of X G a_law_named⟩
  have F_law := fun_mk (st := s_law) l_law c_law k_law
  have nb : NB mg := ⟨PySem.W.mg_none_of X G z_len, PySem.W.mg_none_of X G z_range, PySem.W.mg_none_of X G z_int, PySem.W.mg_none_of X G z_str, PySem.W.mg_none_of X G z_bool, PySem.W.mg_none_of X G z_tuple, PySem.W.mg_none_of X G z_isinstance, PySem.W.mg_none_of X G z_list, PySem.W.mg_none_of X G z_all, PySem.W.mg_none_of X G z_zip, PySem.W.mg_none_of X G z_set⟩
  have nbV := PySem.W.mg_none_of X G z_ValueError
  have g_MOST_SIGNS : GlobV mg "MOST_SIGNS" (.int 60) := ⟨_, PySem.W.mg_of X G g0_MOST_SIGNS, ⟨_, rfl⟩⟩
  have g_MOST_PARTS : GlobV mg "MOST_PARTS" (.int 20) := ⟨_, PySem.W.mg_of X G g0_MOST_PARTS, ⟨_, rfl⟩⟩
  have g_LONGEST_NAME : GlobV mg "LONGEST_NAME" (.int 12) := ⟨_, PySem.W.mg_of X G g0_LONGEST_NAME, ⟨_, rfl⟩⟩
  have g_SMALL_LETTERS : GlobV mg "SMALL_LETTERS" (.str L26) := ⟨_, PySem.W.mg_of X G g0_SMALL_LETTERS, ⟨_, rfl⟩⟩
  have g_LETTERS_AND_FIGURES : GlobV mg "LETTERS_AND_FIGURES" (.str L62) := ⟨_, PySem.W.mg_of X G g0_LETTERS_AND_FIGURES, ⟨_, rfl⟩⟩
  refine ⟨PySem.W.fnOf "law" "law" (defArgs s_law) (defBody s_law) (defScope s_law) .none kV_law dc_law pm_law an_law cd_law ct_law, fun s v => .of_eq rfl, fun base _ _ => ?_⟩
  have D_made_of := ok_made_of (P := l.prog) (w := w) (base := base) nb F_made_of
  have D_is_name := ok_is_name nb g_LONGEST_NAME g_SMALL_LETTERS F_is_name D_made_of
  have D_names_of := ok_names_of nb g_MOST_PARTS F_names_of D_is_name
  have DB_names_of := bad_names_of nb xi_NoForm gm_NoForm g_MOST_PARTS F_names_of D_is_name
  have TS : SpanCls K C_Span := ⟨cl_Span, n_Span_low, n_Span_high⟩
  have TL : LetCls K C_Letters := ⟨cl_Letters, n_Letters_signs⟩
  have TR : TwoCls K C_Record := ⟨cl_Record, n_Record_names, n_Record_forms⟩
  have TC : TwoCls K C_Choice := ⟨cl_Choice, n_Choice_names, n_Choice_forms⟩
  have M_Span : MakeOk l.prog w K mg base 1 "Span" C_Span ["self", "low", "high"] (spSpanInit C_Span) := ⟨_, _, K_Span, ok_span_init TS F_Span_init, b_Span_init, m_Span⟩
  have MB_Span : MakeOkE l.prog w K mg base 1 "Span" C_Span ["self", "low", "high"] (spSpanBad C_NoForm C_Span) := ⟨_, _, K_Span, bad_span_init xi_NoForm gm_NoForm TS F_Span_init, b_Span_init, m_Span⟩
  have M_Letters : MakeOk l.prog w K mg base 2 "Letters" C_Letters ["self", "signs"] (spLetInit C_Letters) := ⟨_, _, K_Letters, ok_let_init nb g_MOST_SIGNS g_LETTERS_AND_FIGURES TL F_Letters_init D_made_of, b_Letters_init, m_Letters⟩
  have MB_Letters : MakeOkE l.prog w K mg base 2 "Letters" C_Letters ["self", "signs"] (spLetBad C_NoForm C_Letters) := ⟨_, _, K_Letters, bad_let_init nb xi_NoForm gm_NoForm g_MOST_SIGNS g_LETTERS_AND_FIGURES TL F_Letters_init D_made_of, b_Letters_init, m_Letters⟩
  have M_Record : MakeOk l.prog w K mg base 4 "Record" C_Record ["self", "parts"] (spTwoInit C_Record) := ⟨_, _, K_Record, ok_rec_init nb TR F_Record_init D_names_of, b_Record_init, m_Record⟩
  have MB_Record : MakeOkE l.prog w K mg base 4 "Record" C_Record ["self", "parts"] (spTwoBad C_NoForm C_Record) := ⟨_, _, K_Record, bad_rec_init nb TR F_Record_init DB_names_of, b_Record_init, m_Record⟩
  have M_Choice : MakeOk l.prog w K mg base 4 "Choice" C_Choice ["self", "cases"] (spTwoInit C_Choice) := ⟨_, _, K_Choice, ok_cho_init nb TC F_Choice_init D_names_of, b_Choice_init, m_Choice⟩
  have MB_Choice : MakeOkE l.prog w K mg base 4 "Choice" C_Choice ["self", "cases"] (spTwoBad C_NoForm C_Choice) := ⟨_, _, K_Choice, bad_cho_init nb TC F_Choice_init DB_names_of, b_Choice_init, m_Choice⟩
  have M_shown : MethOk l.prog w K mg base 1 C_Truth "shown" ["self"] (spTruthShown C_Truth) := ⟨_, _, ok_truth_shown F_Truth_shown, b_Truth_shown, t_Truth_shown⟩
  have D_shown_parts := ok_shown_parts nb cl_Truth F_shown_parts M_shown
  have MS : MSh l.prog w K mg base ⟨C_Span, C_Letters, C_Record, C_Choice, C_Truth, C_NoForm⟩ := ⟨⟨_, _, ok_span_shown nb TS F_Span_shown, b_Span_shown, t_Span_shown⟩, ⟨_, _, ok_let_shown TL F_Letters_shown, b_Letters_shown, t_Letters_shown⟩, ⟨_, _, ok_rec_shown TR F_Record_shown D_shown_parts, b_Record_shown, t_Record_shown⟩, ⟨_, _, ok_cho_shown TC F_Choice_shown D_shown_parts, b_Choice_shown, t_Choice_shown⟩, cl_Span, cl_Letters, cl_Record, cl_Choice⟩
  have NM : Nms mg ⟨C_NoFit, C_Short, C_Wrong, C_Left, C_NoForm, C_NoText, C_NotAhead, C_BadPage, C_Twice, C_Lacking⟩ := ⟨gc_NoFit, gc_Short, gc_Wrong, gc_Left, gc_NoForm, gc_NoText, gc_NotAhead, gc_BadPage, gc_Twice, gc_Lacking⟩
  have kF : Kits K ⟨C_NoFit, C_Short, C_Wrong, C_Left, C_NoForm, C_NoText, C_NotAhead, C_BadPage, C_Twice, C_Lacking⟩ C_NoForm [false, false, false, false, true, false, false, false, false, false, true] :=
    ⟨xc_NoForm, _, _, _, _, _, _, _, _, _, _, rfl, kt_NoForm_NoFit, kt_NoForm_Short, kt_NoForm_Wrong, kt_NoForm_Left, kit_same .., kt_NoForm_NoText, kt_NoForm_NotAhead, kt_NoForm_BadPage, kt_NoForm_Twice, kt_NoForm_Lacking, kt_NoForm_ValueError⟩
  have D_law_cell_at := ok_law_cell_at (P := l.prog) (w := w) (base := base) nb F_law_cell_at
  have D_law_kinds := ok_law_kindsG (P := l.prog) (w := w) (base := base) nb nbV NM F_law_kinds
  have D_law_signs := ok_law_signs (P := l.prog) (w := w) (base := base) nb F_law_signs
  have D_law_names := ok_law_names (P := l.prog) (w := w) (base := base) nb F_law_names
  have D_law_text := ok_law_text nb F_law_text D_law_cell_at D_law_signs
  have D_law_parts := ok_law_parts nb M0_Truth m_Truth F_law_parts D_law_cell_at D_law_names
  have D_law_named := ok_law_named (P := l.prog) (w := w) (base := base) nb F_law_named
  have D_law_made := ok_law_made (c := ⟨C_Span, C_Letters, C_Record, C_Choice, C_Truth, C_NoForm⟩) gm_RiseError xc_RiseError xt_RiseError mr_NoForm_RiseError F_law_made M_Span MB_Span M_Letters MB_Letters M_Record MB_Record M_Choice MB_Choice
  have D_law_good := ok_law_good nb kF M0_Truth m_Truth MS F_law_good D_law_made D_law_kinds
  exact ok_law nb F_law D_law_cell_at D_law_text D_law_parts D_law_named D_law_good

theorem walk {l : PySem.W.OpenLaw} {q : Program} {loose : List Str} {XP : (Str → Option Value) → Heap → Prop} {YP : World → Heap → Prop} {d : DefRec} {K : Params → PySem.W.Frag} (hn : l.most = some 63) (hdf : d.params.defaults = [])
    (hY : ∀ (w : World) (h : Heap), YP w h → (K w.params).In h)
    (F : ∀ (w : World) (mg : Str → Option Value) (fa : Addr) (h : Heap), (K w.params).In h → h.Ns mainGlobals mg → mg d.name = some (.ref fa) →
      ∃ fd : FuncData, (∀ (s : Shared) (u : Value), BindsTo s fd ⟨[u], []⟩ [("_law_script", u)]) ∧ ∀ base : Heap, (K w.params).In base → base.Ns mainGlobals mg → FnOk l.prog w (K w.params) mg base CX0 8 fa fd ["_law_script"] (spLaw (K w.params))) :
    PySem.W.WalkO q loose XP YP l.row.toRowW d [] (fun f vs => PySem.call f vs) :=
  L2.walk_of (n := 63) (k := 8) (x := "_law_script") (CX := fun _ => CX0) (sp := fun w => spLaw (K w.params)) hn (by decide) hdf ⟨rfl, by decide, by decide⟩ hY F (fun _ _ a ns hl _ hS => ⟨a, ns, rfl, hS, hl, fun _ => rfl⟩) fun _ _ _ _ _ z => z
end
end KR
/-! the great twins of the walk are not laid: these names are taken -/
def PySem.W.Fast.tw14319992930077143635 : Nat := 0
def PySem.W.Fast.tw11111615931707813418 : Nat := 0
def PySem.W.Fast.tw5702363061213004542 : Nat := 0
def PySem.W.Fast.tw16939183187049509175 : Nat := 0
def PySem.W.Fast.tw11635268431625029067 : Nat := 0
def PySem.W.Fast.tw2455659481231659973 : Nat := 0
def PySem.W.Fast.tw8205512469403107064 : Nat := 0
def PySem.W.Fast.tw164019758390566332 : Nat := 0
def PySem.W.Fast.tw6107310849467980147 : Nat := 0
def PySem.W.Fast.tw475772104007320291 : Nat := 0
def PySem.W.Fast.tw10225483618102878899 : Nat := 0
def PySem.W.Fast.tw11513152362916460229 : Nat := 0
def PySem.W.Fast.tw11978959662101874394 : Nat := 0
def PySem.W.Fast.tw18309602418260901782 : Nat := 0
def PySem.W.Fast.tw12749889982805321683 : Nat := 0
def PySem.W.Fast.tw15631498429355046326 : Nat := 0
def PySem.W.Fast.tw15559203646586869724 : Nat := 0
def PySem.W.Fast.tw10503637784432036112 : Nat := 0
def PySem.W.Fast.tw6525804557014070350 : Nat := 0
def PySem.W.Fast.tw10024659550327171221 : Nat := 0
def PySem.W.Fast.tw9155460879805525659 : Nat := 0
def PySem.W.Fast.tw15968155853652897602 : Nat := 0
def PySem.W.Fast.tw4156596590194276344 : Nat := 0
def PySem.W.Fast.tw7037281986789551800 : Nat := 0
def PySem.W.Fast.tw4108816782108290001 : Nat := 0
def PySem.W.Fast.tw12940242116484184620 : Nat := 0
def PySem.W.Fast.tw1918809345556676524 : Nat := 0
def PySem.W.Fast.tw14626791756596473390 : Nat := 0
def PySem.W.Fast.tw9786440781201593731 : Nat := 0
def PySem.W.Fast.tw12832205842358965776 : Nat := 0
def PySem.W.Fast.tw17804247018763683850 : Nat := 0
def PySem.W.Fast.tw9602675586889666960 : Nat := 0
def PySem.W.Fast.tw4877400874391746185 : Nat := 0
def PySem.W.Fast.tw7288467182546111127 : Nat := 0
def PySem.W.Fast.tw16575377836003395001 : Nat := 0
def PySem.W.Fast.tw9056156896273200000 : Nat := 0
def PySem.W.Fast.tw5760951583740626225 : Nat := 0
def PySem.W.Fast.tw8496093318768466199 : Nat := 0
def PySem.W.Fast.tw16074533741208460612 : Nat := 0
def PySem.W.Fast.tw17014475293412243078 : Nat := 0
def PySem.W.Fast.tw8001310357483228431 : Nat := 0
def PySem.W.Fast.tw6427203573641702950 : Nat := 0
def PySem.W.Fast.tw13381768514746687123 : Nat := 0
def PySem.W.Fast.tw591195727787435986 : Nat := 0
def PySem.W.Fast.tw10686239140912521720 : Nat := 0
def PySem.W.Fast.tw9061745621956700166 : Nat := 0
def PySem.W.Fast.tw17204965104799694898 : Nat := 0
def PySem.W.Fast.tw524433396357712334 : Nat := 0
def PySem.W.Fast.tw13435208183703616175 : Nat := 0
def PySem.W.Fast.tw6834502318920355570 : Nat := 0
def PySem.W.Fast.tw14288019427514876059 : Nat := 0
def PySem.W.Fast.tw2792679526863377788 : Nat := 0
def PySem.W.Fast.tw15465147236498403250 : Nat := 0
def PySem.W.Fast.tw10420834177326825188 : Nat := 0
def PySem.W.Fast.tw666540341287513353 : Nat := 0
def PySem.W.Fast.tw12649525998326771734 : Nat := 0
def PySem.W.Fast.tw11958522006935516252 : Nat := 0
def PySem.W.Fast.tw12993474924241618378 : Nat := 0
open PySem PySem.W PyProof.Rows
set_option maxRecDepth 100000 in
set_option maxHeartbeats 0 in
theorem PySem.Challenge.cw_keyrise_k24_no_form_holds : PySem.Challenge.rw_keyrise_k24_no_form.Holds := by
  w_on; o_law; k_head; (case hw => w_witness2)
  k_fill
  refine KR.walk (l := PySem.Challenge.rw_keyrise_k24_no_form) rfl rfl (fun w h Y => PySem.W.kIn_of Y) ?F
  case F =>
    intro w mg fa h KX G hmg
    refine' KR.all_mk KX G hmg ?aC_Truth ?pg_Truth ?hd_Truth ?po_Truth ?sa_Truth ?mk_Truth ?kc_Truth ?i0_Truth ?a_Truth_shown ?i_Truth_shown ?l_Truth_shown ?c_Truth_shown ?k_Truth_shown ?aC_Span ?pg_Span ?hd_Span ?po_Span ?sa_Span ?mk_Span ?kc_Span ?n_Span_low ?n_Span_high ?a_Span_init ?i_Span_init ?l_Span_init ?c_Span_init ?k_Span_init ?a_Span_shown ?i_Span_shown ?l_Span_shown ?c_Span_shown ?k_Span_shown ?aC_Letters ?pg_Letters ?hd_Letters ?po_Letters ?sa_Letters ?mk_Letters ?kc_Letters ?n_Letters_signs ?a_Letters_init ?i_Letters_init ?l_Letters_init ?c_Letters_init ?k_Letters_init ?a_Letters_shown ?i_Letters_shown ?l_Letters_shown ?c_Letters_shown ?k_Letters_shown ?aC_Record ?pg_Record ?hd_Record ?po_Record ?sa_Record ?mk_Record ?kc_Record ?n_Record_names ?n_Record_forms ?a_Record_init ?i_Record_init ?l_Record_init ?c_Record_init ?k_Record_init ?a_Record_shown ?i_Record_shown ?l_Record_shown ?c_Record_shown ?k_Record_shown ?aC_Choice ?pg_Choice ?hd_Choice ?po_Choice ?sa_Choice ?mk_Choice ?kc_Choice ?n_Choice_names ?n_Choice_forms ?a_Choice_init ?i_Choice_init ?l_Choice_init ?c_Choice_init ?k_Choice_init ?a_Choice_shown ?i_Choice_shown ?l_Choice_shown ?c_Choice_shown ?k_Choice_shown ?aC_RiseError ?aC_NoFit ?aC_Short ?aC_Wrong ?aC_Left ?aC_NoForm ?aC_NoText ?aC_NotAhead ?aC_BadPage ?aC_Twice ?aC_Lacking ?xga_RiseError ?xgt_RiseError ?xcl_RiseError ?xob_RiseError ?xbe_RiseError ?xis_RiseError ?xhn_RiseError ?xtk_RiseError ?xt_RiseError ?xga_NoForm ?xgt_NoForm ?xcl_NoForm ?xob_NoForm ?xbe_NoForm ?xis_NoForm ?xhn_NoForm ?xtk_NoForm ?xt_NoForm ?xi_NoForm ?kt_NoForm_NoFit ?kt_NoForm_Short ?kt_NoForm_Wrong ?kt_NoForm_Left ?kt_NoForm_NoText ?kt_NoForm_NotAhead ?kt_NoForm_BadPage ?kt_NoForm_Twice ?kt_NoForm_Lacking ?kt_NoForm_ValueError ?mr_NoForm_RiseError ?a_made_of ?l_made_of ?c_made_of ?k_made_of ?a_is_name ?l_is_name ?c_is_name ?k_is_name ?a_names_of ?l_names_of ?c_names_of ?k_names_of ?a_shown_parts ?l_shown_parts ?c_shown_parts ?k_shown_parts ?a_law_cell_at ?l_law_cell_at ?c_law_cell_at ?k_law_cell_at ?a_law_kinds ?l_law_kinds ?c_law_kinds ?k_law_kinds ?a_law_signs ?l_law_signs ?c_law_signs ?k_law_signs ?a_law_names ?l_law_names ?c_law_names ?k_law_names ?a_law_made ?l_law_made ?c_law_made ?k_law_made ?a_law_good ?l_law_good ?c_law_good ?k_law_good ?a_law_text ?l_law_text ?c_law_text ?k_law_text ?a_law_parts ?l_law_parts ?c_law_parts ?k_law_parts ?a_law_named ?l_law_named ?c_law_named ?k_law_named ?a_law ?l_law ?c_law ?k_law ?z_len ?z_range ?z_int ?z_str ?z_bool ?z_tuple ?z_isinstance ?z_list ?z_all ?z_zip ?z_set ?z_ValueError ?g0_MOST_SIGNS ?g0_MOST_PARTS ?g0_LONGEST_NAME ?g0_SMALL_LETTERS ?g0_LETTERS_AND_FIGURES
    (case aC_Truth => k_is)
    (case pg_Truth => k_is)
    (case hd_Truth => k_is)
    (case po_Truth => k_is)
    (case sa_Truth => k_is)
    (case mk_Truth => k_is)
    (case kc_Truth => k_is)
    (case i0_Truth => k_is)
    (case a_Truth_shown => k_is)
    (case i_Truth_shown => k_is)
    (case l_Truth_shown => k_is)
    (case c_Truth_shown => k_is)
    (case k_Truth_shown => k_is)
    (case aC_Span => k_is)
    (case pg_Span => k_is)
    (case hd_Span => k_is)
    (case po_Span => k_is)
    (case sa_Span => k_is)
    (case mk_Span => k_is)
    (case kc_Span => k_is)
    (case n_Span_low => k_is)
    (case n_Span_high => k_is)
    (case a_Span_init => k_is)
    (case i_Span_init => k_is)
    (case l_Span_init => k_is)
    (case c_Span_init => k_is)
    (case k_Span_init => k_is)
    (case a_Span_shown => k_is)
    (case i_Span_shown => k_is)
    (case l_Span_shown => k_is)
    (case c_Span_shown => k_is)
    (case k_Span_shown => k_is)
    (case aC_Letters => k_is)
    (case pg_Letters => k_is)
    (case hd_Letters => k_is)
    (case po_Letters => k_is)
    (case sa_Letters => k_is)
    (case mk_Letters => k_is)
    (case kc_Letters => k_is)
    (case n_Letters_signs => k_is)
    (case a_Letters_init => k_is)
    (case i_Letters_init => k_is)
    (case l_Letters_init => k_is)
    (case c_Letters_init => k_is)
    (case k_Letters_init => k_is)
    (case a_Letters_shown => k_is)
    (case i_Letters_shown => k_is)
    (case l_Letters_shown => k_is)
    (case c_Letters_shown => k_is)
    (case k_Letters_shown => k_is)
    (case aC_Record => k_is)
    (case pg_Record => k_is)
    (case hd_Record => k_is)
    (case po_Record => k_is)
    (case sa_Record => k_is)
    (case mk_Record => k_is)
    (case kc_Record => k_is)
    (case n_Record_names => k_is)
    (case n_Record_forms => k_is)
    (case a_Record_init => k_is)
    (case i_Record_init => k_is)
    (case l_Record_init => k_is)
    (case c_Record_init => k_is)
    (case k_Record_init => k_is)
    (case a_Record_shown => k_is)
    (case i_Record_shown => k_is)
    (case l_Record_shown => k_is)
    (case c_Record_shown => k_is)
    (case k_Record_shown => k_is)
    (case aC_Choice => k_is)
    (case pg_Choice => k_is)
    (case hd_Choice => k_is)
    (case po_Choice => k_is)
    (case sa_Choice => k_is)
    (case mk_Choice => k_is)
    (case kc_Choice => k_is)
    (case n_Choice_names => k_is)
    (case n_Choice_forms => k_is)
    (case a_Choice_init => k_is)
    (case i_Choice_init => k_is)
    (case l_Choice_init => k_is)
    (case c_Choice_init => k_is)
    (case k_Choice_init => k_is)
    (case a_Choice_shown => k_is)
    (case i_Choice_shown => k_is)
    (case l_Choice_shown => k_is)
    (case c_Choice_shown => k_is)
    (case k_Choice_shown => k_is)
    (case aC_RiseError => k_is)
    (case aC_NoFit => k_is)
    (case aC_Short => k_is)
    (case aC_Wrong => k_is)
    (case aC_Left => k_is)
    (case aC_NoForm => k_is)
    (case aC_NoText => k_is)
    (case aC_NotAhead => k_is)
    (case aC_BadPage => k_is)
    (case aC_Twice => k_is)
    (case aC_Lacking => k_is)
    (case xga_RiseError => k_is)
    (case xgt_RiseError => k_is)
    (case xcl_RiseError => k_is)
    (case xob_RiseError => k_is)
    (case xbe_RiseError => k_is)
    (case xis_RiseError => k_is)
    (case xhn_RiseError => k_is)
    (case xtk_RiseError => k_is)
    (case xt_RiseError => k_is)
    (case xga_NoForm => k_is)
    (case xgt_NoForm => k_is)
    (case xcl_NoForm => k_is)
    (case xob_NoForm => k_is)
    (case xbe_NoForm => k_is)
    (case xis_NoForm => k_is)
    (case xhn_NoForm => k_is)
    (case xtk_NoForm => k_is)
    (case xt_NoForm => k_is)
    (case xi_NoForm => k_exc)
    (case kt_NoForm_NoFit => kit_is)
    (case kt_NoForm_Short => kit_is)
    (case kt_NoForm_Wrong => kit_is)
    (case kt_NoForm_Left => kit_is)
    (case kt_NoForm_NoText => kit_is)
    (case kt_NoForm_NotAhead => kit_is)
    (case kt_NoForm_BadPage => kit_is)
    (case kt_NoForm_Twice => kit_is)
    (case kt_NoForm_Lacking => kit_is)
    (case kt_NoForm_ValueError => kit_is)
    (case mr_NoForm_RiseError => k_is)
    (case a_made_of => k_is)
    (case l_made_of => k_is)
    (case c_made_of => k_is)
    (case k_made_of => k_is)
    (case a_is_name => k_is)
    (case l_is_name => k_is)
    (case c_is_name => k_is)
    (case k_is_name => k_is)
    (case a_names_of => k_is)
    (case l_names_of => k_is)
    (case c_names_of => k_is)
    (case k_names_of => k_is)
    (case a_shown_parts => k_is)
    (case l_shown_parts => k_is)
    (case c_shown_parts => k_is)
    (case k_shown_parts => k_is)
    (case a_law_cell_at => k_is)
    (case l_law_cell_at => k_is)
    (case c_law_cell_at => k_is)
    (case k_law_cell_at => k_is)
    (case a_law_kinds => k_is)
    (case l_law_kinds => k_is)
    (case c_law_kinds => k_is)
    (case k_law_kinds => k_is)
    (case a_law_signs => k_is)
    (case l_law_signs => k_is)
    (case c_law_signs => k_is)
    (case k_law_signs => k_is)
    (case a_law_names => k_is)
    (case l_law_names => k_is)
    (case c_law_names => k_is)
    (case k_law_names => k_is)
    (case a_law_made => k_is)
    (case l_law_made => k_is)
    (case c_law_made => k_is)
    (case k_law_made => k_is)
    (case a_law_good => k_is)
    (case l_law_good => k_is)
    (case c_law_good => k_is)
    (case k_law_good => k_is)
    (case a_law_text => k_is)
    (case l_law_text => k_is)
    (case c_law_text => k_is)
    (case k_law_text => k_is)
    (case a_law_parts => k_is)
    (case l_law_parts => k_is)
    (case c_law_parts => k_is)
    (case k_law_parts => k_is)
    (case a_law_named => k_is)
    (case l_law_named => k_is)
    (case c_law_named => k_is)
    (case k_law_named => k_is)
    (case a_law => k_is)
    (case l_law => k_is)
    (case c_law => k_is)
    (case k_law => k_is)
    (case z_len => k_is)
    (case z_range => k_is)
    (case z_int => k_is)
    (case z_str => k_is)
    (case z_bool => k_is)
    (case z_tuple => k_is)
    (case z_isinstance => k_is)
    (case z_list => k_is)
    (case z_all => k_is)
    (case z_zip => k_is)
    (case z_set => k_is)
    (case z_ValueError => k_is)
    (case g0_MOST_SIGNS => k_is)
    (case g0_MOST_PARTS => k_is)
    (case g0_LONGEST_NAME => k_is)
    (case g0_SMALL_LETTERS => k_is)
    (case g0_LETTERS_AND_FIGURES => k_is)


